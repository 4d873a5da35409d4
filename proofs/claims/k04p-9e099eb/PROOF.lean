import PyProof.Rows.All
import Wide.All
import OpenK.AllK
import Wide.FinOn
import PyProof.ReprRoads
import HandS.Base
import HandS.Call
import HandS.List
import HandS.Dict
import HandS.Ends
import HandS.Words
import HandS.Exc
import HandS.ExcOwn
import HandS.TryOnly
import KE.KExcInit
import KE.KIsAll
import HandS.ExcIs
import HandS.ExcField
import PyProof.InstEq
import HandS.TryMany
import HandS.Defaults
import PyProof.StrLawsRepr
import HandS.Wide
import HandS.Comp
import HandS.Iter
import HandS.Text
import HandS.More
import HandS.Style
import HandS.StrMore
import HandS.IsInst
import HandS.Replace
import HandS.RaiseMore
import HandS.WordsList
import HandS.WordsDict
import HandS.WordsExc
import HandS.Walk
import HandS.Codes
import PyProof.Rows.StrFin3
import KE.KDictPairs
import PyProof.Rows.FactsExc_KeyError
import HandS.Head0
import HandS.Head1
import HandS.Head2
import HandS.HeadEnd
import HandS.HeadHook1
import HandS.HeadHook2
import PySem.Challenge.RW_formatrepair_k04_exceptions_and_fields
set_option Elab.async false
set_option linter.all false
set_option maxRecDepth 100000
set_option maxHeartbeats 4000000
namespace Gd
open PySem PySem.Spec PyProof.Rows L2
/-- no repr is under way -/
def Clean (A : Around) : Prop := A.guards = some []
/-- a contract that holds where no repr is under way -/
structure FnG (P : Program) (w : World) (K : PySem.W.Frag) (mg : Str → Option Value) (base : Heap) (CX : CXT) (k : Nat) (f : Addr) (fd : FuncData) (ps : List Str) (sp : Sp) : Prop where
  len : ∀ vs H Q E, sp vs H Q E → vs.length = ps.length
  run : ∀ (A : Around) (outer : List Env) (s : Shared) (H : Hp) (args : Args) (us : List Value) (vs : List V) (Q : VK) (E : XK), Clean A → Room k A →
    Env0 P w K mg base A outer s H → BindsTo s fd args (ps.zip us) → Vals vs us → sp vs H Q E →
    codeAny (model P w) A (.call (.ref f) args) (CR CX outer P w H s Q E) s
section
variable {P : Program} {w : World} {K : PySem.W.Frag} {mg : Str → Option Value} {base : Heap} {CX : CXT} {k j : Nat} {f : Addr} {fd : FuncData} {ps : List Str} {sp : Sp}
theorem FnG.of (F : FnOk P w K mg base CX k f fd ps sp) : FnG P w K mg base CX k f fd ps sp :=
  ⟨F.len, fun A outer s H args us vs Q E _ hr e0 hb r h => F.run A outer s H args us vs Q E hr e0 hb r h⟩
theorem FnG.mono (F : FnG P w K mg base CX j f fd ps sp) (h : j ≤ k) : FnG P w K mg base CX k f fd ps sp :=
  ⟨F.len, fun A outer s H args us vs Q E hc hr e0 hb r q => F.run A outer s H args us vs Q E hc (hr.mono h) e0 hb r q⟩
/-- a def of the text keeps its contract: its body as rules, and their reading -/
theorem okG {CX : CXT} {x qual : Str} {st : Stmt} {N : List Str} (F : Fun K x qual st f fd) (S : FnScope N ps (defScope st)) (len : ∀ vs H Q E, sp vs H Q E → vs.length = ps.length)
    (hbody : ∀ (cdv : Value) (A : Around) (outer : List Env) (s : Shared) (H : Hp) (vs : List V) (Q : VK) (E : XK), Clean A → Room k (A.deeper (envOfC qual (defScope st) s.heap.objs.size f cdv)) → sp vs H Q E →
      ∃ t, PSs (cxOf CX P w K mg base N qual (defScope st) f cdv A outer s H E) (defBody st) t ∧ t { nx := fun _ H' => Q .non H', rt := Q } (start N vs) H) : FnG P w K mg base CX (k + 1) f fd ps sp := by
  obtain ⟨oc, od, kV, doc, pm, an, cdv, ct, osl, efd, lk, hcd⟩ := F.ex
  subst efd
  refine ⟨len, fun A outer s H args us vs Q E hc hr e0 hb r hsp => ?_⟩
  have bk : ∀ b o, base.get? b = some o → s.heap.get? b = some o := fun b o e => (e0.bs b o e).1
  have KX : K.In s.heap := e0.mod.kin.keeps bk
  have hkind : ∀ y ∈ ps.zip us, (defScope st).names.lookup y.1 = some .local ∨ ((defScope st).names.lookup y.1 = some .cell ∧ ((cellsFrom (s.heap.objs.size + 1) (defScope st).names []).lookup y.1).isSome = true) := by
    rintro ⟨n, v⟩ hy
    exact (S.par n (List.of_mem_zip hy).1).imp id fun q => ⟨q, PySem.W.cellsFrom_some _ _ _ (.inl q)⟩
  refine codeAny_call_function hr.depth (KX _ _ lk) rfl S.co S.gen rfl (PySem.W.codeRec_of KX hcd) (hb _ _ _ _ (wpAny_newFunctionEnv_cells S.kind hkind ?_))
  intro env he s1 x
  subst he
  refine ⟨(e0.mod.nolimit.keeps bk).keeps x.toInCall.keep, codeAny_func ?_⟩
  obtain ⟨t, ht, hq⟩ := hbody cdv A outer s H vs Q E hc (hr.deeper _) hsp
  have I := inv_start (CX := CX) (E := E) S hr.hd e0 (len _ _ _ _ hsp) r x
  refine wpAny_mono (ht.run [] s1 (start N vs) H _ I hq) (fun fl s' hs => ?_) fun _ _ z => z
  match fl, hs with
  | .ret u, ⟨v, σ', H', J, rv, q⟩ => exact ⟨v, H', J.os, J.bare, J.base, J.hok, rv, q⟩
  | .next, ⟨σ', H', J, q⟩ => exact ⟨V.non, H', J.os, J.bare, J.base, J.hok, rfl, q⟩
  | .brk, ⟨_, _, _, q⟩ => exact q.elim
  | .cont, ⟨_, _, _, q⟩ => exact q.elim
end
section
variable {X : Cx} {CX : CXT} {k : Nat} {f : Addr} {fd : FuncData} {ps ks : List Str} {sp : Sp} {dvs : List V} {ds : List Value} {E : XK} {x : Str} {p pos : Pos} {e : Expr} {es : List Expr} {t tk : TA} {kws : List Keyword}
theorem runG {pins : List (Addr × Obj)} {σ : L2.St} {H : Hp} {s : Shared} {Q : VK} {us : List Value} {vs : List V} (F : FnG X.prog X.w X.K X.mg X.base CX k f fd ps sp) (hc : Clean X.A) (hr : Room k X.A)
    (hb : Binds X.K fd ps ds) (hd : Vals dvs ds) (hx : Passes CX X E) (I : Inv X pins σ H s) (r : Vals vs us) (h : sp (vs ++ dvs) H Q E) :
    wpAny (model X.prog X.w) X.A (call (.ref f) us) (EP X pins σ Q) X.xe s := by
  have r2 := r.append hd
  have hl : (us ++ ds).length = ps.length := r2.length ▸ F.len _ _ _ _ h
  refine wpAny_call (codeAny_mono (F.run X.A X.stack s H ⟨us, []⟩ (us ++ ds) (vs ++ dvs) Q E hc hr I.env0 (hb s us I.kIn hl) r2 h) ?_)
  intro r s' hq
  match r, hq with
  | .error e, hq => exact hx pins σ H s e s' I hq
  | .ok (.ret u), hq => exact I.after hq
  | .ok .next, hq => exact False.elim hq
  | .ok .brk, hq => exact False.elim hq
  | .ok .cont, hq => exact False.elim hq
theorem pe_callG (F : FnG X.prog X.w X.K X.mg X.base CX k f fd ps sp) (hc : Clean X.A) (hr : Room k X.A) (hg : Gl X x) (hm : X.mg x = some (.ref f)) (hk : PySem.W.keepIn X.K (.ref f) = true)
    (hb : Binds X.K fd ps ds) (hd : Vals dvs ds) (hx : Passes CX X E) (ha : PA X (e :: es) t) (hdb : (x == ("__debug__" : Str)) = false := by decide)
    (he : starEach (e :: es) X.env = (false, eval e X.env) :: starEach es X.env := by rfl) (hpl : (backTo pos (starEach es X.env)).any (·.1) = false := by rfl) :
    PE X (.Call (.Name x p) (e :: es) [] pos) (tCall sp dvs E t) := by
  refine ⟨fun pins s σ H Q I h => wpAny_Call_Name_kw (ld_glob I hg hm ?_ hdb)⟩
  exact PySem.W.callWith_K (h₀ := X.base) I.ok.mod.kin hk (thn (ha.run pos pins s σ H _ I h) fun us s1 ⟨vs, H1, I1, r, q⟩ => ⟨I1.kIn, runG F hc hr hb hd hx I1 r q⟩) he hpl
end

/-! the end of a law -/
section
variable {P : Program} {w : World} {K : PySem.W.Frag} {mg mb : Str → Option Value} {CX : CXT} {k : Nat} {fa a : Addr} {fd : FuncData} {x : Str} {sp : Sp} {s : Shared} {vs : List Value} {ns : List Int}
/-- the table of modules stands in the fixed part -/
abbrev SysIn (base : Heap) : Prop := ∃ o, base.get? sysModules = some o
abbrev scriptObj (vs : List Value) : Obj := { cls := .type "list", data := .seq vs.toArray }
abbrev Done (s : Shared) (r : Result) (s' : Shared) : Prop := r = .ok (.ret (.bool true)) ∧ OldK s.heap s'.heap ∧ s'.os = s.os ∧ AllBare s'.gens
/-- from a heap in which the script alone may be tracked -/
theorem law_core (KX : K.In s.heap) (hns : s.heap.Ns mainGlobals mg) (hb : s.heap.Ns builtinsNs mb) (hbb : ∀ x : Str, x ≠ "__name__" → mb x = bootBuiltins x) (hlim : s.heap.NoLimit) (hsy : ∃ mm, s.heap.Ns sysModules mm) (hg : s.gens = #[])
    (ha : s.heap.get? a = some (scriptObj vs)) (hr : Room k callerA)
    (F : ∀ base : Heap, K.In base → base.Ns mainGlobals mg → SysIn base → FnG P w K mg base CX k fa fd [x] sp) (hbind : ∀ (s : Shared) (u : Value), BindsTo s fd ⟨[u], []⟩ [(x, u)])
    (H : Hp) (hO : Only H) (hok : HOk P w H s.heap) (hA : ∀ b, H b ≠ none → b = a) (hK : H a ≠ none → K.lookup a = none)
    (hsp : sp [.ref a] H (fun v _ => v = .bl true) fun _ _ _ => False) (hCX : ∀ e s', CX [] H s (fun _ _ _ => False) e s' → False) :
    codeAny (model P w) callerA (.call (.ref fa) ⟨[.ref a], []⟩) (Done s) s := by
  have notA : ∀ {b : Addr}, b ≠ a → H b = none := fun {b} hb => Classical.byContradiction fun q => hb (hA b q)
  have nsA : ∀ {b : Addr} {m : Str → Option Value}, s.heap.Ns b m → (hidT s.heap H).Ns b m := by
    rintro b m ⟨o, es, ep, e, d, r⟩
    have hb : b ≠ a := by
      rintro rfl
      rw [ha] at e
      cases e
      exact nomatch (d : Data.seq vs.toArray _ = Data.dict es ep)
    exact ⟨o, es, ep, hidT_get e (notA hb), d, r⟩
  have inB : K.In (hidT s.heap H) := fun b o e => hidT_get (KX b o e) (Classical.byContradiction fun q => by
    have hb := hA b q
    subst hb
    rw [hK q] at e
    exact nomatch e)
  have md : Mod K mg (hidT s.heap H) := ⟨inB, nsA hns, ⟨mb, nsA hb, hbb⟩, hlim.imp fun _ h => ⟨nsA h.1, h.2⟩⟩
  have e0 : Env0 P w K mg (hidT s.heap H) callerA [] s H :=
    ⟨rfl, md, fun b o e => of_hidT e, Nat.le_of_eq (hidT_size _ _), trivial, fun _ hb => absurd hb List.not_mem_nil, hok, .of_eq hg⟩
  have R := (F _ inB (nsA hns) (let ⟨_, q⟩ := hsy; let ⟨o, _, _, e, _⟩ := nsA q; ⟨o, e⟩)).run callerA [] s H ⟨[.ref a], []⟩ [.ref a] [.ref a] _ _ rfl hr e0 (hbind s (.ref a)) (.cons rfl .nil) hsp
  refine codeAny_mono R fun r s' h => ?_
  match r, h with
  | .error e, h => exact (hCX e s' h).elim
  | .ok .next, h => exact False.elim h
  | .ok .brk, h => exact False.elim h
  | .ok .cont, h => exact False.elim h
  | .ok (.ret u), ⟨v, H', os, bare, un, hok', r', q⟩ =>
    have q' : v = .bl true := q
    subst q'
    cases (show u = Value.bool true from r')
    refine ⟨rfl, OldK.of_keep fun b o e => ?_, os, bare⟩
    rcases hO b with z | ⟨ob, xs, z⟩
    · exact un.keep b o e z List.not_mem_nil (by simp)
    · have e1 := (hok b _ z).1
      have e2 := (hok' b _ (un.frzs b ob _ z)).1
      rw [e] at e1
      cases e1
      exact e2
theorem law_callG (KX : K.In s.heap) (hns : s.heap.Ns mainGlobals mg) (hb : s.heap.Ns builtinsNs mb) (hbb : ∀ x : Str, x ≠ "__name__" → mb x = bootBuiltins x) (hlim : s.heap.NoLimit) (hsy : ∃ mm, s.heap.Ns sysModules mm) (hg : s.gens = #[])
    (ha : s.heap.get? a = some (scriptObj vs)) (hi : IntsAre vs ns) (hl : ns.length ≤ sizeLine) (hr : Room k callerA)
    (F : ∀ base : Heap, K.In base → base.Ns mainGlobals mg → SysIn base → FnG P w K mg base CX k fa fd [x] sp) (hbind : ∀ (s : Shared) (u : Value), BindsTo s fd ⟨[u], []⟩ [(x, u)])
    (hsp : ∀ H : Hp, Only H → SqL K H a (ns.map V.int) → sp [.ref a] H (fun v _ => v = .bl true) fun _ _ _ => False) (hCX : ∀ H e s', CX [] H s (fun _ _ _ => False) e s' → False) :
    codeAny (model P w) callerA (.call (.ref fa) ⟨[.ref a], []⟩) (Done s) s := by
  have rv := vals_ints hi
  have lenV := hi.length
  cases hk : K.lookup a with
  | some o =>
    have e := KX a o hk
    rw [ha] at e
    cases e
    refine law_core KX hns hb hbb hlim hsy hg ha hr F hbind (fun _ => none) (fun _ => .inl rfl) (fun b u z => nomatch (z : (none : Option HO) = some u)) (fun _ z => absurd rfl z) (fun z => absurd rfl z) ?_ (hCX _)
    exact hsp _ (fun _ => .inl rfl) (.inr ⟨_, vs.toArray, _, hk, rfl, rfl, rfl, by rw [List.size_toArray, lenV]; exact hl, by simpa using rv⟩)
  | none =>
    have one : ∀ {b : Addr} {u : HO}, (if b = a then some (HO.frz (scriptObj vs) (.lst (ns.map V.int))) else none) = some u → b = a ∧ u = .frz (scriptObj vs) (.lst (ns.map V.int)) := by
      intro b u z
      by_cases hb : b = a
      · rw [if_pos hb] at z
        exact ⟨hb, (Option.some.inj z).symm⟩
      · rw [if_neg hb] at z
        exact nomatch z
    have only : Only fun b => if b = a then some (HO.frz (scriptObj vs) (.lst (ns.map V.int))) else none := fun b => by
      by_cases hb : b = a
      · exact .inr ⟨_, _, if_pos hb⟩
      · exact .inl (if_neg hb)
    refine law_core KX hns hb hbb hlim hsy hg ha hr F hbind _ only (fun b u z => ?_) (fun b z => ?_) (fun _ => hk) (hsp _ only (.inl (.inr ⟨scriptObj vs, if_pos rfl⟩))) (hCX _)
    · obtain ⟨rfl, rfl⟩ := one z
      exact ⟨ha, by rw [List.length_map]; exact hl, vs, _, rv, ha⟩
    · cases q : (if b = a then some (HO.frz (scriptObj vs) (.lst (ns.map V.int))) else none) with
      | none => exact absurd q z
      | some u => exact (one q).1
theorem walkG {l : PySem.W.OpenLaw} {n k : Nat} {q : Program} {loose : List Str} {XP : (Str → Option Value) → Heap → Prop} {YP : World → Heap → Prop} {d : DefRec} {K : Params → PySem.W.Frag} {CX : World → CXT} {sp : World → Sp} {x : Str}
    (hn : l.most = some n) (hn2 : n ≤ sizeLine) (hdf : d.params.defaults = []) (hr : Room k callerA) (himp : importsNone q = true) (hY : ∀ (w : World) (h : Heap), YP w h → (K w.params).In h)
    (F : ∀ (w : World) (mg : Str → Option Value) (fa : Addr) (h : Heap), (K w.params).In h → h.Ns mainGlobals mg → mg d.name = some (.ref fa) →
      ∃ fd : FuncData, (∀ (s : Shared) (u : Value), BindsTo s fd ⟨[u], []⟩ [(x, u)]) ∧
        ∀ base : Heap, (K w.params).In base → base.Ns mainGlobals mg → SysIn base → FnG l.prog w (K w.params) mg base (CX w) k fa fd [x] (sp w))
    (hsp : ∀ (w : World) (H : Hp) (a : Addr) (ns : List Int), ns.length ≤ n → Only H → SqL (K w.params) H a (ns.map V.int) → sp w [.ref a] H (fun v _ => v = .bl true) fun _ _ _ => False)
    (hCX : ∀ (w : World) (H : Hp) (s : Shared) (e : Value) (s' : Shared), CX w [] H s (fun _ _ _ => False) e s' → False) :
    PySem.W.WalkO q loose XP YP l.row.toRowW d [] (fun f vs => PySem.call f vs) := by
  refine Att.attach_call hn hdf fun w s₀ s₁ mg mb fa o pm cd doc a vs ns G Y ho hd hcd hmg hobj hints hlen hg => ?_
  obtain ⟨fd, hb, hF⟩ := F w mg fa _ (hY w _ Y) G.T.g hmg
  exact law_callG (hY w _ Y) G.T.g G.T.b G.T.builtins G.T.nolimit (let ⟨mm, q, _⟩ := (G.T.seer himp).mods; ⟨mm, q⟩) hg hobj hints (Nat.le_trans hlen hn2) hr hF hb (fun H hO hS => hsp w H a ns hlen hO hS) fun H e s' => hCX w H s₁ e s'
end
end Gd

/-! own exceptions with a field over LookupError and KeyError: both are made by LookupError.__new__ -/
namespace PySem
namespace Xk
open PySem.W PySem.Calls PyProof.Rows Builtin Builtin.ObjectAttr
abbrev leT : List Value := [.type "LookupError", .type "Exception", .type "BaseException", .type "object"]
abbrev keT : List Value := .type "KeyError" :: leT
/-- what the way of such a class asks of its bases -/
structure Ov (l : List Value) : Prop where
  le : l.contains (.type "LookupError") = true
  at_ : l.contains (.type "AttributeError") = false
  ne : l.contains (.type "NameError") = false
  ob : l.contains (.type "object") = true
  ps : ∀ self, refuseLoop self "__setattr__" l = pure ()
def ovB (l : List Value) : Bool := excTail leT l || excTail keT l
theorem ov_le : Ov leT := ⟨by decide +kernel, by decide +kernel, by decide +kernel, by decide +kernel, fun self => by kernel_rfl⟩
theorem ov_ke : Ov keT := ⟨by decide +kernel, by decide +kernel, by decide +kernel, by decide +kernel, fun self => by kernel_rfl⟩
theorem ov_tail {b : List Value} (o : Ov b) {l : List Value} (e : excTail b l = true) : Ov l :=
  ⟨(excTail_contains _ l e).trans o.le, (excTail_contains _ l e).trans o.at_, (excTail_contains _ l e).trans o.ne, (excTail_contains _ l e).trans o.ob, fun self => excTail_pass self (o.ps self) l e⟩
theorem ov_of {l : List Value} (e : ovB l = true) : Ov l := by
  rcases Bool.or_eq_true_iff.mp e with z | z
  · exact ov_tail ov_le z
  · exact ov_tail ov_ke z
theorem Ov.cons {l : List Value} (o : Ov l) (C : Addr) : Ov (.ref C :: l) :=
  ⟨by rw [List.contains_cons, o.le, Bool.or_true], by rw [List.contains_cons, o.at_]; rfl, by rw [List.contains_cons, o.ne]; rfl, by rw [List.contains_cons, o.ob, Bool.or_true],
   fun self => by rw [refuseLoop_ref]; exact o.ps self⟩
abbrev xO (C t : Addr) : Obj := { cls := .ref C, data := .fields #[.ref t, .none, .none, .none, .bool false, .none] }
section
variable {cn cq : Str} {C cN : Addr} {cb cm : List Value} {y1 : Bool} {y2 : List Str} {y3 : List Value} {y4 : Bool} {y5 : Option Bool} {y6 : Option Addr} {z0 z1 z2 z3 z5 : Option Value}
variable {W : Heap} {gs : Array GenState} {dr : Drawn} {tn : Nat} {ow : OsState} {A : Around} {X : Value → Shared → Prop}
theorem chk_new {M : Model} {us : List Value} {P : Unit → Shared → Prop} (o : Ov cm)
    (wC : W.get? C = some (excClassObj cn cq C cN cb cm y1 y2 y3 y4 y5 y6 z0 z1 z2 z3 z5 "LookupError.__new__")) (hp : P () ⟨W, gs, dr, tn, ow⟩) :
    wpAny M A (checkBuiltinCall "LookupError.__new__" ⟨.ref C :: us, []⟩) P X ⟨W, gs, dr, tn, ow⟩ := by
  have wB := (o.cons C).le
  have wS := PySem.F.excBase_LookupError.noStar
  simp only [checkBuiltinCall, PySem.F.excBase_LookupError.newKind, PySem.F.excBase_LookupError.newSplit, PySem.F.excBase_LookupError.newRow]
  repeat (first | refine wpAny_loadPart_at wC ?_ | (refine wpAny_isSubtype_exc wC ?_; rw [wB]) | refine wpAny_staticBase_exc wC ?_ | refine wpAny_madeBy_exc wC ?_ | simp only [bne_self_eq_false, Bool.false_eq_true, if_false] | wp_step)
  exact hp
variable {pg : Program} {wd : World} {R : Result → Shared → Prop}
theorem made0 {us : List Value} (o : Ov cm)
    (wC : W.get? C = some (excClassObj cn cq C cN cb cm y1 y2 y3 y4 y5 y6 z0 z1 z2 z3 z5 "LookupError.__new__")) (wz : us.length ≤ sizeLine)
    (hr : R (.ok (.ret (.ref (W.objs.size + 1)))) ⟨(W.push (kdv_tup us)).push (xO C W.objs.size), gs, dr, tn, ow⟩) :
    codeAny (model pg wd) A (.builtin "LookupError.__new__" ⟨.ref C :: us, []⟩) R ⟨W, gs, dr, tn, ow⟩ := by
  have wE := PySem.F.excBase_LookupError.ends
  have w1 := (o.cons C).le
  have w2 := (o.cons C).at_
  have w3 := (o.cons C).ne
  refine codeAny_builtinAt PySem.F.excBase_LookupError.entry ?_
  unfold Builtin.«BaseException.__new__»
  refine wpAt_bind (show wpAt _ _ _ (stack >>= _) _ _ _ from wpAt_bind (wpAt_stack fun _ _ => wpAt_of_wpAny ?_))
  wp_walk
  refine wpAt_of_wpAny ?_
  rw [PySem.F.excBase_LookupError.owner]
  repeat (first | with_reducible refine wpAny_madeHere_exc PySem.F.excBase_LookupError.canon wC ?_ | with_reducible refine wpAny_loadPart_at wC ?_ | (with_reducible refine wpAny_isSubtype_exc wC ?_; first | rw [w1] | rw [w2] | rw [w3]) | wp_step)
  show R _ _
  rw [Heap.size_push]
  exact hr
/-- type.__call__ on the class -/
theorem tcall {us : List Value} {fI : Addr} {P : Fin → Shared → Prop} (o : Ov cm)
    (wC : W.get? C = some (excClassObj cn cq C cN cb cm y1 y2 y3 y4 y5 y6 z0 z1 z2 z3 z5 "LookupError.__new__"))
    (wI : Looks (model pg wd) W (typeLookup (.ref C) "__init__") (some (.ref fI))) (wb : ∀ v, Looks (model pg wd) W (bindSpecial (.ref fI) v) (.ref fI, [v])) (wz : us.length ≤ sizeLine)
    (hp : codeAny (model pg wd) A (.call (.ref fI) ⟨.ref (W.objs.size + 1) :: us, []⟩)
      (fun r t => match r with | .ok (.ret v) => v = .none ∧ P (.done (.ret (.ref (W.objs.size + 1)))) t | .ok _ => False | .error x => X x t)
      ⟨(W.push (kdv_tup us)).push (xO C W.objs.size), gs, dr, tn, ow⟩) :
    wpAny (model pg wd) A (Builtin.«type.__call__» ⟨.ref C :: us, []⟩) P X ⟨W, gs, dr, tn, ow⟩ := by
  repeat (first | with_reducible refine wpAny_loadPart_at wC ?_ | with_reducible refine wpAny_madeBy_exc wC ?_ | wp_step)
  refine codeAny_call_builtin_code (Code.quiet_builtin _ PySem.F.excBase_LookupError.quiet) (chk_new o wC (made0 o wC wz ?_))
  show wpAny _ _ _ _ _ _
  have kp : ∀ b p, W.get? b = some p → ((W.push (kdv_tup us)).push (xO C W.objs.size)).get? b = some p := fun _ _ z => Heap.get?_push_of_some _ (Heap.get?_push_of_some _ z)
  have wN := kp _ _ wC
  have wX : ((W.push (kdv_tup us)).push (xO C W.objs.size)).get? (W.objs.size + 1) = some (xO C W.objs.size) := by heap_get
  have w4 : (Value.ref C :: cm).contains (.ref C) = true := by simp
  have wi := wI.keeps kp
  have wv := (wb (.ref (W.objs.size + 1))).keeps kp
  unfold isInstance
  repeat (first | with_reducible refine wpAny_loadPart_at wX ?_ | (with_reducible refine wpAny_isSubtype_exc wN ?_; rw [w4]) | wp_step)
  refine wi.at (wpAny_holding (wpAny_bind (wv.at (wpAny_bind (wpAny_call (codeAny_mono hp fun r t z => ?_))))))
  rcases r with _ | (v | _ | _ | _) <;> first | exact z | exact z.elim | skip
  obtain ⟨rfl, z⟩ := z
  first
    | exact wpAny_pure (wpAny_pure z)
    | (wp_walk; exact z)
/-- the call of the class -/
theorem callK {us : List Value} {fI : Addr} (o : Ov cm)
    (wC : W.get? C = some (excClassObj cn cq C cN cb cm y1 y2 y3 y4 y5 y6 z0 z1 z2 z3 z5 "LookupError.__new__"))
    (wI : Looks (model pg wd) W (typeLookup (.ref C) "__init__") (some (.ref fI))) (wb : ∀ v, Looks (model pg wd) W (bindSpecial (.ref fI) v) (.ref fI, [v])) (wz : us.length ≤ sizeLine)
    (hp : codeAny (model pg wd) (A.under (.builtin "type.__call__" ⟨.ref C :: us, []⟩)) (.call (.ref fI) ⟨.ref (W.objs.size + 1) :: us, []⟩) (InitBack (W.objs.size + 1) R)
      ⟨(W.push (kdv_tup us)).push (xO C W.objs.size), gs, dr, tn, ow⟩) :
    codeAny (model pg wd) A (.call (.ref C) ⟨us, []⟩) R ⟨W, gs, dr, tn, ow⟩ := by
  have u1 := tc_lookup
  have u2 := tc_bind (.ref C)
  have u3 : (⟨W, gs, dr, tn, ow⟩ : Shared).TypeIs (.ref C) "type" := ⟨_, wC, rfl⟩
  refine codeAny_of_tree (show wpAny _ _ (callAny (.ref C) _) _ _ _ from ?_)
  repeat (any_goals (first | assumption | with_reducible refine wpAny_loadPart_at wC ?_ | wp_step))
  refine ⟨rfl, codeAny_call_builtin_at (Code.quiet_builtin _ (by decide +kernel)) entry_typeCall (wpAny_check_type_call_sub wC (tcall o wC wI wb wz ?_))⟩
  refine codeAny_mono hp fun r t z => ?_
  rcases r with _ | (v | _ | _ | _) <;> exact z
end
/-! ### the first store into such an exception -/
section
variable {pg : Program} {wd : World} {A : Around} {X : Value → Shared → Prop} {R : Result → Shared → Prop} {W : Heap} {gs : Array GenState} {dr : Drawn} {tn : Nat} {ow : OsState}
theorem osaK {K : Frag} {nmv : Str} {tk : Tok} {v : Value} {x C : Addr} {fv : Array Value} {cd : ClassData}
    (XI : K.In W) (wx : W.get? x = some { cls := .ref C, data := .fields fv }) (wc : clsIn K C = some cd) (o : Ov cd.mro) (wd' : cd.hasDict = true) (wn : findIn K (.ref C) nmv = some none)
    (hp : ∀ V t' dx, (∀ b p, b ≠ x → W.get? b = some p → V.get? b = some p) → W.objs.size ≤ dx → dx ≠ x → V.get? x = some { cls := .ref C, dict := some dx, data := .fields fv } →
      V.Ns1 dx (fun y => if y = nmv then some v else none) → R (.ok (.ret .none)) ⟨V, gs, dr, t', ow⟩) :
    codeAny (model pg wd) A (.call (.builtin "object.__setattr__") ⟨[.ref x, .str nmv tk, v], []⟩) R ⟨W, gs, dr, tn, ow⟩ := by
  have IA : InstAt W x { cls := .ref C, data := .fields fv } C none := ⟨wx, rfl, rfl, trivial⟩
  have nE : cd.mro.isEmpty = false := by
    cases z : cd.mro with
    | nil => have := o.ob; rw [z] at this; exact absurd this (by decide)
    | cons _ _ => rfl
  have nx : x ≠ W.objs.size := Nat.ne_of_lt (Heap.lt_size wx)
  have sb : Looks (model pg wd) W (isInstance (.ref x) (.type "object")) true := IA.type.andThen (looks_mroIn XI (by unfold mroIn; rw [wc, Option.bind_some, if_neg (by rw [nE]; decide), o.ob]))
  refine codeAny_call_builtin PySem.F.store_object.slot.plain PySem.F.store_object.entry (@check_slot (model pg wd) _ _ ⟨W, gs, dr, tn, ow⟩ "object.__setattr__" "object" "__setattr__" (.ref x) [.str nmv tk, v] [] _ PySem.F.store_object.kind PySem.F.store_object.split sb (PySem.F.store_object.args (.ref x) (.str nmv tk) v) ?_)
  have l1 : Looks (model pg wd) W (mroOf (.ref C)) cd.mro := (looks_clsIn XI wc).andThen .now
  have l2 : Looks (model pg wd) W (storeTaker? none) none := .now
  have l3 : Looks (model pg wd) W (classData C) cd := looks_clsIn XI wc
  rw [osa_eq, refuse_eq]
  refine wpAny_bind (wpAny_bind (IA.type.at (wpAny_bind (l1.at ?_))))
  rw [o.ps]
  refine wpAny_pure (wpAny_bind (IA.type.at (wpAny_bind ((looks_findIn XI wn).at (wpAny_bind (l2.at ?_))))))
  show wpAny _ _ (storeInOwnDict (.ref x) (.ref C) (.str nmv tk) nmv v false) _ _ _
  obtain ⟨c1, c2, c3, c4, c5, c6, c7, c8, c9, c10, c11⟩ := cd
  dsimp only at wd'
  subst wd'
  unfold storeInOwnDict ownDictForStores
  repeat (first | with_reducible refine HandSPX.store_in_new ?_ ?_ | with_reducible refine wpAny_loadPart_at wx ?_ | with_reducible refine l3.at ?_ | wp_step)
  · exact ⟨_, #[], _, (Heap.get?_update_ne _ _ _ _ nx.symm).trans (Heap.get?_push_at rfl rfl), rfl, fun _ z => absurd z (by simp), fun _ => rfl⟩
  · intro V t' hN hS
    have wy : (W.push { cls := .type "dict", data := .dict #[] }).get? x = some { cls := .ref C, data := .fields fv } := Heap.get?_push_of_some _ wx
    exact hp V t' W.objs.size (fun b p hb z => (hS.2 b (Nat.ne_of_lt (Heap.lt_size z))).trans ((Heap.get?_update_ne _ _ _ _ hb).trans (Heap.get?_push_of_some _ z))) (Nat.le_refl _) nx.symm
      ((hS.2 x nx).trans (Heap.get?_update_self _ wy rfl)) hN
end
end Xk
end PySem

namespace PySem
namespace EzValue
open PySem.W PySem.Calls PyProof.Rows PySem.HandSPX
/-! ### the text of __init__ -/
def iA (p1 p2 : Pos) : Arguments := { posonlyargs := [], args := [{ arg := "self", annotation := none, pos := p1 }, { arg := "value", annotation := none, pos := p2 }], vararg := none, kwonlyargs := [], kw_defaults := [], kwarg := none, defaults := [] }
def iB (q1 q2 q3 q4 : Pos) : List Stmt := [.Assign [.Attribute (.Name "self" q1) "value" q2] (.Name "value" q3) q4]
def iS : Scope := { kind := .function, names := [(PySem.Str.ofString "self", .local), (PySem.Str.ofString "value", .local)], isGenerator := false, isCoroutine := false, more := [] }
/-- what the written part says of Low, at C, and of its __init__, at fI -/
structure LowTxt (K : Frag) (mg : Str → Option Value) (nm : Str) (qn : String) (C fI : Addr) : Prop where
  gC : mg nm = some (.ref C)
  cls : ∃ nmC q N bs bm sn sub ab col dd k0 k1 k2 k3 k5, K.lookup C = some (excClassObj nmC q C N bs bm true sn sub ab col dd k0 k1 k2 k3 k5 "ValueError.__new__") ∧ refsVE bm = true
  sa : findIn K (.ref C) "__setattr__" = some (some (.builtin "object.__setattr__"))
  ga : findIn K (.ref C) "__getattribute__" = some (some (.builtin "BaseException.__getattribute__"))
  gg : findIn K (.ref C) "__getattr__" = some none
  noN : findIn K (.ref C) "value" = some none
  iC : findIn K (.ref C) "__init__" = some (some (.ref fI))
  tC : typeIn K (.ref fI) = some (.type "function")
  kC : keepIn K (.ref C) = true
  exC : subIn K (.ref C) (.type "BaseException") = some true
  tyC : typeIn K (.ref C) = some (.type "type")
  hdC : hasDictIn K C = true
  te : exmOne K (.ref C) (.ref C) = some true
  fn : ∃ (oc : Value) (od : Option Addr) (doc pm : Value) (an : Option Addr) (cdv ct : Value) (osl : Array (Option Value)) (p1 p2 q1 q2 q3 q4 : Pos),
    K.lookup fI = some ⟨oc, od, .func (fnOf "__init__" qn (iA p1 p2) (iB q1 q2 q3 q4) iS .none .none doc pm an cdv ct), osl⟩ ∧ codeIn K cdv qn = true
theorem one_size (v : Value) : [v].length ≤ sizeLine := by
  rw [sizeLine_eq]
  exact (by decide : 1 ≤ 16777216)
theorem kept_but {K : Frag} {h h' : Heap} {x : Addr} (X : K.In h) (hx : K.lookup x = none) (k : ∀ b o, b ≠ x → h.get? b = some o → h'.get? b = some o) : K.In h' := fun a o e =>
  k a o (fun z => by rw [z, hx] at e; cases e) (X a o e)
theorem ldC {M : Model} {s : Shared} {name : Str} {scope : Scope} {L a : Addr} {cd : Value} {m : Str → Option Value} {x : Str} {pos : Pos} {v : Value} {Q : Value → Shared → Prop} {A : Around} {E : Value → Shared → Prop} (hn : s.heap.Ns L m) (hv : m x = some v) (h : Q v s)
    (hk : scope.kind = .function := by rfl) (hl : (envOfC name scope L a cd).kindOf x = some .local := by rfl) (hd : (x == ("__debug__" : Str)) = false := by decide) :
    wpAny M A (eval (.Name x pos) (envOfC name scope L a cd)) Q E s := wpAny_Name (wpAny_loadName_local hk hl hn hv h) hd
/-- what __init__ leaves of a fresh exception at x -/
structure InitEnd (h h' : Heap) (x C dx t1 : Addr) (v : Value) : Prop where
  keep : ∀ b o, b ≠ x → h.get? b = some o → h'.get? b = some o
  obj : h'.get? x = some { cls := .ref C, dict := some dx, data := .fields #[.ref t1, .none, .none, .none, .bool false, .none] }
  dbig : h.objs.size ≤ dx
  dne : dx ≠ x
  ns : h'.Ns1 dx (fun y => if y = "value" then some v else none)
/-- a made Low -/
structure OwnMade (h h' : Heap) (e C d : Addr) (v : Value) : Prop where
  keep : ∀ b o, h.get? b = some o → h'.get? b = some o
  new : h.objs.size ≤ e
  obj : ∃ oe vs, h'.get? e = some oe ∧ oe.cls = .ref C ∧ oe.dict = some d ∧ oe.data = .fields vs ∧ vs[1]? = some .none
  dbig : h.objs.size ≤ d
  dne : d ≠ e
  ns : h'.Ns1 d (fun y => if y = "value" then some v else none)
section
variable {prog : Program} {w : World} {A : Around} {E : Value → Shared → Prop} {R : Result → Shared → Prop} {s : Shared} {K : Frag} {mg : Str → Option Value} {nm : Str} {qn : String} {C fI : Addr}
theorem low_init (T : LowTxt K mg nm qn C fI) {x t0 : Addr} {v : Value} (X : K.In s.heap) (hlim : s.heap.NoLimit) (hx : s.heap.get? x = some (excO C t0)) (hnx : K.lookup x = none) (hroom : A.depth < recursionLimit)
    (hq : ∀ h' tk dx, InitEnd s.heap h' x C dx t0 v → R (.ok (.ret .none)) { s with heap := h', toks := tk }) :
    codeAny (model prog w) A (.call (.ref fI) ⟨[.ref x, v], []⟩) R s := by
  obtain ⟨oc, od, doc, pm, an, cdv, ct, osl, p1, p2, q1, q2, q3, q4, ho, hcd⟩ := T.fn
  obtain ⟨nmC, q, N, bs, bm, sn, sub, ab, col, dd, k0, k1, k2, k3, k5, hC, hbm⟩ := T.cls
  have hcl : clsIn K C = some { name := nmC, bases := bs, mro := .ref C :: bm, ns := N, qualname := q, hasDict := true, slotNames := sn, subclasses := sub, abstract := ab, collection := col, hasDel := false } := by unfold clsIn; rw [hC] <;> rfl
  refine Att.call_fn (binds := [("self", .ref x), ("value", v)]) X hlim ho hcd hroom (BindsTo.of_eq (by first | rfl | with_unfolding_all rfl)) (by first | rfl | decide | with_unfolding_all rfl) (fun s₁ IC => ?_) rfl rfl rfl
  obtain ⟨h₁, tk₁, rfl⟩ := IC.toInCall.same
  have k : ∀ b o, s.heap.get? b = some o → h₁.get? b = some o := IC.toInCall.keep
  have hn := IC.toInCall.ns
  have hxL : s.heap.objs.size ≠ x := Nat.ne_of_gt (Heap.lt_size hx)
  have X₁ : K.In h₁ := X.keeps k
  have hx₁ := k _ _ hx
  -- self.by = by
  show wpAny _ _ (execs _ _) _ _ _
  refine wpAny_execs_cons (plainObj_wpAny_Assign_Attribute ?_)
  refine ldC (v := v) hn (by first | rfl | with_unfolding_all rfl | kernel_rfl) (ldC (v := .ref x) hn (by first | rfl | with_unfolding_all rfl | kernel_rfl) ?_)
  refine set_plain X₁ (ox := excO C t0) (od := none) ⟨hx₁, rfl, rfl, trivial⟩ T.sa ?_
  refine exc_osa X₁ hx₁ hcl (show refsVE (.ref C :: bm) = true from hbm) rfl T.noN (fun h₃ tk₃ dx k₃ dn dne hx₃ hn₃ => ?_)
  show wpAny _ _ (execs _ _) _ _ _
  have z : s.heap.objs.size < h₁.objs.size := hn.lt
  exact wpAny_execs_nil (hq h₃ tk₃ dx ⟨fun b o hb e => k₃ b o hb (k b o e), hx₃, Nat.le_of_lt (Nat.lt_of_lt_of_le z dn), dne, hn₃⟩)
theorem low_made (T : LowTxt K mg nm qn C fI) {v : Value} (X : K.In s.heap) (hlim : s.heap.NoLimit) (hroom : A.depth + 1 < recursionLimit)
    (hq : ∀ h' tk e d, OwnMade s.heap h' e C d v → R (.ok (.ret (.ref e))) { s with heap := h', toks := tk }) :
    codeAny (model prog w) A (.call (.ref C) ⟨[v], []⟩) R s := by
  obtain ⟨nmC, q, N, bs, bm, sn, sub, ab, col, dd, k0, k1, k2, k3, k5, hC, hbm⟩ := T.cls
  obtain ⟨hp, g, dr, tk, os⟩ := s
  have k : ∀ b o, hp.get? b = some o → ((hp.push (kdv_tup [v])).push (excO C hp.objs.size)).get? b = some o := fun b o e => Heap.get?_push_of_some _ (Heap.get?_push_of_some _ e)
  have hget : ((hp.push (kdv_tup [v])).push (excO C hp.objs.size)).get? (hp.objs.size + 1) = some (excO C hp.objs.size) := by heap_get
  have hnx : K.lookup (hp.objs.size + 1) = none := by
    cases e : K.lookup (hp.objs.size + 1) with
    | none => rfl
    | some o =>
      have z : hp.get? (hp.objs.size + 1) = some o := X _ _ e
      exact absurd (Nat.lt_of_succ_lt (Heap.lt_size z)) (Nat.lt_irrefl _)
  refine call_own F.excBase_ValueError (fun X => refsVE_contains X bm hbm) (X _ _ hC) (looks_findIn X T.iC) (fun self => bind_fn X self T.tC) (one_size v) ?_
  refine low_init (s := ⟨(hp.push (kdv_tup [v])).push (excO C hp.objs.size), g, dr, tk, os⟩) T (X.keeps k) (hlim.keeps k) hget hnx ?_ fun h' tk' dx ⟨k', hx, dn, dne, hns⟩ => ?_
  · show A.depth + 1 < recursionLimit
    exact hroom
  · have old : ∀ b o, hp.get? b = some o → h'.get? b = some o := fun b o e => k' b o (Nat.ne_of_lt (Nat.lt_succ_of_lt (Heap.lt_size e))) (k b o e)
    have z : hp.objs.size + 1 + 1 ≤ dx := by
      first
        | (simpa only [Heap.size_push] using dn)
        | exact dn
        | (have q := dn; rw [Heap.size_push, Heap.size_push] at q; exact q)
    exact ⟨rfl, hq h' tk' (hp.objs.size + 1) dx ⟨old, Nat.le_succ _, ⟨_, _, hx, rfl, rfl, rfl, rfl⟩, Nat.le_trans (Nat.le_trans (Nat.le_succ _) (Nat.le_succ _)) z, dne, hns⟩⟩
end
end EzValue
end PySem
namespace L2
open PySem PySem.Spec PyProof.Rows
theorem relO_value {v : V} {v' : Value} (r : RelV v v') (f : Str) : RelO (List.lookup f [(("value" : Str), v)]) (if f = "value" then some v' else none) := by
  by_cases hw : f = "value"
  · subst hw
    rw [if_pos rfl]
    have q : List.lookup ("value" : Str) [(("value" : Str), v)] = some v := by simp [List.lookup]
    rw [q]
    exact r
  · rw [if_neg hw]
    have qw : (f == ("value" : Str)) = false := by simpa using hw
    have q2 : List.lookup f [(("value" : Str), v)] = none := by simp [List.lookup, qw]
    rw [q2]
    trivial
section
variable {X : Cx} {nm : Str} {qn : String} {C fI : Addr}
/-- Low(e) -/
def tMk_value (C : Addr) (ta : TA) : L2.St → Hp → XK → Prop := fun σ H Q => ta σ H fun vs H1 => ∃ v, vs = [v] ∧ ∀ d, H1 d = none → Q (.ref C) (some d) (upd H1 d (.xd [(("value" : Str), v)]))
theorem pmk_value {a : Expr} {ta : TA} {p pos : Pos} {k : Nat} (T : PySem.EzValue.LowTxt X.K X.mg nm qn C fI) (hr : Room k X.A) (ha : PA X [a] ta) (hg : Gl X nm := by rfl) (hdb : (nm == ("__debug__" : Str)) = false := by decide)
    (he : starEach (a :: []) X.env = (false, eval a X.env) :: starEach [] X.env := by rfl) (hpl : (backTo pos (starEach [] X.env)).any (·.1) = false := by rfl) :
    PMk X (.Call (.Name nm p) [a] [] pos) (tMk_value C ta) := by
  intro pins s σ H Q I h
  refine wpAny_Call_Name_kw (ld_glob I hg T.gC ?_ hdb)
  refine PySem.W.callWith_K (h₀ := X.base) I.ok.mod.kin T.kC (thn (ha.run pos pins s σ H _ I h) fun us s1 hh => ?_) he hpl
  obtain ⟨vs, H1, I1, r1, v, ev, q1⟩ := hh
  subst ev
  refine ⟨I1.kIn, ?_⟩
  cases r1 with
  | cons rv rn =>
    rename_i v' us'
    cases rn
    show wpAny _ _ (call (.ref C) [v']) _ _ _
    have hlim := I1.nolimit
    obtain ⟨hp, g, dr, tk, os⟩ := s1
    refine wpAny_call (PySem.EzValue.low_made T I1.kIn hlim (by have := hr.dp; omega) fun h' tk' e d M => ?_)
    show MkP X pins σ Q (.ref e) ⟨h', g, dr, tk', os⟩
    obtain ⟨oe, fv, hoe, hc, hd, hdat, h1⟩ := M.obj
    have hns := M.ns
    obtain ⟨G', g1, g2⟩ := restrict h' fun b => decide (b ≠ e)
    have gk : ∀ b, b ≠ e → G'.get? b = h'.get? b := fun b hb => g1 b (decide_eq_true hb)
    have ge : G'.get? e = none := g2 e (by simp)
    have old : ∀ b o, hp.get? b = some o → G'.get? b = some o := fun b o q => (gk b (Nat.ne_of_lt (Nat.lt_of_lt_of_le (Heap.lt_size q) M.new))).trans (M.keep b o q)
    have ob : ObjOk X.prog X.w (upd H1 d (.xd [(("value" : Str), v)])) G' d (.xd [(("value" : Str), v)]) :=
      ⟨_, hns.at (fun o q => (gk d M.dne).trans q), fun f => relO_value rv f⟩
    have J : Inv X pins σ (upd H1 d (.xd [(("value" : Str), v)])) ⟨G', g, dr, tk', os⟩ := I1.laid (t' := tk') old M.dbig ob
    refine ⟨e, oe, fv, ⟨G', g, dr, tk', os⟩, _, .ref C, some d, rfl, J, fun b o q => ?_, ge, hoe, ⟨hc, hd⟩, hdat, h1, ?_, rfl, I1.bare, raises_own T.exC T.tyC, q1 d (I1.hok.fresh M.dbig)⟩
    · by_cases hb : b = e
      · have q' : G'.get? b = some o := q
        rw [hb, ge] at q'; cases q'
      · exact (gk b hb).symm.trans q
    · rw [upd_ne (Ne.symm M.dne)]
      exact I1.hok.fresh M.new
/-- raise Low(e) -/
def tRaise_value (C : Addr) (W : WX) (ta : TA) : TS := fun _ σ H => tMk_value C ta σ H fun cls d H' => W cls d σ H'
theorem ps_raise_value {a : Expr} {ta : TA} {W : WX} {p pos pos2 : Pos} {k : Nat} (hc : X.calm = true) (T : PySem.EzValue.LowTxt X.K X.mg nm qn C fI) (hr : Room k X.A) (tk : Takes X W) (ha : PA X [a] ta) (hg : Gl X nm := by rfl) (hdb : (nm == ("__debug__" : Str)) = false := by decide)
    (he : starEach (a :: []) X.env = (false, eval a X.env) :: starEach [] X.env := by rfl) (hpl : (backTo pos (starEach [] X.env)).any (·.1) = false := by rfl) :
    PS X (.Raise (some (.Call (.Name nm p) [a] [] pos)) none pos2) (tRaise_value C W ta) := ps_raise hc tk (pmk_value T hr ha hg hdb he hpl)
/-- low.by, low the exception that the suite holds (at a; its class cls, its dict d) -/
def tBy_value (C : Addr) (a : Addr) (cls : Value) (d : Option Addr) (te : TE) : TE := fun σ H Q => te σ H fun x H1 => x = .ref a ∧ cls = .ref C ∧ ∃ (dd : Addr) (v : V), d = some dd ∧ H1 dd = some (.xd [(("value" : Str), v)]) ∧ Q v H1
theorem pe_by_value {a : Addr} {oe : Obj} {cls : Value} {d : Option Addr} {pn : List (Addr × Obj)} {e : Expr} {te : TE} {pos : Pos} (T : PySem.EzValue.LowTxt X.K X.mg nm qn C fI) (hz : Zc cls d oe) (hf : ∃ vs, oe.data = .fields vs) (he : PE (X.suite a ((a, oe) :: pn)) e te)
    (hb : attributeBase e "value" X.env (eval e X.env) = eval e X.env := by rfl) :
    PE (X.suite a ((a, oe) :: pn)) (.Attribute e "value" pos) (tBy_value C a cls d te) := by
  refine ⟨fun pins s σ H Q I h => ?_⟩
  refine attr_of hb (thn (he.run pins s σ H _ I h) fun u s1 hh => ?_)
  obtain ⟨x, H1, I1, rx, ex, ec, dd, v, ed, ea, q⟩ := hh
  subst ex
  obtain rfl : u = Value.ref a := rx
  subst ec
  subst ed
  obtain ⟨ha, _⟩ := I1.pin (a, oe) (List.mem_append_left _ List.mem_cons_self)
  obtain ⟨vs, hd⟩ := hf
  have hx : ObjOk X.prog X.w H1 s1.heap dd (.xd [(("value" : Str), v)]) := I1.hok dd _ ea
  obtain ⟨mA, hns, hr⟩ := hx
  obtain ⟨od, ho, hl⟩ := lookIn_ns hns
  have l : List.lookup ("value" : Str) [(("value" : Str), v)] = some v := by simp [List.lookup]
  obtain ⟨u, hu, ru⟩ := RelO.some_of (v := v) (o := mA "value") (by rw [← l]; exact hr "value")
  have J : PySem.W.InstAt s1.heap a oe C (some od) := ⟨ha, hz.1, by unfold PySem.W.notCls; rw [hd] <;> rfl, by rw [hz.2]; exact ho⟩
  exact HandSPX.exc_get I1.kIn J T.ga T.gg T.exC (PySem.W.findObj_own T.hdC T.noN rfl (by rw [hl, hu])) (handed_of ru) ⟨v, H1, I1.tok _, ru, q⟩
end
end L2


/-! own exceptions as values: made by a place or by a name, their fields, isinstance, == -/
namespace PySem
namespace Xe
open PySem.W PySem.Calls PyProof.Rows Builtin Builtin.ObjectAttr
/-- what the way of a class asks of its bases -/
structure Og (B : String) (l : List Value) : Prop where
  le : l.contains (.type B) = true
  at_ : l.contains (.type "AttributeError") = false
  ne : l.contains (.type "NameError") = false
abbrev xO (C t : Addr) : Obj := { cls := .ref C, data := .fields #[.ref t, .none, .none, .none, .bool false, .none] }
section
variable {cn cq : Str} {C cN : Addr} {cb cm bmB : List Value} {y1 : Bool} {y2 : List Str} {y3 : List Value} {y4 : Bool} {y5 : Option Bool} {y6 : Option Addr} {z0 z1 z2 z3 z5 : Option Value} {B nw ni : String}
variable {W : Heap} {gs : Array GenState} {dr : Drawn} {tn : Nat} {ow : OsState} {A : Around} {X : Value → Shared → Prop}
theorem Og.cons (o : Og B cm) : (Value.ref C :: cm).contains (.type B) = true ∧ (Value.ref C :: cm).contains (.type "AttributeError") = false ∧ (Value.ref C :: cm).contains (.type "NameError") = false :=
  ⟨by rw [List.contains_cons, o.le, Bool.or_true], by rw [List.contains_cons, o.at_]; rfl, by rw [List.contains_cons, o.ne]; rfl⟩
theorem chk_newG {M : Model} {us : List Value} {kw : List (Str × Value)} (hk : kw = [] ∨ ∃ n v, kw = [(n, v)]) {P : Unit → Shared → Prop} (F : ExcBaseFacts B nw ni bmB) (o : Og B cm)
    (wC : W.get? C = some (excClassObj cn cq C cN cb cm y1 y2 y3 y4 y5 y6 z0 z1 z2 z3 z5 nw)) (hp : P () ⟨W, gs, dr, tn, ow⟩) :
    wpAny M A (checkBuiltinCall nw ⟨.ref C :: us, kw⟩) P X ⟨W, gs, dr, tn, ow⟩ := by
  have wB := (o.cons (C := C)).1
  have wS := F.noStar
  rcases hk with rfl | ⟨n, v, rfl⟩
  all_goals
    simp only [checkBuiltinCall, F.newKind, F.newSplit, F.newRow]
    repeat (first | refine wpAny_loadPart_at wC ?_ | (refine wpAny_isSubtype_exc wC ?_; rw [wB]) | refine wpAny_staticBase_exc wC ?_ | refine wpAny_madeBy_exc wC ?_ | simp only [bne_self_eq_false, Bool.false_eq_true, if_false] | wp_step)
    exact hp
variable {pg : Program} {wd : World} {R : Result → Shared → Prop}
theorem made0G {us : List Value} {kw : List (Str × Value)} (F : ExcBaseFacts B nw ni bmB) (o : Og B cm)
    (wC : W.get? C = some (excClassObj cn cq C cN cb cm y1 y2 y3 y4 y5 y6 z0 z1 z2 z3 z5 nw)) (wz : us.length ≤ sizeLine)
    (hr : R (.ok (.ret (.ref (W.objs.size + 1)))) ⟨(W.push (kdv_tup us)).push (xO C W.objs.size), gs, dr, tn, ow⟩) :
    codeAny (model pg wd) A (.builtin nw ⟨.ref C :: us, kw⟩) R ⟨W, gs, dr, tn, ow⟩ := by
  have wE := F.ends
  obtain ⟨w1, w2, w3⟩ := o.cons (C := C)
  refine codeAny_builtinAt F.entry ?_
  unfold Builtin.«BaseException.__new__»
  refine wpAt_bind (show wpAt _ _ _ (stack >>= _) _ _ _ from wpAt_bind (wpAt_stack fun _ _ => wpAt_of_wpAny ?_))
  wp_walk
  refine wpAt_of_wpAny ?_
  rw [F.owner]
  repeat (first | with_reducible refine wpAny_madeHere_exc F.canon wC ?_ | with_reducible refine wpAny_loadPart_at wC ?_ | (with_reducible refine wpAny_isSubtype_exc wC ?_; first | rw [w1] | rw [w2] | rw [w3]) | wp_step)
  show R _ _
  rw [Heap.size_push]
  exact hr
/-- type.__call__ on the class -/
theorem tcallG {us : List Value} {kw : List (Str × Value)} (hk : kw = [] ∨ ∃ n v, kw = [(n, v)]) {f : Value} {P : Fin → Shared → Prop} (F : ExcBaseFacts B nw ni bmB) (o : Og B cm)
    (wC : W.get? C = some (excClassObj cn cq C cN cb cm y1 y2 y3 y4 y5 y6 z0 z1 z2 z3 z5 nw))
    (wI : Looks (model pg wd) W (typeLookup (.ref C) "__init__") (some f)) (wb : ∀ v, Looks (model pg wd) W (bindSpecial f v) (f, [v])) (wz : us.length ≤ sizeLine)
    (hp : codeAny (model pg wd) A (.call f ⟨.ref (W.objs.size + 1) :: us, kw⟩)
      (fun r t => match r with | .ok (.ret v) => v = .none ∧ P (.done (.ret (.ref (W.objs.size + 1)))) t | .ok _ => False | .error x => X x t)
      ⟨(W.push (kdv_tup us)).push (xO C W.objs.size), gs, dr, tn, ow⟩) :
    wpAny (model pg wd) A (Builtin.«type.__call__» ⟨.ref C :: us, kw⟩) P X ⟨W, gs, dr, tn, ow⟩ := by
  repeat (first | with_reducible refine wpAny_loadPart_at wC ?_ | with_reducible refine wpAny_madeBy_exc wC ?_ | wp_step)
  refine codeAny_call_builtin_code (Code.quiet_builtin _ F.quiet) (chk_newG hk F o wC (made0G F o wC wz ?_))
  show wpAny _ _ _ _ _ _
  have kp : ∀ b p, W.get? b = some p → ((W.push (kdv_tup us)).push (xO C W.objs.size)).get? b = some p := fun _ _ z => Heap.get?_push_of_some _ (Heap.get?_push_of_some _ z)
  have wN := kp _ _ wC
  have wX : ((W.push (kdv_tup us)).push (xO C W.objs.size)).get? (W.objs.size + 1) = some (xO C W.objs.size) := by heap_get
  have w4 : (Value.ref C :: cm).contains (.ref C) = true := by simp
  have wi := wI.keeps kp
  have wv := (wb (.ref (W.objs.size + 1))).keeps kp
  unfold isInstance
  repeat (first | with_reducible refine wpAny_loadPart_at wX ?_ | (with_reducible refine wpAny_isSubtype_exc wN ?_; rw [w4]) | wp_step)
  refine wi.at (wpAny_holding (wpAny_bind (wv.at (wpAny_bind (wpAny_call (codeAny_mono hp fun r t z => ?_))))))
  rcases r with _ | (v | _ | _ | _) <;> first | exact z | exact z.elim | skip
  obtain ⟨rfl, z⟩ := z
  first
    | exact wpAny_pure (wpAny_pure z)
    | (wp_walk; exact z)
theorem chk_callG {M : Model} {us : List Value} {kw : List (Str × Value)} (hk : kw = [] ∨ ∃ n v, kw = [(n, v)]) {P : Unit → Shared → Prop}
    (wC : W.get? C = some (excClassObj cn cq C cN cb cm y1 y2 y3 y4 y5 y6 z0 z1 z2 z3 z5 nw)) (hp : P () ⟨W, gs, dr, tn, ow⟩) :
    wpAny M A (checkBuiltinCall "type.__call__" ⟨.ref C :: us, kw⟩) P X ⟨W, gs, dr, tn, ow⟩ := by
  have u4 := tc_sub
  have u5 : (⟨W, gs, dr, tn, ow⟩ : Shared).TypeIs (.ref C) "type" := ⟨_, wC, rfl⟩
  rcases hk with rfl | ⟨n, v, rfl⟩
  all_goals
    simp only [checkBuiltinCall, tc_kind, tc_split]
    repeat (any_goals (first | assumption | with_reducible refine wpAny_loadPart_at wC ?_ | with_reducible refine wpAny_onRaise ?_ | with_reducible refine wpAny_map ?_ | wp_step))
/-- the call of the class -/
theorem callG {us : List Value} {kw : List (Str × Value)} (hk : kw = [] ∨ ∃ n v, kw = [(n, v)]) {f : Value} (F : ExcBaseFacts B nw ni bmB) (o : Og B cm)
    (wC : W.get? C = some (excClassObj cn cq C cN cb cm y1 y2 y3 y4 y5 y6 z0 z1 z2 z3 z5 nw))
    (wI : Looks (model pg wd) W (typeLookup (.ref C) "__init__") (some f)) (wb : ∀ v, Looks (model pg wd) W (bindSpecial f v) (f, [v])) (wz : us.length ≤ sizeLine)
    (hp : codeAny (model pg wd) (A.under (.builtin "type.__call__" ⟨.ref C :: us, kw⟩)) (.call f ⟨.ref (W.objs.size + 1) :: us, kw⟩) (InitBack (W.objs.size + 1) R)
      ⟨(W.push (kdv_tup us)).push (xO C W.objs.size), gs, dr, tn, ow⟩) :
    codeAny (model pg wd) A (.call (.ref C) ⟨us, kw⟩) R ⟨W, gs, dr, tn, ow⟩ := by
  have u1 := tc_lookup
  have u2 := tc_bind (.ref C)
  have u3 : (⟨W, gs, dr, tn, ow⟩ : Shared).TypeIs (.ref C) "type" := ⟨_, wC, rfl⟩
  refine codeAny_of_tree (show wpAny _ _ (callAny (.ref C) _) _ _ _ from ?_)
  repeat (any_goals (first | assumption | with_reducible refine wpAny_loadPart_at wC ?_ | wp_step))
  refine ⟨rfl, codeAny_call_builtin_at (Code.quiet_builtin _ (by decide +kernel)) entry_typeCall ?_⟩
  refine chk_callG hk wC (tcallG hk F o wC wI wb wz ?_)
  refine codeAny_mono hp fun r t z => ?_
  rcases r with _ | (v | _ | _ | _) <;> exact z
end
end Xe
end PySem

namespace Gd
open PySem PySem.Spec PyProof.Rows L2
/-- an except clause: its class, the slot of its name, what its suite reads -/
structure Cl where
  c : Value
  i : Option Nat
  ts : Addr → Value → Option Addr → TS
/-- behind the suite of a clause with a name the name is gone -/
def gone (D : Ends) (i : Nat) : Ends :=
  { nx := fun σ H => D.nx (σ.set i none) H, rt := D.rt, bk := fun σ H => D.bk (σ.set i none) H, ct := fun σ H => D.ct (σ.set i none) H }
/-- what the suite of a clause is asked -/
def atCl (q : Cl) (D : Ends) (a : Addr) (cls : Value) (d : Option Addr) (σ : L2.St) (H : Hp) : Prop :=
  match q.i with
  | some i => q.ts a cls d (gone D i) (σ.set i (some (.ref a))) H
  | none => q.ts a cls d D σ H
/-- what the clauses wish of an exception; where none of the told ones takes it, that can't be -/
def wCl (K : PySem.W.Frag) (D : Ends) : List Cl → WX
  | [] => fun _ _ _ _ => False
  | q :: r => fun cls d σ H => ∃ b, PySem.W.exmOne K cls q.c = some b ∧ (b = true → ∀ a, H a = none → atCl q D a cls d σ H) ∧ (b = false → wCl K D r cls d σ H)
inductive HdG (X : Cx) : List ExceptHandler → List Cl → Prop
  | stop (hds : List ExceptHandler) : HdG X hds []
  | as {x n : Str} {i : Nat} {c : Value} {ts : Addr → Value → Option Addr → TS} {b₀ : Stmt} {suite : List Stmt} {np ps : Pos} {hds : List ExceptHandler} {l : List Cl} (hi : X.N[i]? = some n) (hl : X.env.kindOf n = some .local) (hc : Names X x c)
      (hsu : ∀ (a : Addr) (oe : Obj) (cls : Value) (d : Option Addr) (pn : List (Addr × Obj)), Zc cls d oe → (∃ vs, oe.data = .fields vs) → PSs (X.suite a ((a, oe) :: pn)) (b₀ :: suite) (ts a cls d)) (r : HdG X hds l) :
      HdG X (.ExceptHandler (some (.Name x np)) (some n) (b₀ :: suite) ps :: hds) (⟨c, some i, ts⟩ :: l)
  | bare {x : Str} {c : Value} {ts : Addr → Value → Option Addr → TS} {b₀ : Stmt} {suite : List Stmt} {np ps : Pos} {hds : List ExceptHandler} {l : List Cl} (hc : Names X x c)
      (hsu : ∀ (a : Addr) (oe : Obj) (cls : Value) (d : Option Addr) (pn : List (Addr × Obj)), Zc cls d oe → (∃ vs, oe.data = .fields vs) → PSs (X.suite a ((a, oe) :: pn)) (b₀ :: suite) (ts a cls d)) (r : HdG X hds l) :
      HdG X (.ExceptHandler (some (.Name x np)) none (b₀ :: suite) ps :: hds) (⟨c, none, ts⟩ :: l)
section
variable {X : Cx} {body : List Stmt} {h₀ : ExceptHandler} {hds : List ExceptHandler} {l : List Cl} {pos : Pos} {tb : WX → TS}
theorem ps_tryG (hs : X.stack = X.env :: X.outer) (hf : X.env.frame = some X.env.locals) (hN : X.N.Nodup)
    (hb : ∀ (W : WX) (pn : List (Addr × Obj)) (xe : Value → Shared → Prop), Takes (X.tr pn xe) W → PassesOwn (model X.prog X.w) X.A X.env xe → PSs (X.tr pn xe) body (tb W))
    (hh : HdG X (h₀ :: hds) l) : PS X (.Try body (h₀ :: hds) [] [] pos) (fun D σ H => tb (wCl X.K D l) D σ H) := by
  refine ⟨fun pins s σ H D I h => ?_⟩
  have ok := I.ok
  have hfr : X.A.frames = some (X.env :: X.outer) := ok.frames.trans (congrArg some hs)
  refine wpAny_Try_except (wpAny_mono ((hb (wCl X.K D l) (X.pn ++ pins) _ ?caught PassesOwn.looking).run [] s σ H D (I.toTry _) h) ?norm fun _ _ z => z)
  case norm =>
    intro f s1 hsp
    match f, hsp with
    | .next, ⟨σ', H', J, q⟩ => exact wpAny_execs_nil ⟨σ', H', J.ofTry ok, q⟩
    | .brk, ⟨σ', H', J, q⟩ => exact ⟨σ', H', J.ofTry ok, q⟩
    | .cont, ⟨σ', H', J, q⟩ => exact ⟨σ', H', J.ofTry ok, q⟩
    | .ret u, ⟨v, σ', H', J, r, q⟩ => exact ⟨v, σ', H', J.ofTry ok, r, q⟩
  case caught =>
    intro u s' xx
    obtain ⟨a, B, sI, pins', σ', H', cls, d, rfl, J', nb, up, sky, na, os, ag, w⟩ := xx
    have J : Inv X pins σ' H' sI := J'.ofTry ok
    rw [show (X.tr (X.pn ++ pins) _).stack = X.env :: X.outer from hs] at sky
    show wpAny _ X.A (noteFrame (.ref a) X.env) _ _ _
    refine Sky.land Zc.steady hfr hf sky fun h3 fl3 up3 => ?_
    have J3 : Inv X pins σ' H' { s' with heap := h3 } := J.landed nb fl3.1 (up.trans up3) os ag
    obtain ⟨oe3, vs3, he3, hz3, hd3⟩ := fl3.there
    have nfr : a ∉ frs (X.env :: X.outer) := fun hm => by
      obtain ⟨_, o, e, hn⟩ := fl3.2.2.1.mem hm
      rw [he3] at e
      cases e
      exact hn _ hd3
    have nL : a ≠ X.env.locals := fun z => nfr (List.mem_filterMap.mpr ⟨X.env, List.mem_cons_self, by rw [hf, z]⟩)
    have nF : a ∉ X.fs := fun hm => nfr (let ⟨e, he, q⟩ := List.mem_filterMap.mp hm; List.mem_filterMap.mpr ⟨e, List.mem_cons_of_mem _ he, q⟩)
    have S3 := J3.suite he3 hd3 na nL nF
    have LT : PySem.W.Looks (model X.prog X.w) h3 (typeOf (.ref a)) cls := fun A Q E s k q => wpAny_typeOf_ref (k _ _ he3) (by rw [hz3.1]; exact q)
    have test : ∀ {x : Str} {c : Value} {np : Pos} {Q E : Value → Shared → Prop}, Names X x c → Q c { s' with heap := h3 } → wpAny (model X.prog X.w) (X.A.mark (some (.ref a))) (eval (.Name x np) X.env) Q E { s' with heap := h3 } := by
      rintro x c np Q E ⟨hg, hdb, hm | ⟨hm, hv, hn⟩⟩ q
      · exact ld_glob (X := X.suite a ((a, oe3) :: (X.pn ++ pins))) S3 hg hm q hdb
      · exact ld_blt (X := X.suite a ((a, oe3) :: (X.pn ++ pins))) S3 hg hm hv q hn hdb
    suffices go : ∀ {hs : List ExceptHandler} {cl : List Cl}, HdG X hs cl → wCl X.K D cl cls d σ' H' → wpAny (model X.prog X.w) X.A (handleBy (.ref a) X.env hs) (SP X pins D) X.xe { s' with heap := h3 } from go hh w
    intro hs' cl k
    induction k with
    | stop => exact fun w => w.elim
    | @as x n i c ts b₀ suite np ps hds l hi hl hc hsu r ih =>
      rintro ⟨b, hb1, yes, no⟩
      have hb2 := PySem.W.exm_one (M := model X.prog X.w) J3.kIn LT hb1
      refine wpAny_handleBy_cons (codeAny_handlers_test (test hc (hb2.here ?_))) (fun q => nomatch q)
      cases b with
      | false => exact ih (no rfl)
      | true =>
        refine codeAny_handlers_suite_as (HandSPX.lands_againZ fl3 fun h4 fl4 up4 => ?_)
        have J4 : Inv X pins σ' H' { s' with heap := h4 } := J.landed nb fl4.1 ((up.trans up3).trans up4) os ag
        obtain ⟨oe4, vs4, he4, hz4, hd4⟩ := fl4.there
        refine store_ok (X := X.suite a ((a, oe4) :: (X.pn ++ pins))) (v := .ref a) (J4.suite he4 hd4 na nL nF) hN hi (.inl hl) rfl (fun s5 S5 => ?_) (.inr hl)
        refine wpAny_mono ((hsu a oe4 cls d (X.pn ++ pins) hz4 ⟨_, hd4⟩).run [] s5 _ H' (gone D i) S5 (yes rfl a na)) (fun f s6 hsp => ?_) fun _ _ z => z.elim
        have fin : ∀ {σ6 : L2.St} {H6 : Hp} {Q : Shared → Prop}, Inv (X.suite a ((a, oe4) :: (X.pn ++ pins))) [] σ6 H6 s6 → (∀ s7, Inv X pins (σ6.set i none) H6 s7 → Q s7) →
          wpAny (model X.prog X.w) X.A (do bindName X.env n .none; unbindBehindTheSuite X.env n ps) (fun _ s7 => Q s7) X.xe s6 := fun S6 hq => gone_ok (S6.unsuite ok) hN hi hl hq
        match f, hsp with
        | .next, ⟨σ6, H6, S6, q6⟩ => exact fin S6 fun s7 J7 => ⟨_, _, J7, q6⟩
        | .brk, ⟨σ6, H6, S6, q6⟩ => exact fin S6 fun s7 J7 => ⟨_, _, J7, q6⟩
        | .cont, ⟨σ6, H6, S6, q6⟩ => exact fin S6 fun s7 J7 => ⟨_, _, J7, q6⟩
        | .ret u, ⟨v6, σ6, H6, S6, r6, q6⟩ => exact fin S6 fun s7 J7 => ⟨_, _, _, J7, r6, q6⟩
    | @bare x c ts b₀ suite np ps hds l hc hsu r ih =>
      rintro ⟨b, hb1, yes, no⟩
      have hb2 := PySem.W.exm_one (M := model X.prog X.w) J3.kIn LT hb1
      refine wpAny_handleBy_cons (codeAny_handlers_test (test hc (hb2.here ?_))) (fun q => nomatch q)
      cases b with
      | false => exact ih (no rfl)
      | true =>
        refine codeAny_handlers_suite (HandSPX.lands_againZ fl3 fun h4 fl4 up4 => ?_)
        have J4 : Inv X pins σ' H' { s' with heap := h4 } := J.landed nb fl4.1 ((up.trans up3).trans up4) os ag
        obtain ⟨oe4, vs4, he4, hz4, hd4⟩ := fl4.there
        refine wpAny_mono ((hsu a oe4 cls d (X.pn ++ pins) hz4 ⟨_, hd4⟩).run [] _ _ H' D (J4.suite he4 hd4 na nL nF) (yes rfl a na)) (fun f s6 hsp => ?_) fun _ _ z => z.elim
        match f, hsp with
        | .next, ⟨σ6, H6, S6, q6⟩ => exact ⟨_, _, S6.unsuite ok, q6⟩
        | .brk, ⟨σ6, H6, S6, q6⟩ => exact ⟨_, _, S6.unsuite ok, q6⟩
        | .cont, ⟨σ6, H6, S6, q6⟩ => exact ⟨_, _, S6.unsuite ok, q6⟩
        | .ret u, ⟨v6, σ6, H6, S6, r6, q6⟩ => exact ⟨_, _, _, S6.unsuite ok, r6, q6⟩
end
end Gd

namespace Gd
open PySem PySem.Spec PyProof.Rows L2
/-- a call of a def: the written arguments, then the defaults; what may be let out, at the slots -/
def tCallG (sp : Sp) (dvs : List V) (E : L2.St → XK) (t : TA) : TE := fun σ H Q => t σ H fun vs H1 => sp (vs ++ dvs) H1 Q (E σ)
/-- .. with keywords -/
def tCallH (n m : Nat) (sp : Sp) (gV : List V → List V → List V) (E : L2.St → XK) (t tk : TA) : TE := fun σ H Q => t σ H fun vs H1 => tk σ H1 fun zs H2 => vs.length = n ∧ zs.length = m ∧ sp (gV vs zs) H2 Q (E σ)
section
variable {X : Cx} {CX : CXT} {k n : Nat} {f : Addr} {fd : FuncData} {ps ks : List Str} {sp : Sp} {dvs : List V} {ds : List Value} {E : L2.St → XK} {x : Str} {p pos : Pos} {e : Expr} {es : List Expr} {t tk : TA} {kws : List Keyword}
  {g : List Value → List Value → List Value} {gV : List V → List V → List V}
theorem passN {σ : L2.St} : PassesAt CX0 X σ E0 := fun _ _ _ _ _ _ h => h.elim
theorem passM {σ : L2.St} : PassesAt (L2.CX X.prog X.w) X σ E0 := fun _ _ _ _ _ _ h => by
  obtain ⟨_, _, _, _, _, _, _, _, _, _, _, _, z⟩ := h
  exact z.elim
theorem endC {pins : List (Addr × Obj)} {σ : L2.St} {H : Hp} {s s' : Shared} {Q : VK} {E1 : XK} {r : Result} (hx : PassesAt CX X σ E1) (I : Inv X pins σ H s) (hq : CR CX X.stack X.prog X.w H s Q E1 r s') :
    match (motive := Result → Prop) r with
    | .ok (.ret v) => EP X pins σ Q v s'
    | .ok _ => False
    | .error e => X.xe e s' := by
  match r, hq with
  | .error e, hq => exact hx pins H s e s' I hq
  | .ok (.ret u), hq => exact I.after hq
  | .ok .next, hq => exact False.elim hq
  | .ok .brk, hq => exact False.elim hq
  | .ok .cont, hq => exact False.elim hq
theorem runC {pins : List (Addr × Obj)} {σ : L2.St} {H : Hp} {s : Shared} {Q : VK} {us : List Value} {vs : List V} (F : FnG X.prog X.w X.K X.mg X.base CX k f fd ps sp) (hc : Clean X.A) (hr : Room k X.A)
    (hb : Binds X.K fd ps ds) (hd : Vals dvs ds) (hx : PassesAt CX X σ (E σ)) (I : Inv X pins σ H s) (r : Vals vs us) (h : sp (vs ++ dvs) H Q (E σ)) :
    wpAny (model X.prog X.w) X.A (call (.ref f) us) (EP X pins σ Q) X.xe s := by
  have r2 := r.append hd
  have hl : (us ++ ds).length = ps.length := r2.length ▸ F.len _ _ _ _ h
  refine wpAny_call (codeAny_mono (F.run X.A X.stack s H ⟨us, []⟩ (us ++ ds) (vs ++ dvs) Q (E σ) hc hr I.env0 (hb s us I.kIn hl) r2 h) ?_)
  intro r s' hq
  have z := endC hx I hq
  match r, z with
  | .error e, z => exact z
  | .ok (.ret u), z => exact z
  | .ok .next, z => exact False.elim z
  | .ok .brk, z => exact False.elim z
  | .ok .cont, z => exact False.elim z
theorem runH {pins : List (Addr × Obj)} {σ : L2.St} {H : Hp} {s : Shared} {Q : VK} {us ws : List Value} {vs zs : List V} (F : FnG X.prog X.w X.K X.mg X.base CX k f fd ps sp) (hc : Clean X.A) (hr : Room k X.A)
    (hb : KBn X.K fd ps n ks g gV) (hx : PassesAt CX X σ (E σ)) (I : Inv X pins σ H s) (r : Vals vs us) (rz : Vals zs ws) (l1 : vs.length = n) (l2 : zs.length = ks.length) (h : sp (gV vs zs) H Q (E σ)) :
    wpAny (model X.prog X.w) X.A (call (.ref f) us (ks.zip ws)) (EP X pins σ Q) X.xe s := by
  refine wpAny_call (codeAny_mono (F.run X.A X.stack s H ⟨us, ks.zip ws⟩ (g us ws) (gV vs zs) Q (E σ) hc hr I.env0 (hb.to s us ws I.kIn (r.length.symm.trans l1) (rz.length.symm.trans l2)) (hb.rel r rz) h) ?_)
  intro r s' hq
  have z := endC hx I hq
  match r, z with
  | .error e, z => exact z
  | .ok (.ret u), z => exact z
  | .ok .next, z => exact False.elim z
  | .ok .brk, z => exact False.elim z
  | .ok .cont, z => exact False.elim z
/-- f(e, ..) -/
theorem pe_c (F : FnG X.prog X.w X.K X.mg X.base CX k f fd ps sp) (hc : Clean X.A) (hr : Room k X.A) (hg : Gl X x) (hm : X.mg x = some (.ref f)) (hk : PySem.W.keepIn X.K (.ref f) = true)
    (hb : Binds X.K fd ps ds) (hd : Vals dvs ds) (hx : ∀ σ, PassesAt CX X σ (E σ)) (ha : PA X (e :: es) t) (hdb : (x == ("__debug__" : Str)) = false := by decide)
    (he : starEach (e :: es) X.env = (false, eval e X.env) :: starEach es X.env := by rfl) (hpl : (backTo pos (starEach es X.env)).any (·.1) = false := by rfl) :
    PE X (.Call (.Name x p) (e :: es) [] pos) (tCallG sp dvs E t) := by
  refine ⟨fun pins s σ H Q I h => wpAny_Call_Name_kw (ld_glob I hg hm ?_ hdb)⟩
  exact PySem.W.callWith_K (h₀ := X.base) I.ok.mod.kin hk (thn (ha.run pos pins s σ H _ I h) fun us s1 ⟨vs, H1, I1, r, q⟩ => ⟨I1.kIn, runC F hc hr hb hd (hx σ) I1 r q⟩) he hpl
/-- f() -/
theorem pe_c0 (F : FnG X.prog X.w X.K X.mg X.base CX k f fd ps sp) (hc : Clean X.A) (hr : Room k X.A) (hg : Gl X x) (hm : X.mg x = some (.ref f)) (hk : PySem.W.keepIn X.K (.ref f) = true)
    (hb : Binds X.K fd ps ds) (hd : Vals dvs ds) (hx : ∀ σ, PassesAt CX X σ (E σ)) (hdb : (x == ("__debug__" : Str)) = false := by decide) :
    PE X (.Call (.Name x p) [] [] pos) (tCallG sp dvs E tNil) := by
  refine ⟨fun pins s σ H Q I h => wpAny_Call_Name_kw (ld_glob I hg hm ?_ hdb)⟩
  exact PySem.W.callWith_K0 I.kIn hk (runC (us := []) F hc hr hb hd (hx σ) I .nil h)
/-- f(e, .., k = v, ..) -/
theorem pe_h (F : FnG X.prog X.w X.K X.mg X.base CX k f fd ps sp) (hc : Clean X.A) (hr : Room k X.A) (hg : Gl X x) (hm : X.mg x = some (.ref f)) (hk : PySem.W.keepIn X.K (.ref f) = true)
    (hb : KBn X.K fd ps n ks g gV) (hx : ∀ σ, PassesAt CX X σ (E σ)) (ha : PA X (e :: es) t) (hkw : PK X kws tk)
    (hall : (backToKw pos (keywordEach kws X.env)).all (·.1.isSome) = true := by rfl) (hks : (backToKw pos (keywordEach kws X.env)).filterMap (·.1) = ks := by rfl) (hdb : (x == ("__debug__" : Str)) = false := by decide)
    (he : starEach (e :: es) X.env = (false, eval e X.env) :: starEach es X.env := by rfl)
    (hpl : ((backTo pos (starEach (e :: es) X.env)).any (·.1) || (backToKw pos (keywordEach kws X.env)).any (·.1.isNone)) = false := by rfl) :
    PE X (.Call (.Name x p) (e :: es) kws pos) (tCallH n ks.length sp gV E t tk) := by
  refine ⟨fun pins s σ H Q I h => wpAny_Call_Name_kw (ld_glob I hg hm ?_ hdb)⟩
  refine PySem.W.callWith_KW (h₀ := X.base) I.ok.mod.kin hk hall (thn (ha.run pos pins s σ H _ I h) fun us s1 ⟨vs, H1, I1, r, q⟩ => ?_) hpl he
  refine thn (hkw.run pos pins s1 σ H1 _ I1 q) fun ws s2 ⟨zs, H2, I2, rz, l1, l2, q2⟩ => ⟨I2.kIn, ?_⟩
  rw [hks]
  exact runH F hc hr hb (hx σ) I2 r rz l1 l2 q2
/-- f(k = v, ..) -/
theorem pe_h0 (F : FnG X.prog X.w X.K X.mg X.base CX k f fd ps sp) (hc : Clean X.A) (hr : Room k X.A) (hg : Gl X x) (hm : X.mg x = some (.ref f)) (hk : PySem.W.keepIn X.K (.ref f) = true)
    (hb : KBn X.K fd ps 0 ks g gV) (hx : ∀ σ, PassesAt CX X σ (E σ)) (hkw : PK X kws tk)
    (hall : (backToKw pos (keywordEach kws X.env)).all (·.1.isSome) = true := by rfl) (hks : (backToKw pos (keywordEach kws X.env)).filterMap (·.1) = ks := by rfl) (hdb : (x == ("__debug__" : Str)) = false := by decide)
    (hpl : ((backTo pos (starEach [] X.env)).any (·.1) || (backToKw pos (keywordEach kws X.env)).any (·.1.isNone)) = false := by rfl) :
    PE X (.Call (.Name x p) [] kws pos) (tCallH 0 ks.length sp gV E tNil tk) := by
  refine ⟨fun pins s σ H Q I h => wpAny_Call_Name_kw (ld_glob I hg hm ?_ hdb)⟩
  refine PySem.W.callWith_KW0 (h₀ := X.base) I.ok.mod.kin hk hall (thn (hkw.run pos pins s σ H _ I h) fun ws s2 ⟨zs, H2, I2, rz, l1, l2, q2⟩ => ⟨I2.kIn, ?_⟩) hpl
  rw [hks]
  exact runH (us := []) F hc hr hb (hx σ) I2 .nil rz l1 l2 q2
end
end Gd

namespace Gd
open PySem PySem.Spec PyProof.Rows L2
/-! ### data as it stands in the heap, dicts among it -/
def kD : Key → PyData
  | .inl i => .int i
  | .inr x => .str x
mutual
inductive Da (K : PySem.W.Frag) (H : Hp) : V → PyData → Prop
  | non : Da K H .non .none
  | bl (b : Bool) : Da K H (.bl b) (.bool b)
  | int (i : Int) : Da K H (.int i) (.int i)
  | str (x : Str) : Da K H (.str x) (.str x)
  | lst {a : Addr} {xs : List V} {ds : List PyData} : H a = some (.lst xs) → DaL K H xs ds → Da K H (.ref a) (.list ds)
  | tup {a : Addr} {xs : List V} {ds : List PyData} : SqT K H a xs → DaL K H xs ds → Da K H (.ref a) (.tuple ds)
  | dct {a : Addr} {kvs : List (Key × V)} {ds : List PyData} : H a = some (.dK kvs) → DaL K H (kvs.map (·.2)) ds → Da K H (.ref a) (.dict ((kvs.map fun p => kD p.1).zip ds))
inductive DaL (K : PySem.W.Frag) (H : Hp) : List V → List PyData → Prop
  | nil : DaL K H [] []
  | cons {v : V} {vs : List V} {d : PyData} {ds : List PyData} : Da K H v d → DaL K H vs ds → DaL K H (v :: vs) (d :: ds)
end
section
variable {K : PySem.W.Frag} {H H' : Hp}
theorem DaL.length : ∀ {vs : List V} {ds : List PyData}, DaL K H vs ds → ds.length = vs.length
  | _, _, .nil => rfl
  | _, _, .cons _ r => by rw [List.length_cons, List.length_cons, r.length]
theorem sameT {a : Addr} {xs : List V} (e : Same H H') (h : SqT K H a xs) : SqT K H' a xs := by
  rcases h with (h | ⟨o, h⟩) | h
  · exact .inl (.inl (e _ _ h))
  · exact .inl (.inr ⟨o, e _ _ h⟩)
  · exact .inr h
mutual
theorem Da.same (e : Same H H') : ∀ {v : V} {d : PyData}, Da K H v d → Da K H' v d
  | _, _, .non => .non
  | _, _, .bl b => .bl b
  | _, _, .int i => .int i
  | _, _, .str x => .str x
  | _, _, .lst h r => .lst (e _ _ h) (DaL.same e r)
  | _, _, .tup h r => .tup (sameT e h) (DaL.same e r)
  | _, _, .dct h r => .dct (e _ _ h) (DaL.same e r)
theorem DaL.same (e : Same H H') : ∀ {vs : List V} {ds : List PyData}, DaL K H vs ds → DaL K H' vs ds
  | _, _, .nil => .nil
  | _, _, .cons h r => .cons (Da.same e h) (DaL.same e r)
end
theorem DaL.append : ∀ {vs ws : List V} {ds es : List PyData}, DaL K H vs ds → DaL K H ws es → DaL K H (vs ++ ws) (ds ++ es)
  | _, _, _, _, .nil, r => r
  | _, _, _, _, .cons h t, r => .cons h (DaL.append t r)
theorem DaL.strs : ∀ l : List Str, DaL K H (l.map V.str) (l.map PyData.str)
  | [] => .nil
  | x :: l => .cons (.str x) (DaL.strs l)
theorem DaL.ints : ∀ l : List Int, DaL K H (l.map V.int) (l.map PyData.int)
  | [] => .nil
  | x :: l => .cons (.int x) (DaL.ints l)
theorem DaL.bls : ∀ l : List Bool, DaL K H (l.map V.bl) (l.map PyData.bool)
  | [] => .nil
  | x :: l => .cons (.bl x) (DaL.bls l)
end
/-! ### what stands there is read -/
section
variable {X : Cx} {pins : List (Addr × Obj)} {σ : L2.St} {H : Hp} {s : Shared}
abbrev Free (as : List Addr) : Prop := sysModules ∉ as
theorem free_cons {a : Addr} {as : List Addr} (h : a ≠ sysModules) (r : Free as) : Free (a :: as) := fun m =>
  (List.mem_cons.mp m).elim (fun e => h e.symm) r
theorem free_app {as bs : List Addr} (h : Free as) (r : Free bs) : Free (as ++ bs) := fun m => (List.mem_append.mp m).elim h r
theorem notSys (I : Inv X pins σ H s) (hS : SysIn X.base) {a : Addr} {o : HO} (h : H a = some o) : a ≠ sysModules := by
  rintro rfl
  obtain ⟨ob, hb⟩ := hS
  rw [(I.bs _ _ hb).2] at h
  exact nomatch h
theorem key_reads : ∀ (kvs : List (Key × V)) (vs : List (Key × Value)) (es : List DictEntry), KV kvs vs → Pairs (mixKind X.prog X.w) es vs →
    (∃ as, ReadsAll s.heap (es.map (·.key)) (kvs.map fun p => kD p.1) as ∧ Free as) ∧ Vals (kvs.map (·.2)) (es.map (·.val))
  | _, _, _, .nil, .nil => ⟨⟨[], .nil, List.not_mem_nil⟩, .nil⟩
  | _, _, _, .cons ⟨ek, rv⟩ r, .cons hk hv p => by
    obtain ⟨⟨as, h1, h2⟩, h3⟩ := key_reads _ _ _ r p
    refine ⟨?_, .cons (by show RelV _ (DictEntry.val _); rw [hv]; exact rv) h3⟩
    rw [← ek] at hk
    rcases keyIs_shape hk with ⟨i, t, e1, e2⟩ | ⟨y, t, e1, e2⟩
    · refine ⟨[] ++ as, ?_, h2⟩
      refine .cons ?_ h1
      show Reads _ (DictEntry.key _) (kD _) []
      rw [e1, e2]
      exact .int i t
    · refine ⟨[] ++ as, ?_, h2⟩
      refine .cons ?_ h1
      show Reads _ (DictEntry.key _) (kD _) []
      rw [e1, e2]
      exact .str y t
theorem zip_fst : ∀ (ks ds : List PyData), ks.length = ds.length → (ks.zip ds).map (·.1) = ks
  | [], _, _ => rfl
  | _ :: _, [], h => nomatch h
  | k :: ks, d :: ds, h => by
    show k :: (ks.zip ds).map (·.1) = k :: ks
    rw [zip_fst ks ds (Nat.succ.inj h)]
theorem zip_snd : ∀ (ks ds : List PyData), ks.length = ds.length → (ks.zip ds).map (·.2) = ds
  | [], [], _ => rfl
  | [], _ :: _, h => nomatch h
  | _ :: _, [], h => nomatch h
  | k :: ks, d :: ds, h => by
    show d :: (ks.zip ds).map (·.2) = d :: ds
    rw [zip_snd ks ds (Nat.succ.inj h)]
mutual
theorem Da.reads (I : Inv X pins σ H s) (hS : SysIn X.base) : ∀ {v : V} {d : PyData} {u : Value}, Da X.K H v d → RelV v u → ∃ as, Reads s.heap u d as ∧ Free as
  | _, _, _, .non, r => by
    cases r
    exact ⟨_, .none, List.not_mem_nil⟩
  | _, _, _, .bl b, r => by
    cases r
    exact ⟨_, .bool b, List.not_mem_nil⟩
  | _, _, _, .int i, ⟨t, r⟩ => by
    cases r
    exact ⟨_, .int i t, List.not_mem_nil⟩
  | _, _, _, .str x, ⟨t, r⟩ => by
    cases r
    exact ⟨_, .str x t, List.not_mem_nil⟩
  | _, _, _, .lst h q, r => by
    cases r
    obtain ⟨_, its, n, rv, ho⟩ := I.hok _ _ h
    obtain ⟨as, h1, h2⟩ := DaL.reads I hS q rv
    exact ⟨_, .list ho rfl rfl h1, free_cons (notSys I hS h) h2⟩
  | _, _, _, .tup h q, r => by
    cases r
    obtain ⟨its, rv, ⟨o, ho, hc, n, hd⟩, _⟩ := I.tuple h
    obtain ⟨as, h1, h2⟩ := DaL.reads I hS q rv
    exact ⟨_, .tuple ho hc hd h1, h2⟩
  | _, _, _, .dct (kvs := kvs) (ds := ds) h q, r => by
    cases r
    obtain ⟨_, hns, vs, rk, o, es, ep, ho, hex, hd, _, hp, _⟩ := I.hok _ _ h
    obtain ⟨⟨as, k1, k2⟩, rv⟩ := key_reads (s := s) kvs vs es.toList rk hp
    obtain ⟨bs, v1, v2⟩ := DaL.reads I hS q rv
    have hl : (kvs.map fun p => kD p.1).length = ds.length := by
      rw [q.length, List.length_map, List.length_map]
    have k1' : ReadsAll s.heap (es.toList.map (·.key)) (((kvs.map fun p => kD p.1).zip ds).map (·.1)) as := by
      rw [zip_fst _ _ hl]
      exact k1
    have v1' : ReadsAll s.heap (es.toList.map (·.val)) (((kvs.map fun p => kD p.1).zip ds).map (·.2)) bs := by
      rw [zip_snd _ _ hl]
      exact v1
    exact ⟨_, .dict ho hex.1 hd k1' v1', free_app (free_cons (notSys I hS h) k2) v2⟩
theorem DaL.reads (I : Inv X pins σ H s) (hS : SysIn X.base) : ∀ {vs : List V} {ds : List PyData} {us : List Value}, DaL X.K H vs ds → Vals vs us → ∃ as, ReadsAll s.heap us ds as ∧ Free as
  | _, _, _, .nil, .nil => ⟨_, .nil, List.not_mem_nil⟩
  | _, _, _, .cons h q, .cons r rs => by
    obtain ⟨as, h1, h2⟩ := Da.reads I hS h r
    obtain ⟨bs, h3, h4⟩ := DaL.reads I hS q rs
    exact ⟨_, .cons h1 h3, free_app h2 h4⟩
end
end
/-! ### the room that a written form takes -/
mutual
/-- more than its written form has signs -/
def wid : PyData → Nat
  | .none => 4
  | .bool _ => 5
  | .int i => i.natAbs.log2 + 3
  | .str x => 10 * x.length + 2
  | .list xs => widL xs + 2
  | .tuple xs => widL xs + 3
  | .dict kvs => widK kvs + 2
def widL : List PyData → Nat
  | [] => 0
  | x :: xs => wid x + 2 + widL xs
def widK : List (PyData × PyData) → Nat
  | [] => 0
  | (k, v) :: r => wid k + wid v + 4 + widK r
end
mutual
/-- it can be written: the signs of its texts are signs, its numbers are not too great -/
def Ok1 : PyData → Prop
  | .none => True
  | .bool _ => True
  | .int i => i.natAbs.log2 < 1920
  | .str x => ∀ c ∈ x.cps.toList, c < 16 ^ 8
  | .list xs => OkL xs
  | .tuple xs => OkL xs
  | .dict kvs => OkK kvs
def OkL : List PyData → Prop
  | [] => True
  | x :: xs => Ok1 x ∧ OkL xs
def OkK : List (PyData × PyData) → Prop
  | [] => True
  | (k, v) :: r => Ok1 k ∧ Ok1 v ∧ OkK r
end

mutual
theorem ok_show : ∀ d : PyData, Ok1 d → d.showable = true
  | .none, _ => rfl
  | .bool _, _ => rfl
  | .int _, h => decide_eq_true h
  | .str _, _ => rfl
  | .list xs, h => ok_showL xs h
  | .tuple xs, h => ok_showL xs h
  | .dict kvs, h => ok_showK kvs h
theorem ok_showL : ∀ xs : List PyData, OkL xs → PyData.showableAll xs = true
  | [], _ => rfl
  | x :: xs, h => by
    show (PyData.showable x && PyData.showableAll xs) = true
    rw [ok_show x h.1, ok_showL xs h.2]
    rfl
theorem ok_showK : ∀ xs : List (PyData × PyData), OkK xs → PyData.showableKv xs = true
  | [], _ => rfl
  | (k, v) :: xs, h => by
    show (PyData.showable k && PyData.showable v && PyData.showableKv xs) = true
    rw [ok_show k h.1, ok_show v h.2.1, ok_showK xs h.2.2]
    rfl
end
theorem textFrom_le : ∀ (ts : List Str) (k : Nat) (acc : Str), (textFrom k acc ts).length ≤ acc.length + (ts.map fun t => t.length + 2).sum
  | [], _, acc => Nat.le_add_right _ _
  | t :: r, k, acc => by
    have ih := textFrom_le r (k + 1) (acc ++ (if k > 0 then ", " else "" : String) ++ t)
    rw [strLen_append, strLen_append] at ih
    have e : (((if k > 0 then ", " else "" : String) : Str)).length ≤ 2 := by split <;> decide +kernel
    rw [List.map_cons, List.sum_cons]
    show (textFrom (k + 1) (acc ++ (if k > 0 then ", " else "" : String) ++ t) r).length ≤ _
    omega
theorem listText_le (ts : List Str) : (listText ts).length ≤ 2 + (ts.map fun t => t.length + 2).sum := by
  have h := textFrom_le ts 0 "["
  have e1 : (("[" : String) : Str).length = 1 := by decide +kernel
  have e2 : (("]" : String) : Str).length = 1 := by decide +kernel
  unfold listText
  rw [strLen_append]
  omega
theorem piled_map : ∀ ts : List Str, piled ts = (ts.map fun t => t.length + 2).sum
  | [] => rfl
  | t :: r => by
    rw [piled_cons, piled_map r, List.map_cons, List.sum_cons]
theorem join_le (ts : List Str) : (Str.join ", " ts).length ≤ (ts.map fun t => t.length + 2).sum := by
  by_cases h : ts = []
  · subst h
    decide +kernel
  · have := join_length_add ts h
    rw [piled_map] at this
    omega
theorem tupleText_le (ts : List Str) : (tupleText ts).length ≤ 3 + (ts.map fun t => t.length + 2).sum := by
  have e3 : (((if ts.length == 1 then ",)" else ")" : String) : Str)).length ≤ 2 := by split <;> decide +kernel
  have e1 : (("(" : String) : Str).length = 1 := by decide +kernel
  have h := join_le ts
  unfold tupleText
  rw [strLen_append, strLen_append]
  omega
theorem dictText_le (ts : List Str) : (dictText ts).length ≤ 2 + (ts.map fun t => t.length + 2).sum := by
  have e1 : (("{" : String) : Str).length = 1 := by decide +kernel
  have e2 : (("}" : String) : Str).length = 1 := by decide +kernel
  have h := join_le ts
  unfold dictText
  rw [strLen_append, strLen_append]
  omega
mutual
theorem wid_le : ∀ d : PyData, Ok1 d → d.shown.length ≤ wid d
  | .none, _ => by show (("None" : String) : Str).length ≤ 4; decide +kernel
  | .bool b, _ => by cases b <;> (show Str.length _ ≤ 5) <;> decide +kernel
  | .int i, _ => by
    have h := int_text_length_le (a := i) (k := i.natAbs.log2 + 1) (Nat.succ_pos _) (Nat.lt_succ_self _)
    show (Str.ofString (toString i)).length ≤ i.natAbs.log2 + 3
    have e : (Str.ofString (toString i)).length = (toString i).length := PySem.ofString_length _
    omega
  | .str x, h => StrLaws.reprText_len x h
  | .list xs, h => by
    have h1 := widL_le xs h
    have h2 := listText_le (PyData.shownAll xs)
    show (listText (PyData.shownAll xs)).length ≤ widL xs + 2
    omega
  | .tuple xs, h => by
    have h1 := widL_le xs h
    have h2 := tupleText_le (PyData.shownAll xs)
    show (tupleText (PyData.shownAll xs)).length ≤ widL xs + 3
    omega
  | .dict xs, h => by
    have h1 := widK_le xs h
    have h2 := dictText_le (PyData.shownKv xs)
    show (dictText (PyData.shownKv xs)).length ≤ widK xs + 2
    omega
theorem widL_le : ∀ xs : List PyData, OkL xs → ((PyData.shownAll xs).map fun t => t.length + 2).sum ≤ widL xs
  | [], _ => Nat.le_refl _
  | x :: xs, h => by
    have h1 := wid_le x h.1
    have h2 := widL_le xs h.2
    show (x.shown.length + 2) + ((PyData.shownAll xs).map fun t => t.length + 2).sum ≤ wid x + 2 + widL xs
    omega
theorem widK_le : ∀ xs : List (PyData × PyData), OkK xs → ((PyData.shownKv xs).map fun t => t.length + 2).sum ≤ widK xs
  | [], _ => Nat.le_refl _
  | (k, v) :: xs, h => by
    have h1 := wid_le k h.1
    have h2 := wid_le v h.2.1
    have h3 := widK_le xs h.2.2
    have e2 : ((": " : String) : Str).length = 2 := by decide +kernel
    show ((k.shown ++ ": " ++ v.shown).length + 2) + ((PyData.shownKv xs).map fun t => t.length + 2).sum ≤ wid k + wid v + 4 + widK xs
    rw [strLen_append, strLen_append]
    omega
end
/-- repr of data: the text, all else as it stood -/
theorem call_repr {X : Cx} (hc : Clean X.A) (hS : SysIn X.base) (hu : X.A.units + 100 < cLine) : CallR X (.builtin "repr") (fun xs H Q => ∃ x d, xs = [x] ∧ Da X.K H x d ∧ Ok1 d ∧ wid d ≤ sizeLine ∧ d.depth ≤ 64 ∧ Q (.str d.shown) H) := by
  intro pins s σ H xs us Q I r h
  obtain ⟨x, d, rfl, hd, ok, hz, hdp, q⟩ := h
  obtain ⟨u, rfl, ru⟩ := vals1 r
  have hz' : d.shown.length ≤ sizeLine := Nat.le_trans (wid_le d ok) hz
  obtain ⟨as, hr, hf⟩ := Da.reads I hS hd ru
  have fin : ∀ (t tk : Tok) (h' : Heap), (∀ b o, s.heap.get? b = some o → h'.get? b = some o) → EP X pins σ Q (.str d.shown t) { s with heap := h', toks := tk } :=
    fun t tk h' k => ⟨.str d.shown, H, I.kept k, ⟨t, rfl⟩, q⟩
  cases hd with
  | non =>
    cases ru
    exact PySem.P.repr_of_none (fin _ _ s.heap fun _ _ e => e)
  | bl b =>
    cases ru
    exact PySem.P.repr_of_bool (fin _ _ s.heap fun _ _ e => e)
  | int i =>
    obtain ⟨t, rfl⟩ := ru
    exact PySem.P.repr_of_int ok (fin _ _ s.heap fun _ _ e => e)
  | str y =>
    obtain ⟨t, rfl⟩ := ru
    exact PySem.P.repr_of_str (fin _ _ s.heap fun _ _ e => e) hz'
  | lst h1 h2 =>
    cases ru
    exact repr_of_reads' hr (ok_show _ ok) (fun _ => hf) hc (by omega) (fun _ _ e => e) (fun h' u tk k => fin u tk h' k) hz'
  | tup h1 h2 =>
    cases ru
    exact repr_of_reads' hr (ok_show _ ok) (fun _ => hf) hc (by omega) (fun _ _ e => e) (fun h' u tk k => fin u tk h' k) hz'
  | dct h1 h2 =>
    cases ru
    exact repr_of_reads' hr (ok_show _ ok) (fun _ => hf) hc (by omega) (fun _ _ e => e) (fun h' u tk k => fin u tk h' k) hz'
end Gd

namespace Gd
open PySem PySem.Spec PyProof.Rows L2
/-! ### a def as its callers see it -/
structure Df (P : Program) (w : World) (K : PySem.W.Frag) (mg : Str → Option Value) (base : Heap) (CX : CXT) (k : Nat) (x : Str) (f : Addr) (fd : FuncData) (ps : List Str) (sp : Sp) : Prop where
  G : FnG P w K mg base CX k f fd ps sp
  m : mg x = some (.ref f)
  kp : PySem.W.keepIn K (.ref f) = true
  b : Binds K fd ps []
theorem room100 {k : Nat} {A : Around} (r : Room k A) : A.units + 100 < cLine := by
  have := r.un
  omega
section
variable {X : Cx} {CX : CXT} {k n : Nat} {f : Addr} {fd : FuncData} {ps ks : List Str} {sp : Sp} {E : L2.St → XK} {x : Str} {p pos : Pos} {e : Expr} {es : List Expr} {t tk : TA} {kws : List Keyword}
  {g : List Value → List Value → List Value} {gV : List V → List V → List V}
theorem pe_k {v : V} {x : Str} {pos : Pos} (hg : Gl X x) (h : ∃ u, X.mg x = some u ∧ RelV v u) (hd : (x == ("__debug__" : Str)) = false := by decide) : PE X (.Name x pos) (tC v) :=
  let ⟨_, h1, h2⟩ := h
  pe_glob hg h1 h2 hd
theorem pe_d (D : Df X.prog X.w X.K X.mg X.base CX k x f fd ps sp) (hc : Clean X.A) (hr : Room k X.A) (hg : Gl X x) (hx : ∀ σ, PassesAt CX X σ (E σ)) (ha : PA X (e :: es) t) (hdb : (x == ("__debug__" : Str)) = false := by decide)
    (he : starEach (e :: es) X.env = (false, eval e X.env) :: starEach es X.env := by rfl) (hpl : (backTo pos (starEach es X.env)).any (·.1) = false := by rfl) :
    PE X (.Call (.Name x p) (e :: es) [] pos) (tCallG sp [] E t) := pe_c D.G hc hr hg D.m D.kp D.b .nil hx ha hdb he hpl
theorem pe_d0 (D : Df X.prog X.w X.K X.mg X.base CX k x f fd ps sp) (hc : Clean X.A) (hr : Room k X.A) (hg : Gl X x) (hx : ∀ σ, PassesAt CX X σ (E σ)) (hdb : (x == ("__debug__" : Str)) = false := by decide) :
    PE X (.Call (.Name x p) [] [] pos) (tCallG sp [] E tNil) := pe_c0 D.G hc hr hg D.m D.kp D.b .nil hx hdb
/-- with defaults -/
structure Dd (P : Program) (w : World) (K : PySem.W.Frag) (mg : Str → Option Value) (base : Heap) (CX : CXT) (k : Nat) (x : Str) (f : Addr) (fd : FuncData) (ps : List Str) (dvs : List V) (sp : Sp) : Prop where
  G : FnG P w K mg base CX k f fd ps sp
  m : mg x = some (.ref f)
  kp : PySem.W.keepIn K (.ref f) = true
  b : ∃ ds, Vals dvs ds ∧ Binds K fd ps ds
theorem pe_dd {dvs : List V} (D : Dd X.prog X.w X.K X.mg X.base CX k x f fd ps dvs sp) (hc : Clean X.A) (hr : Room k X.A) (hg : Gl X x) (hx : ∀ σ, PassesAt CX X σ (E σ)) (ha : PA X (e :: es) t) (hdb : (x == ("__debug__" : Str)) = false := by decide)
    (he : starEach (e :: es) X.env = (false, eval e X.env) :: starEach es X.env := by rfl) (hpl : (backTo pos (starEach es X.env)).any (·.1) = false := by rfl) :
    PE X (.Call (.Name x p) (e :: es) [] pos) (tCallG sp dvs E t) :=
  let ⟨_, hd, hb⟩ := D.b
  pe_c D.G hc hr hg D.m D.kp hb hd hx ha hdb he hpl
/-- called with keywords -/
structure Dk (P : Program) (w : World) (K : PySem.W.Frag) (mg : Str → Option Value) (base : Heap) (CX : CXT) (k : Nat) (x : Str) (f : Addr) (fd : FuncData) (ps : List Str) (sp : Sp) (n : Nat) (ks : List Str) (gV : List V → List V → List V) : Prop where
  G : FnG P w K mg base CX k f fd ps sp
  m : mg x = some (.ref f)
  kp : PySem.W.keepIn K (.ref f) = true
  b : ∃ g, KBn K fd ps n ks g gV
theorem pe_dk (D : Dk X.prog X.w X.K X.mg X.base CX k x f fd ps sp n ks gV) (hc : Clean X.A) (hr : Room k X.A) (hg : Gl X x) (hx : ∀ σ, PassesAt CX X σ (E σ)) (ha : PA X (e :: es) t) (hkw : PK X kws tk)
    (hall : (backToKw pos (keywordEach kws X.env)).all (·.1.isSome) = true := by rfl) (hks : (backToKw pos (keywordEach kws X.env)).filterMap (·.1) = ks := by rfl) (hdb : (x == ("__debug__" : Str)) = false := by decide)
    (he : starEach (e :: es) X.env = (false, eval e X.env) :: starEach es X.env := by rfl)
    (hpl : ((backTo pos (starEach (e :: es) X.env)).any (·.1) || (backToKw pos (keywordEach kws X.env)).any (·.1.isNone)) = false := by rfl) :
    PE X (.Call (.Name x p) (e :: es) kws pos) (tCallH n ks.length sp gV E t tk) :=
  let ⟨_, hb⟩ := D.b
  pe_h D.G hc hr hg D.m D.kp hb hx ha hkw hall hks hdb he hpl
theorem pe_dk0 (D : Dk X.prog X.w X.K X.mg X.base CX k x f fd ps sp 0 ks gV) (hc : Clean X.A) (hr : Room k X.A) (hg : Gl X x) (hx : ∀ σ, PassesAt CX X σ (E σ)) (hkw : PK X kws tk)
    (hall : (backToKw pos (keywordEach kws X.env)).all (·.1.isSome) = true := by rfl) (hks : (backToKw pos (keywordEach kws X.env)).filterMap (·.1) = ks := by rfl) (hdb : (x == ("__debug__" : Str)) = false := by decide)
    (hpl : ((backTo pos (starEach [] X.env)).any (·.1) || (backToKw pos (keywordEach kws X.env)).any (·.1.isNone)) = false := by rfl) :
    PE X (.Call (.Name x p) [] kws pos) (tCallH 0 ks.length sp gV E tNil tk) :=
  let ⟨_, hb⟩ := D.b
  pe_h0 D.G hc hr hg D.m D.kp hb hx hkw hall hks hdb hpl
end
/-! ### is True, is not False -/
section
variable {X : Cx}
theorem rel_bl {x : V} {u : Value} {b : Bool} (r : RelV x u) (h : x ≠ .bl b) : u ≠ Value.bool b := by
  intro e
  subst e
  cases x with
  | bl c =>
    have : Value.bool b = Value.bool c := r
    cases this
    exact h rfl
  | non => exact nomatch (r : Value.bool b = Value.none)
  | int _ => obtain ⟨_, q⟩ := r; exact nomatch q
  | str _ => obtain ⟨_, q⟩ := r; exact nomatch q
  | byt _ => obtain ⟨_, q⟩ := r; exact nomatch q
  | flt _ => obtain ⟨_, q⟩ := r; exact nomatch q
  | ref a => exact nomatch (r : Value.bool b = Value.ref a)
  | ty n => exact nomatch (r : Value.bool b = Value.type n)
theorem plain_bl {x : V} {u : Value} {b : Bool} (r : RelV x u) : plainIs u (Value.bool b) = true := by
  cases x with
  | bl c => cases (show u = Value.bool c from r); rfl
  | non => cases (show u = Value.none from r); rfl
  | int _ => obtain ⟨_, q⟩ := r; subst q; rfl
  | str _ => obtain ⟨_, q⟩ := r; subst q; rfl
  | byt _ => obtain ⟨_, q⟩ := r; subst q; rfl
  | flt _ => obtain ⟨_, q⟩ := r; subst q; rfl
  | ref a => cases (show u = Value.ref a from r); rfl
  | ty n => cases (show u = Value.type n from r); rfl
theorem op_isB : OpR X (compareOp .Is) (fun x y H Q => ∃ b, y = .bl b ∧ Q (.bl (decide (x = .bl b))) H) := by
  intro pins s σ H x y v u Q I rx ry h
  obtain ⟨b, rfl, q⟩ := h
  cases (show u = Value.bool b from ry)
  by_cases e : x = .bl b
  · subst e
    cases (show v = Value.bool b from rx)
    exact wpAny_is_self rfl ⟨.bl true, H, I, rfl, by simpa using q⟩
  · exact wpAny_is_other (plain_bl rx) (rel_bl rx e) ⟨.bl false, H, I, rfl, by simpa [e] using q⟩
theorem op_notB : OpR X (compareOp .IsNot) (fun x y H Q => ∃ b, y = .bl b ∧ Q (.bl (!decide (x = .bl b))) H) := by
  intro pins s σ H x y v u Q I rx ry h
  obtain ⟨b, rfl, q⟩ := h
  cases (show u = Value.bool b from ry)
  by_cases e : x = .bl b
  · subst e
    cases (show v = Value.bool b from rx)
    exact wpAny_isNot_self rfl ⟨.bl false, H, I, rfl, by simpa using q⟩
  · exact wpAny_isNot_other (plain_bl rx) (rel_bl rx e) ⟨.bl true, H, I, rfl, by simpa [e] using q⟩
/-! ### s * n -/
def repS (x : Str) (n : Int) : Str := ⟨(List.replicate n.toNat x.cps).foldl (· ++ ·) #[]⟩
theorem fold_app (c : Array Nat) : ∀ (n : Nat) (a : Array Nat), ((List.replicate n c).foldl (· ++ ·) a).toList = a.toList ++ (List.replicate n c.toList).flatten
  | 0, a => by simp
  | n + 1, a => by
    rw [List.replicate_succ, List.foldl_cons, fold_app c n (a ++ c), List.replicate_succ, List.flatten_cons, Array.toList_append, List.append_assoc]
theorem repS_list (x : Str) (n : Int) : (repS x n).cps.toList = (List.replicate n.toNat x.cps.toList).flatten := by
  show ((List.replicate n.toNat x.cps).foldl (· ++ ·) #[]).toList = _
  rw [fold_app]
  rfl
theorem op_repS : OpR X (binaryOp .Mult) (fun x y H Q => ∃ z n, x = .str z ∧ y = .int n ∧ 1 < n ∧ n < 1000000 ∧ z.length ≠ 0 ∧ z.length * n.toNat ≤ sizeLine ∧ Q (.str (repS z n)) H) := by
  intro pins s σ H x y v u Q I rx ry h
  obtain ⟨z, n, rfl, rfl, h1, h2, h0, hz, q⟩ := h
  obtain ⟨t, rfl⟩ := rx
  obtain ⟨t', rfl⟩ := ry
  have e1 : (n == 1 || z.length == 0) = false := by
    rw [Bool.or_eq_false_iff]
    exact ⟨beq_eq_false_iff_ne.mpr (by omega), beq_eq_false_iff_ne.mpr h0⟩
  have hb : ¬ (z.length : Int) > (2 ^ 63 - 1) / n := by
    intro c
    have hs := hz
    rw [sizeLine_eq] at hs
    have h3 : (z.length : Int) * n ≤ 16777216 := by
      have h4 : ((z.length * n.toNat : Nat) : Int) ≤ 16777216 := Int.ofNat_le.mpr hs
      rw [Int.natCast_mul, Int.toNat_of_nonneg (by omega)] at h4
      exact h4
    have h5 : (z.length : Int) ≤ 16777216 := by
      have h6 : (1 : Int) ≤ z.length := by omega
      have h7 : (z.length : Int) * 1 ≤ (z.length : Int) * n := Int.mul_le_mul_of_nonneg_left (by omega) (by omega)
      omega
    have h8 : (2 ^ 63 - 1 : Int) / n ≥ (2 ^ 63 - 1) / 1000000 := by
      have : (2 ^ 63 - 1 : Int) / 1000000 * n ≤ (2 ^ 63 - 1) := by
        have h9 : (2 ^ 63 - 1 : Int) / 1000000 = 9223372036854 := by decide
        rw [h9]
        omega
      exact (Int.le_ediv_iff_mul_le (by omega)).mpr this
    have h10 : (2 ^ 63 - 1 : Int) / 1000000 = 9223372036854 := by decide
    omega
  refine PySem.P.mul_str (by rw [Bool.or_eq_false_iff]; exact ⟨decide_eq_false (by omega), decide_eq_false (by omega)⟩) (fun _ _ => hb) (fun _ _ => ?_) ?_
  · unfold Builtin.Str.tooLong
    exact decide_eq_false (by omega)
  · rw [if_neg (by omega), if_neg (by rw [e1]; exact Bool.false_ne_true)]
    have hl : (repS z n).length ≤ sizeLine := by
      have e : (repS z n).length = z.length * n.toNat := by
        show (repS z n).cps.size = _
        rw [← Array.length_toList, repS_list, List.length_flatten, List.map_replicate, List.sum_replicate_nat]
        show n.toNat * z.cps.toList.length = _
        rw [Array.length_toList, Nat.mul_comm]
        rfl
      omega
    exact ⟨hl, ⟨.str (repS z n), H, I.tok _, ⟨_, rfl⟩, q⟩⟩
end
end Gd

namespace PySem
namespace Xe
open PySem.W PySem.Calls PyProof.Rows
/-- what a builtin __init__ of an exception tells -/
structure InF (T I : String) : Prop where
  init : Slot T "__init__" I
  ent : entryFor table I = some Builtin.«BaseException.__init__»
  spl : splitId I = some (T, "__init__")
  knd : builtinKind I = some .slot
  row : Manifest.signature? I = some ⟨.positional, "*", T, .self, [⟨"args", .varPos, false⟩]⟩
  noStar : (T != "*") = true
theorem in_ve : InF "ValueError" "ValueError.__init__" := ⟨F.excBase_ValueError.init, F.excBase_ValueError.initEntry, F.excBase_ValueError.initSplit, F.excBase_ValueError.initKind, F.excBase_ValueError.initRow, F.excBase_ValueError.noStar⟩
theorem in_le : InF "LookupError" "LookupError.__init__" := ⟨F.excBase_LookupError.init, F.excBase_LookupError.initEntry, F.excBase_LookupError.initSplit, F.excBase_LookupError.initKind, F.excBase_LookupError.initRow, F.excBase_LookupError.noStar⟩
section
variable {cn cq : Str} {C cN : Addr} {cb cm : List Value} {y1 : Bool} {y2 : List Str} {y3 : List Value} {y4 : Bool} {y5 : Option Bool} {y6 : Option Addr} {z0 z1 z2 z3 z5 : Option Value} {T I nw : String}
variable {W : Heap} {gs : Array GenState} {dr : Drawn} {tn : Nat} {ow : OsState} {A : Around} {X : Value → Shared → Prop} {pg : Program} {wd : World} {R : Result → Shared → Prop}
theorem chk_in {M : Model} {e : Addr} {oe : Obj} {us : List Value} {P : Unit → Shared → Prop} (F : InF T I) (o : cm.contains (.type T) = true)
    (wC : W.get? C = some (excClassObj cn cq C cN cb cm y1 y2 y3 y4 y5 y6 z0 z1 z2 z3 z5 nw)) (we : W.get? e = some oe) (wc : oe.cls = .ref C) (hp : P () ⟨W, gs, dr, tn, ow⟩) :
    wpAny M A (checkBuiltinCall I ⟨.ref e :: us, []⟩) P X ⟨W, gs, dr, tn, ow⟩ := by
  have wB : (Value.ref C :: cm).contains (.type T) = true := by rw [List.contains_cons, o, Bool.or_true]
  have wS := F.noStar
  simp only [checkBuiltinCall, F.knd, F.spl, F.row]
  repeat (first | (with_reducible refine wpAny_loadPart_at we ?_; rw [wc]) | with_reducible refine wpAny_loadPart_at wC ?_ | (with_reducible refine wpAny_isSubtype_exc wC ?_; rw [wB]) | wp_step)
  refine wpAny_onRaise ?_
  rw [show ∀ (a b : String) (n : Nat), Bind.check ⟨.positional, "*", T, .self, [⟨"args", .varPos, false⟩]⟩ a b n (List.map (fun x => x.fst) ({ pos := Value.ref e :: us } : Args).kw) = pure () from fun a b n => check_star_args _ _ _ _ _ _]
  exact wpAny_pure hp
theorem run_in {e t0 : Addr} {us : List Value} (F : InF T I) (o : cm.contains (.type T) = true)
    (wC : W.get? C = some (excClassObj cn cq C cN cb cm y1 y2 y3 y4 y5 y6 z0 z1 z2 z3 z5 nw)) (we : W.get? e = some (xO C t0)) (wz : us.length ≤ sizeLine)
    (hp : ∀ V t1, (∀ b p, b ≠ e → W.get? b = some p → V.get? b = some p) → V.get? e = some (xO C t1) → R (.ok (.ret .none)) ⟨V, gs, dr, tn, ow⟩) :
    codeAny (model pg wd) A (.call (.builtin I) ⟨.ref e :: us, []⟩) R ⟨W, gs, dr, tn, ow⟩ := by
  refine codeAny_call_builtin F.init.plain F.ent (chk_in F o wC we rfl ?_)
  wp_walk
  refine hp _ W.objs.size (fun b p hb z => ?_) ?_
  · rw [Heap.get?_update_other _ _ (Ne.symm hb)]
    exact Heap.get?_push_of_some _ z
  · rw [Heap.get?_update_self _ (Heap.get?_push_of_some _ we) rfl]
    rfl
end
theorem og_ve {l : List Value} (h : HandSPX.refsVE l = true) : Og "ValueError" l :=
  ⟨(HandSPX.refsVE_contains _ l h).trans (by decide +kernel), (HandSPX.refsVE_contains _ l h).trans (by decide +kernel), (HandSPX.refsVE_contains _ l h).trans (by decide +kernel)⟩
theorem og_le {l : List Value} (h : Xk.ovB l = true) : Og "LookupError" l := ⟨(Xk.ov_of h).le, (Xk.ov_of h).at_, (Xk.ov_of h).ne⟩
end Xe
end PySem

namespace Gd
open PySem PySem.Spec PyProof.Rows L2
/-- an exception of the class at C, its dict at od -/
def exa (a C : Addr) (od : Option Addr) : HO := .ext fun h => ∃ oe vs, h.get? a = some oe ∧ oe.cls = .ref C ∧ oe.dict = od ∧ oe.data = .fields vs
theorem exa_ok {P : Program} {w : World} {H : Hp} {h : Heap} {a C : Addr} {od : Option Addr} {oe : Obj} {vs : Array Value} (e : h.get? a = some oe) (c : oe.cls = .ref C) (d : oe.dict = od) (f : oe.data = .fields vs) : ObjOk P w H h a (exa a C od) :=
  ⟨⟨oe, vs, e, c, d, f⟩, ⟨oe, e⟩, fun _ _ ⟨o, v, q, r⟩ k => ⟨o, v, k o q, r⟩⟩
theorem exa_at {P : Program} {w : World} {H : Hp} {h : Heap} {a C : Addr} {od : Option Addr} (hok : HOk P w H h) (e : H a = some (exa a C od)) : ∃ oe vs, h.get? a = some oe ∧ oe.cls = .ref C ∧ oe.dict = od ∧ oe.data = .fields vs := by
  have x : ObjOk P w H h a (.ext fun h => ∃ oe vs, h.get? a = some oe ∧ oe.cls = .ref C ∧ oe.dict = od ∧ oe.data = .fields vs) := hok a _ e
  exact x.1
/-- a made exception with one field -/
structure Made1 (f : Str) (h h' : Heap) (e C d : Addr) (v : Value) : Prop where
  keep : ∀ b o, h.get? b = some o → h'.get? b = some o
  new : h.objs.size ≤ e
  obj : ∃ oe vs, h'.get? e = some oe ∧ oe.cls = .ref C ∧ oe.dict = some d ∧ oe.data = .fields vs
  dbig : h.objs.size ≤ d
  dne : d ≠ e
  ns : h'.Ns1 d (fun y => if y = f then some v else none)
/-- the class makes such, by a place and by a name -/
structure Mks (K : PySem.W.Frag) (mg : Str → Option Value) (nm : Str) (C : Addr) (f : Str) : Prop where
  gC : mg nm = some (.ref C)
  kC : PySem.W.keepIn K (.ref C) = true
  pos : ∀ {prog : Program} {w : World} {A : Around} {R : Result → Shared → Prop} {s : Shared} {v : Value}, K.In s.heap → s.heap.NoLimit → A.depth + 1 < recursionLimit →
    (∀ h' tk e d, Made1 f s.heap h' e C d v → R (.ok (.ret (.ref e))) { s with heap := h', toks := tk }) → codeAny (model prog w) A (.call (.ref C) ⟨[v], []⟩) R s
  kwd : ∀ {prog : Program} {w : World} {A : Around} {R : Result → Shared → Prop} {s : Shared} {v : Value}, K.In s.heap → s.heap.NoLimit → A.depth + 1 < recursionLimit →
    (∀ h' tk e d, Made1 f s.heap h' e C d v → R (.ok (.ret (.ref e))) { s with heap := h', toks := tk }) → codeAny (model prog w) A (.call (.ref C) ⟨[], [(f, v)]⟩) R s
theorem relO_one {f : Str} {v : V} {u : Value} (r : RelV v u) (g : Str) : RelO (List.lookup g [(f, v)]) (if g = f then some u else none) := by
  by_cases h : g = f
  · subst h
    rw [if_pos rfl]
    have q : List.lookup g [(g, v)] = some v := by simp [List.lookup]
    rw [q]
    exact r
  · rw [if_neg h]
    have e : (g == f) = false := by simpa using h
    have q : List.lookup g [(f, v)] = none := by simp [List.lookup, e]
    rw [q]
    trivial
section
variable {X : Cx} {e : Expr} {te : TE} {nm f : Str} {C : Addr} {p pos : Pos}
def tExv (C : Addr) (f : Str) (te : TE) : TE := fun σ H Q => te σ H fun v H1 => ∀ a d, H1 a = none → H1 d = none → d ≠ a → Q (.ref a) (upd (upd H1 d (.xd [(f, v)])) a (exa a C (some d)))
theorem made_inv {pins : List (Addr × Obj)} {σ : L2.St} {H : Hp} {s : Shared} {v : V} {u : Value} {h' : Heap} {tk : Nat} {a d : Addr} (I : Inv X pins σ H s) (r : RelV v u) (M : Made1 f s.heap h' a C d u) :
    Inv X pins σ (upd (upd H d (.xd [(f, v)])) a (exa a C (some d))) { s with heap := h', toks := tk } ∧ H a = none ∧ H d = none ∧ d ≠ a := by
  have fa := I.hok.fresh M.new
  have fd := I.hok.fresh M.dbig
  obtain ⟨oe, vs, o1, o2, o3, o4⟩ := M.obj
  have nb : ∀ {b : Addr} {o : Obj}, s.heap.get? b = some o → b ≠ a ∧ b ≠ d := fun {b o} z =>
    ⟨Nat.ne_of_lt (Nat.lt_of_lt_of_le (Heap.lt_size z) M.new), Nat.ne_of_lt (Nat.lt_of_lt_of_le (Heap.lt_size z) M.dbig)⟩
  have up : ∀ {b : Addr} {o : HO}, H b = some o → upd (upd H d (.xd [(f, v)])) a (exa a C (some d)) b = some o := fun {b o} z => by
    rw [upd_ne (ne_of_none z fa), upd_ne (ne_of_none z fd)]
    exact z
  refine ⟨I.un (t' := tk) (h' := h') { keep := fun b o z _ _ _ => M.keep b o z, slot := fun b o z _ _ _ => ⟨o.slots, M.keep b o z⟩
                                       free := fun b o z n _ => by
                                         rw [upd_ne (nb z).1, upd_ne (nb z).2]
                                         exact n
                                       there := fun b o z _ => ⟨o, M.keep b o z⟩
                                       tups := fun b xs z => up z
                                       frzs := fun b o x z => up z
                                       tbls := fun b ps z => ⟨#[], by rw [up z]; simp⟩ } (fun b o z => ?_), fa, fd, M.dne⟩
  by_cases ha : b = a
  · rw [ha] at z ⊢
    rw [upd_same] at z
    cases z
    exact exa_ok o1 o2 o3 o4
  · rw [upd_ne ha] at z
    by_cases hd : b = d
    · rw [hd] at z ⊢
      rw [upd_same] at z
      cases z
      exact ⟨_, M.ns, fun g => relO_one r g⟩
    · rw [upd_ne hd] at z
      exact (I.hok b o z).stay (fun c w _ q => M.keep c w q) (fun c q => up q) fun c xs q => up q
/-- C(e) -/
theorem pe_exv {k : Nat} (M : Mks X.K X.mg nm C f) (hr : Room k X.A) (he : PE X e te) (hg : Gl X nm := by rfl) (hdb : (nm == ("__debug__" : Str)) = false := by decide)
    (hs : starEach [e] X.env = (false, eval e X.env) :: starEach [] X.env := by rfl) (hpl : (backTo pos (starEach [] X.env)).any (·.1) = false := by rfl) : PE X (.Call (.Name nm p) [e] [] pos) (tExv C f te) := by
  refine ⟨fun pins s σ H Q I h => ?_⟩
  refine wpAny_Call_Name_kw (ld_glob I hg M.gC ?_ hdb)
  refine PySem.W.callWith_K (h₀ := X.base) I.ok.mod.kin M.kC ?_ hs hpl
  rw [hs]
  show wpAny _ _ (spliced ((false, eval e X.env) :: backTo pos (starEach [] X.env))) _ _ s
  refine Calls.spliced_cons (thn (he.run pins s σ H _ I h) fun u s1 ⟨v, H1, I1, r1, q1⟩ => ?_)
  refine Calls.spliced_nil ⟨I1.kIn, ?_⟩
  show wpAny _ _ (call (.ref C) [u]) _ _ _
  refine wpAny_call (M.pos I1.kIn I1.nolimit (by have := hr.dp; omega) fun h' tk a d m => ?_)
  obtain ⟨J, fa, fd, ne⟩ := made_inv I1 r1 m
  exact ⟨.ref a, _, J, rfl, q1 a d fa fd ne⟩
/-- C(f=e) -/
theorem pe_exvN {k : Nat} {kp : Pos} (M : Mks X.K X.mg nm C f) (hr : Room k X.A) (he : PE X e te) (hg : Gl X nm := by rfl) (hdb : (nm == ("__debug__" : Str)) = false := by decide)
    (hall : (backToKw pos (keywordEach [⟨some f, e, kp⟩] X.env)).all (·.1.isSome) = true := by rfl) (hks : (backToKw pos (keywordEach [⟨some f, e, kp⟩] X.env)).filterMap (·.1) = [f] := by rfl)
    (hpl : ((backTo pos (starEach [] X.env)).any (·.1) || (backToKw pos (keywordEach [⟨some f, e, kp⟩] X.env)).any (·.1.isNone)) = false := by rfl) : PE X (.Call (.Name nm p) [] [⟨some f, e, kp⟩] pos) (tExv C f te) := by
  refine ⟨fun pins s σ H Q I h => wpAny_Call_Name_kw (ld_glob I hg M.gC ?_ hdb)⟩
  have hkw : PK X [⟨some f, e, kp⟩] (tCons te tNil) := pk_cons he pk_nil
  let Q' : List V → Hp → Prop := fun zs H1 => match zs with
    | [v] => ∀ a d, H1 a = none → H1 d = none → d ≠ a → Q (.ref a) (upd (upd H1 d (.xd [(f, v)])) a (exa a C (some d)))
    | _ => False
  have h2 : (tCons te tNil) σ H Q' := h
  refine PySem.W.callWith_KW0 (h₀ := X.base) I.ok.mod.kin M.kC hall (thn (hkw.run pos pins s σ H _ I h2) fun ws s2 ⟨zs, H2, I2, rz, q2⟩ => ⟨I2.kIn, ?_⟩) hpl
  match zs, ws, rz, q2 with
  | [v], _, .cons (b := y) r1 .nil, q1 =>
    rw [hks]
    show wpAny _ _ (call (.ref C) [] [(f, y)]) _ _ _
    refine wpAny_call (M.kwd I2.kIn I2.nolimit (by have := hr.dp; omega) fun h' tk a d m => ?_)
    obtain ⟨J, fa, fd, ne⟩ := made_inv I2 r1 m
    exact ⟨.ref a, _, J, rfl, q1 a d fa fd ne⟩
/-- e.n -/
def tExf (K : PySem.W.Frag) (n : Str) (te : TE) : TE := fun σ H Q => te σ H fun x H1 => ∃ (a C d : Addr) (fs : List (Str × V)) (v : V), x = .ref a ∧ XfC K C ∧ PySem.W.findIn K (.ref C) n = some none ∧ H1 a = some (exa a C (some d)) ∧ H1 d = some (.xd fs) ∧ fs.lookup n = some v ∧ Q v H1
theorem pe_exf {n : Str} (he : PE X e te) (hb : attributeBase e n X.env (eval e X.env) = eval e X.env := by rfl) : PE X (.Attribute e n pos) (tExf X.K n te) := by
  refine ⟨fun pins s σ H Q I h => ?_⟩
  refine attr_of hb (thn (he.run pins s σ H _ I h) fun u s1 hh => ?_)
  obtain ⟨x, H1, I1, rx, a, C, d, fs, v, ex, T, hno, ea, ed, l, q⟩ := hh
  subst ex
  obtain rfl : u = Value.ref a := rx
  obtain ⟨oe, vs, o1, o2, o3, o4⟩ := exa_at I1.hok ea
  have hx : ObjOk X.prog X.w H1 s1.heap d (.xd fs) := I1.hok d _ ed
  obtain ⟨mA, hns, hr⟩ := hx
  obtain ⟨od, ho, hl⟩ := lookIn_ns hns
  obtain ⟨u, hu, ru⟩ := RelO.some_of (v := v) (o := mA n) (by rw [← l]; exact hr n)
  have J : PySem.W.InstAt s1.heap a oe C (some od) := ⟨o1, o2, by unfold PySem.W.notCls; rw [o4] <;> rfl, by rw [o3]; exact ho⟩
  exact HandSPX.exc_get I1.kIn J T.ga T.gg T.exC (PySem.W.findObj_own T.hdC hno rfl (by rw [hl, hu])) (handed_of ru) ⟨v, H1, I1.tok _, ru, q⟩
end
end Gd

namespace PySem
namespace Xe
open PySem.W PySem.Calls PyProof.Rows
section
variable {pg : Program} {wd : World} {A : Around} {Z : Value → Shared → Prop} {K : Frag} {a D : Addr} {oa : Obj} {od : Option Obj}
theorem found_cls (T : L2.ExcC K D) : findObj K D od "__class__" = some (.bind (.builtin "getset_descriptor.__get__") (.builtin "object.__class__")) := by
  obtain ⟨cd, wc, _⟩ := any_some T.hd
  unfold findObj
  rw [wc, Option.bind_some, T.ha, Option.bind_some]
  simp [T.hn, T.ht]
theorem cls_of (T : L2.ExcC K D) {s : Shared} {P : Option Value → Shared → Prop} (X : K.In s.heap) (J : InstAt s.heap a oa D od) (hp : P (some (.ref D)) { s with toks := s.toks + 1 }) :
    wpAny (model pg wd) A (getAttr? (.ref a) "__class__") P Z s := by
  have wf := found_cls (od := od) T
  obtain ⟨W, gs, dr, tn, ow⟩ := s
  have w0 := J.type (M := model pg wd)
  have w1 := looks_findIn (M := model pg wd) X T.hg
  have w2 := looks_findIn (M := model pg wd) X T.hk
  have w3 := looks_find (M := model pg wd) X J wf
  have wsub : Looks (model pg wd) W (isInstance (.ref a) (.type "BaseException")) true := w0.andThen (looks_subIn X T.hs)
  have q2 : (Value.builtin "BaseException.__getattribute__" == Value.builtin "object.__getattribute__") = false := by decide +kernel
  have q1 : (onTheHeap (Value.ref D) && Value.builtin "BaseException.__getattribute__" == Value.builtin "object.__getattribute__") = false := by rw [q2]; rfl
  have q0 : (false && onTheHeap (Value.builtin "BaseException.__getattribute__")) = false := rfl
  unfold getAttr? getAttrBy? getAttrBy
  refine wpAny_bind (wpAny_mkText (wpAny_bind (wpAny_attempt (wpAny_holding (wpAny_bind (w0.at (wpAny_bind (w1.at ?_))))))))
  show wpAny _ _ (if (onTheHeap (Value.ref D) && Value.builtin "BaseException.__getattribute__" == Value.builtin "object.__getattribute__") = true then _ else _) _ _ _
  rw [q1, if_neg Bool.false_ne_true]
  unfold getAttrByItsOwn hookBefore
  refine wpAny_bind ?_
  rw [if_pos (show onTheHeap (Value.ref D) = true from rfl)]
  refine w2.at (wpAny_bind (wpAny_attempt (wpAny_holding ?_)))
  unfold callGetattribute
  rw [q0, if_neg Bool.false_ne_true]
  unfold boundAndCalled
  rw [PySem.F.excAttr_ValueError.ga.bind (.ref a)]
  refine wpAny_bind (wpAny_pure ?_)
  show wpAny _ _ (call (.builtin "BaseException.__getattribute__") [.ref a, .str "__class__" tn]) _ _ _
  refine wpAny_call (codeAny_call_builtin PySem.F.excAttr_ValueError.ga.plain PySem.F.entry_bexc_ga ?_)
  refine @check_slot (model pg wd) _ _ ⟨W, gs, dr, tn + 1, ow⟩ "BaseException.__getattribute__" "BaseException" "__getattribute__" (.ref a) [.str "__class__" tn] [] _ (by decide +kernel) (by decide +kernel) wsub (PySem.F.args_bexc_ga (.ref a) (.str "__class__" tn)) ?_
  unfold Builtin.«object.__getattribute__»
  refine wpAny_bind (wpAny_of_eq (a := ((Value.ref a : Value), [Value.str "__class__" tn])) (by first | rfl | (simp only [slotArgs]; rfl)) ?_)
  refine wpAny_bind (wpAny_pure (wpAny_bind (w0.at (wpAny_bind (w3.at ?_)))))
  show wpAny _ _ (holding [Value.builtin "object.__class__"] (call (.builtin "getset_descriptor.__get__") [.builtin "object.__class__", .ref a, .ref D]) >>= ret) _ _ _
  refine wpAny_bind (wpAny_holding (wpAny_call (class_get (s := ⟨W, gs, dr, tn + 1, ow⟩) (ox := oa) (od := od) X J T.hm ?_)))
  refine wpAny_pure ?_
  show wpAny _ _ (handedOut (.ref D)) _ _ _
  rw [handedOut_of (v := .ref D) rfl]
  first
    | exact wpAny_pure (wpAny_pure hp)
    | exact wpAny_pure hp
    | exact wpAny_pure (wpAny_bind (wpAny_pure (wpAny_pure hp)))
theorem kitx_od (T : L2.ExcC K D) : KitX K (.ref a) (.ref D) (fun h => InstAt h a oa D od) where
  ty := fun _ _ _ J => J.type
  it := fun _ _ X _ => by
    obtain ⟨cd, wc, _⟩ := any_some T.hd
    unfold clsIn at wc
    split at wc
    · rename_i _ _ _ _ wo
      intro A' P' Z' s' k q
      unfold isType loadHead
      exact wpAny_bind (wpAny_loadPart (k _ _ (X _ _ wo)) (wpAny_pure q))
    · cases wc
  ne := fun h tp _ _ _ _ X wt => by
    obtain ⟨cd, wc, _⟩ := any_some T.hd
    refine Bool.eq_false_iff.mpr fun q => ?_
    have e : D = tp := Value.ref.inj (beq_iff_eq.mp q)
    rw [← e] at wt
    unfold clsIn at wc
    split at wc
    · rename_i _ _ _ _ wo
      cases (X _ _ wo).symm.trans wt
    · cases wc
  ca := fun X J k => cls_of T X J k
/-! ### == -/
variable {s : Shared}
theorem spec_eq {b : Addr} {P : Option Value → Shared → Prop} (X : K.In s.heap) (J : InstAt s.heap a oa D od) (he : findIn K (.ref D) "__eq__" = some (some (.builtin "object.__eq__"))) (ho : subIn K (.ref D) (.type "object") = some true)
    (h : wpAny (model pg wd) A (call (.builtin "object.__eq__") [.ref a, .ref b]) (fun v => P (some v)) Z s) : wpAny (model pg wd) A (callSpecialIfBound? (.ref a) "__eq__" [.ref b]) P Z s := by
  have w0 := J.type (M := model pg wd)
  have w1 := looks_findIn (M := model pg wd) X he
  simp only [callSpecialIfBound?, bindSpecialIfBound?]
  refine wpAny_holding (wpAny_bind (wpAny_bind ?_))
  unfold specialOf
  refine wpAny_bind (w0.at (w1.at ?_))
  simp only [PySem.F.cmp_object.eq.bind]
  refine wpAny_bind (wpAny_askSetting (wpAny_ite ?_))
  have fin : wpAny (model pg wd) A (call (.builtin "object.__eq__") ([.ref a] ++ [.ref b]) >>= fun v => pure (some v)) P Z s := wpAny_bind (wpAny_mono h (fun v t q => wpAny_pure q) fun _ _ q => q)
  split
  · exact wpAny_bind (wpAny_pure (wpAny_pure fin))
  · exact wpAny_tryCatch (wpAny_bind (wpAny_pure (wpAny_pure fin)))
theorem slot_eq {b : Addr} {P : Value → Shared → Prop} (X : K.In s.heap) (J : InstAt s.heap a oa D od) (ho : subIn K (.ref D) (.type "object") = some true)
    (h : wpAny (model pg wd) A.in1 (Builtin.«object.__eq__» ⟨[.ref a, .ref b], []⟩) (fun fin t => match fin with | .done f => (match f with | .ret v => P v t | _ => False) | .again c => False) Z s) : wpAny (model pg wd) A (call (.builtin "object.__eq__") [.ref a, .ref b]) P Z s := by
  obtain ⟨W, gs, dr, tn, ow⟩ := s
  have ws : Looks (model pg wd) W (isInstance (.ref a) (.type "object")) true := (J.type (M := model pg wd)).andThen (looks_subIn X ho)
  refine wpAny_call (codeAny_call_builtin PySem.F.cmp_object.eq.plain PySem.F.cmpEntry_eq ?_)
  refine @check_slot (model pg wd) _ _ ⟨W, gs, dr, tn, ow⟩ "object.__eq__" "object" "__eq__" (.ref a) [.ref b] [] _ PySem.F.cmpKind_eq PySem.F.cmpSplit_eq ws (PySem.F.cmpArgs_eq _ _) ?_
  refine wpAny_mono h (fun fin t q => ?_) fun _ _ q => q
  cases fin with
  | done f =>
    cases f with
    | ret v => exact q
    | _ => exact q.elim
  | again c => exact q.elim
theorem cmp_same {P : Value → Shared → Prop} (X : K.In s.heap) (J : InstAt s.heap a oa D od) (he : findIn K (.ref D) "__eq__" = some (some (.builtin "object.__eq__"))) (ho : subIn K (.ref D) (.type "object") = some true) (hu : A.units < cLine)
    (h : P (.bool true) s) : wpAny (model pg wd) A (compareOp .Eq (.ref a) (.ref a)) P Z s := by
  have w0 := J.type (M := model pg wd)
  have tr : ∀ {P : Option Value → Shared → Prop}, P (some (.bool true)) s → wpAny (model pg wd) A (tryCompare (.ref a) "__eq__" (.ref a)) P Z s := fun q => by
    simp only [tryCompare]
    exact wpAny_bind (spec_eq X J he ho (slot_eq X J ho (objEq_entry_same (wpAny_pure q))))
  show wpAny _ _ (richCompare .Eq (.ref a) (.ref a)) _ _ _
  simp only [richCompare, cmpInfo_Eq, oneThing_ref]
  repeat (first | with_reducible refine wpAny_cRoomFor hu ?_ | with_reducible refine w0.at ?_ | with_reducible refine tr ?_ | wp_step)
  exact h
theorem cmp_other {b : Addr} {ob : Obj} {od' : Option Obj} {P : Value → Shared → Prop} (X : K.In s.heap) (J : InstAt s.heap a oa D od) (J' : InstAt s.heap b ob D od') (he : findIn K (.ref D) "__eq__" = some (some (.builtin "object.__eq__"))) (ho : subIn K (.ref D) (.type "object") = some true)
    (ne : a ≠ b) (hu : A.units < cLine) (h : P (.bool false) s) : wpAny (model pg wd) A (compareOp .Eq (.ref a) (.ref b)) P Z s := by
  have w0 := J.type (M := model pg wd)
  have w1 := J'.type (M := model pg wd)
  have nt : oa.cls ≠ .type "tuple" := fun z => by rw [J.cls] at z; cases z
  have nt' : ob.cls ≠ .type "tuple" := fun z => by rw [J'.cls] at z; cases z
  have tr : ∀ {P : Option Value → Shared → Prop}, P none s → wpAny (model pg wd) A (tryCompare (.ref a) "__eq__" (.ref b)) P Z s := fun q => by
    simp only [tryCompare]
    exact wpAny_bind (spec_eq X J he ho (slot_eq X J ho (objEq_entry_other ne J.at_ J'.at_ nt (wpAny_pure q))))
  have tr' : ∀ {P : Option Value → Shared → Prop}, P none s → wpAny (model pg wd) A (tryCompare (.ref b) "__eq__" (.ref a)) P Z s := fun q => by
    simp only [tryCompare]
    exact wpAny_bind (spec_eq X J' he ho (slot_eq X J' ho (objEq_entry_other ne.symm J'.at_ J.at_ nt' (wpAny_pure q))))
  have j1 := J.at_
  have j2 := J'.at_
  show wpAny _ _ (richCompare .Eq (.ref a) (.ref b)) _ _ _
  simp only [richCompare, cmpInfo_Eq, oneThing_ref]
  repeat (first | with_reducible refine wpAny_cRoomFor hu ?_ | with_reducible refine w0.at ?_ | with_reducible refine w1.at ?_ | with_reducible refine tr ?_ | with_reducible refine tr' ?_ | with_reducible refine wpAny_isSame_ref_other ne j1 j2 nt ?_ | wp_step)
  exact h
end
end Xe
end PySem
namespace Gd
open PySem PySem.Spec PyProof.Rows L2
section
variable {X : Cx}
/-- an exception stands at a: its class, its dict and fields (none: it has no dict) -/
inductive ExA (H : Hp) (a C : Addr) : List (Str × V) → Prop
  | one {d : Addr} {fs : List (Str × V)} : H a = some (exa a C (some d)) → H d = some (.xd fs) → ExA H a C fs
  | none : H a = some (exa a C Option.none) → ExA H a C []
theorem ExA.inst {pins : List (Addr × Obj)} {σ : L2.St} {H : Hp} {s : Shared} {a C : Addr} {fs : List (Str × V)} (h : ExA H a C fs) (I : Inv X pins σ H s) : ∃ oa od, PySem.W.InstAt s.heap a oa C od := by
  cases h with
  | one ea ed =>
    obtain ⟨oe, vs, o1, o2, o3, o4⟩ := exa_at I.hok ea
    obtain ⟨mA, hns, _⟩ := I.hok _ _ ed
    obtain ⟨od, ho, _⟩ := lookIn_ns hns
    exact ⟨oe, some od, o1, o2, by unfold PySem.W.notCls; rw [o4] <;> rfl, by rw [o3]; exact ho⟩
  | none ea =>
    obtain ⟨oe, vs, o1, o2, o3, o4⟩ := exa_at I.hok ea
    exact ⟨oe, Option.none, o1, o2, by unfold PySem.W.notCls; rw [o4] <;> rfl, by rw [o3]; trivial⟩
/-- isinstance(e, c) -/
def rIsA (K : PySem.W.Frag) : List V → Hp → VK → Prop := fun xs H Q => ∃ (a D : Addr) (fs : List (Str × V)) (c : V) (cv : Value) (b : Bool), xs = [.ref a, c] ∧ ExcC K D ∧ ExA H a D fs ∧ (∀ u, RelV c u → u = cv) ∧ PySem.W.kitOne K (.ref D) cv = some b ∧ Q (.bl b) H
theorem call_isA : CallR X (.builtin "isinstance") (rIsA X.K) := by
  intro pins s σ H xs us Q I r h
  obtain ⟨a, D, fs, c, cv, b, rfl, C, ea, hcv, e, q⟩ := h
  match us, r with
  | _, .cons rx (.cons rt .nil) =>
    cases rx
    have ec := hcv _ rt
    subst ec
    obtain ⟨oa, od, J⟩ := ea.inst I
    exact PySem.W.kia_one (PySem.Xe.kitx_od C) I.kIn J e (fun z => nomatch z) fun tk => ⟨.bl b, H, I.kept (t' := tk) fun _ _ z => z, rfl, q⟩
/-- what == asks of the class -/
structure EqC (K : PySem.W.Frag) (D : Addr) : Prop where
  eq : PySem.W.findIn K (.ref D) "__eq__" = some (some (.builtin "object.__eq__"))
  ob : PySem.W.subIn K (.ref D) (.type "object") = some true
def rEqA (K : PySem.W.Frag) : R2 := fun x y H Q => ∃ (a b D : Addr) (fs gs : List (Str × V)), x = .ref a ∧ y = .ref b ∧ EqC K D ∧ ExA H a D fs ∧ ExA H b D gs ∧ Q (.bl (decide (a = b))) H
theorem op_eqA (hu : X.A.units < cLine) : OpR X (compareOp .Eq) (rEqA X.K) := by
  intro pins s σ H x y v u Q I rx ry h
  obtain ⟨a, b, D, fs, gs, rfl, rfl, C, ea, eb, q⟩ := h
  cases rx
  cases ry
  obtain ⟨oa, od, J⟩ := ea.inst I
  obtain ⟨ob, od', J'⟩ := eb.inst I
  by_cases e : a = b
  · subst e
    rw [decide_eq_true rfl] at q
    exact PySem.Xe.cmp_same I.kIn J C.eq C.ob hu ⟨.bl true, H, I, rfl, q⟩
  · rw [decide_eq_false e] at q
    exact PySem.Xe.cmp_other I.kIn J J' C.eq C.ob e hu ⟨.bl false, H, I, rfl, q⟩
end
end Gd

namespace PySem
namespace Xe
open PySem.W PySem.Calls PyProof.Rows
/-- a made exception without fields -/
structure Made0 (h h' : Heap) (e C : Addr) : Prop where
  keep : ∀ b o, h.get? b = some o → h'.get? b = some o
  new : h.objs.size ≤ e
  obj : ∃ oe vs, h'.get? e = some oe ∧ oe.cls = .ref C ∧ oe.dict = none ∧ oe.data = .fields vs
/-- a class without an __init__ of its own -/
structure Bare (K : Frag) (C : Addr) (B nw T I : String) : Prop where
  cls : ∃ nm q N bs bm hd sn sub ab col dd k0 k1 k2 k3 k5, K.lookup C = some (excClassObj nm q C N bs bm hd sn sub ab col dd k0 k1 k2 k3 k5 nw) ∧ Og B bm ∧ bm.contains (.type T) = true
  iC : findIn K (.ref C) "__init__" = some (some (.builtin I))
section
variable {pg : Program} {wd : World} {A : Around} {R : Result → Shared → Prop} {K : Frag} {C : Addr} {B nw ni T I : String} {bmB : List Value} {s : Shared}
theorem made_bare {us : List Value} (F : ExcBaseFacts B nw ni bmB) (G : InF T I) (S : Bare K C B nw T I) (X : K.In s.heap) (wz : us.length ≤ sizeLine)
    (hp : ∀ V e, Made0 s.heap V e C → R (.ok (.ret (.ref e))) { s with heap := V }) : codeAny (model pg wd) A (.call (.ref C) ⟨us, []⟩) R s := by
  obtain ⟨nm, q, N, bs, bm, hd, sn, sub, ab, col, dd, k0, k1, k2, k3, k5, wC, o, wT⟩ := S.cls
  obtain ⟨W, gs, dr, tn, ow⟩ := s
  have kp : ∀ b p, W.get? b = some p → ((W.push (kdv_tup us)).push (xO C W.objs.size)).get? b = some p := fun _ _ z => Heap.get?_push_of_some _ (Heap.get?_push_of_some _ z)
  have wX : ((W.push (kdv_tup us)).push (xO C W.objs.size)).get? (W.objs.size + 1) = some (xO C W.objs.size) := by heap_get
  refine callG (.inl rfl) F o (X _ _ wC) (looks_findIn X S.iC) (fun v => Looks.of_pure (G.init.bind v)) wz ?_
  refine run_in G wT (kp _ _ (X _ _ wC)) wX wz fun V t1 k h => ⟨rfl, ?_⟩
  exact hp V _ ⟨fun b p z => k b p (Nat.ne_of_lt (Nat.lt_succ_of_lt (Heap.lt_size z))) (kp b p z), Nat.le_succ _, ⟨_, _, h, rfl, rfl, rfl⟩⟩
end
end Xe
end PySem
namespace Gd
open PySem PySem.Spec PyProof.Rows L2
/-- the class makes exceptions without fields -/
structure Mk0 (K : PySem.W.Frag) (mg : Str → Option Value) (nm : Str) (C : Addr) : Prop where
  gC : mg nm = some (.ref C)
  kC : PySem.W.keepIn K (.ref C) = true
  mak : ∀ {prog : Program} {w : World} {A : Around} {R : Result → Shared → Prop} {s : Shared} {us : List Value}, K.In s.heap → us.length ≤ sizeLine →
    (∀ V e, PySem.Xe.Made0 s.heap V e C → R (.ok (.ret (.ref e))) { s with heap := V }) → codeAny (model prog w) A (.call (.ref C) ⟨us, []⟩) R s
section
variable {X : Cx} {e : Expr} {te : TE} {nm : Str} {C : Addr} {p pos : Pos}
theorem made0_inv {pins : List (Addr × Obj)} {σ : L2.St} {H : Hp} {s : Shared} {h' : Heap} {a : Addr} (I : Inv X pins σ H s) (M : PySem.Xe.Made0 s.heap h' a C) : Inv X pins σ (upd H a (exa a C none)) { s with heap := h' } ∧ H a = none := by
  obtain ⟨oe, vs, o1, o2, o3, o4⟩ := M.obj
  exact ⟨I.laid (t' := s.toks) M.keep M.new (exa_ok o1 o2 o3 o4), I.hok.fresh M.new⟩
theorem pe_cls (hg : Gl X nm) (gC : X.mg nm = some (.ref C)) (hd : (nm == ("__debug__" : Str)) = false := by decide) : PE X (.Name nm pos) (tC (.ref C)) := pe_glob (v := .ref C) hg gC rfl hd
/-- C() -/
theorem pe_exv0 (M : Mk0 X.K X.mg nm C) (hg : Gl X nm := by rfl) (hdb : (nm == ("__debug__" : Str)) = false := by decide) : PE X (.Call (.Name nm p) [] [] pos) (fun _ H Q => ∀ a, H a = none → Q (.ref a) (upd H a (exa a C none))) := by
  refine ⟨fun pins s σ H Q I h => ?_⟩
  refine wpAny_Call_Name_kw (ld_glob I hg M.gC ?_ hdb)
  refine PySem.W.callWith_K0 I.kIn M.kC ?_
  show wpAny _ _ (call (.ref C) []) _ _ _
  refine wpAny_call (M.mak I.kIn (Nat.zero_le _) fun h' a m => ?_)
  obtain ⟨J, fa⟩ := made0_inv I m
  exact ⟨.ref a, _, J, rfl, h a fa⟩
/-- C(e), e not told -/
theorem pe_exv1 (M : Mk0 X.K X.mg nm C) (he : PE X e te) (hg : Gl X nm := by rfl) (hdb : (nm == ("__debug__" : Str)) = false := by decide)
    (hs : starEach [e] X.env = (false, eval e X.env) :: starEach [] X.env := by rfl) (hpl : (backTo pos (starEach [] X.env)).any (·.1) = false := by rfl) : PE X (.Call (.Name nm p) [e] [] pos) (fun σ H Q => te σ H fun _ H1 => ∀ a, H1 a = none → Q (.ref a) (upd H1 a (exa a C none))) := by
  refine ⟨fun pins s σ H Q I h => ?_⟩
  refine wpAny_Call_Name_kw (ld_glob I hg M.gC ?_ hdb)
  refine PySem.W.callWith_K (h₀ := X.base) I.ok.mod.kin M.kC ?_ hs hpl
  rw [hs]
  show wpAny _ _ (spliced ((false, eval e X.env) :: backTo pos (starEach [] X.env))) _ _ s
  refine Calls.spliced_cons (thn (he.run pins s σ H _ I h) fun u s1 ⟨v, H1, I1, r1, q1⟩ => ?_)
  refine Calls.spliced_nil ⟨I1.kIn, ?_⟩
  show wpAny _ _ (call (.ref C) [u]) _ _ _
  refine wpAny_call (M.mak I1.kIn (by show 1 ≤ sizeLine; rw [sizeLine_eq]; decide) fun h' a m => ?_)
  obtain ⟨J, fa⟩ := made0_inv I1 m
  exact ⟨.ref a, _, J, rfl, q1 a fa⟩
end
end Gd

namespace PySem
namespace EzIndex
open PySem.W PySem.Calls PyProof.Rows PySem.HandSPX
/-! ### the text of __init__ -/
def iA (p1 p2 : Pos) : Arguments := { posonlyargs := [], args := [{ arg := "self", annotation := none, pos := p1 }, { arg := "index", annotation := none, pos := p2 }], vararg := none, kwonlyargs := [], kw_defaults := [], kwarg := none, defaults := [] }
def iB (q1 q2 q3 q4 : Pos) : List Stmt := [.Assign [.Attribute (.Name "self" q1) "index" q2] (.Name "index" q3) q4]
def iS : Scope := { kind := .function, names := [(PySem.Str.ofString "self", .local), (PySem.Str.ofString "index", .local)], isGenerator := false, isCoroutine := false, more := [] }
/-- what the written part says of Low, at C, and of its __init__, at fI -/
structure LowTxt (K : Frag) (mg : Str → Option Value) (nm : Str) (qn : String) (C fI : Addr) : Prop where
  gC : mg nm = some (.ref C)
  cls : ∃ nmC q N bs bm sn sub ab col dd k0 k1 k2 k3 k5, K.lookup C = some (excClassObj nmC q C N bs bm true sn sub ab col dd k0 k1 k2 k3 k5 "ValueError.__new__") ∧ refsVE bm = true
  sa : findIn K (.ref C) "__setattr__" = some (some (.builtin "object.__setattr__"))
  ga : findIn K (.ref C) "__getattribute__" = some (some (.builtin "BaseException.__getattribute__"))
  gg : findIn K (.ref C) "__getattr__" = some none
  noN : findIn K (.ref C) "index" = some none
  iC : findIn K (.ref C) "__init__" = some (some (.ref fI))
  tC : typeIn K (.ref fI) = some (.type "function")
  kC : keepIn K (.ref C) = true
  exC : subIn K (.ref C) (.type "BaseException") = some true
  tyC : typeIn K (.ref C) = some (.type "type")
  hdC : hasDictIn K C = true
  te : exmOne K (.ref C) (.ref C) = some true
  fn : ∃ (oc : Value) (od : Option Addr) (doc pm : Value) (an : Option Addr) (cdv ct : Value) (osl : Array (Option Value)) (p1 p2 q1 q2 q3 q4 : Pos),
    K.lookup fI = some ⟨oc, od, .func (fnOf "__init__" qn (iA p1 p2) (iB q1 q2 q3 q4) iS .none .none doc pm an cdv ct), osl⟩ ∧ codeIn K cdv qn = true
theorem one_size (v : Value) : [v].length ≤ sizeLine := by
  rw [sizeLine_eq]
  exact (by decide : 1 ≤ 16777216)
theorem kept_but {K : Frag} {h h' : Heap} {x : Addr} (X : K.In h) (hx : K.lookup x = none) (k : ∀ b o, b ≠ x → h.get? b = some o → h'.get? b = some o) : K.In h' := fun a o e =>
  k a o (fun z => by rw [z, hx] at e; cases e) (X a o e)
theorem ldC {M : Model} {s : Shared} {name : Str} {scope : Scope} {L a : Addr} {cd : Value} {m : Str → Option Value} {x : Str} {pos : Pos} {v : Value} {Q : Value → Shared → Prop} {A : Around} {E : Value → Shared → Prop} (hn : s.heap.Ns L m) (hv : m x = some v) (h : Q v s)
    (hk : scope.kind = .function := by rfl) (hl : (envOfC name scope L a cd).kindOf x = some .local := by rfl) (hd : (x == ("__debug__" : Str)) = false := by decide) :
    wpAny M A (eval (.Name x pos) (envOfC name scope L a cd)) Q E s := wpAny_Name (wpAny_loadName_local hk hl hn hv h) hd
/-- what __init__ leaves of a fresh exception at x -/
structure InitEnd (h h' : Heap) (x C dx t1 : Addr) (v : Value) : Prop where
  keep : ∀ b o, b ≠ x → h.get? b = some o → h'.get? b = some o
  obj : h'.get? x = some { cls := .ref C, dict := some dx, data := .fields #[.ref t1, .none, .none, .none, .bool false, .none] }
  dbig : h.objs.size ≤ dx
  dne : dx ≠ x
  ns : h'.Ns1 dx (fun y => if y = "index" then some v else none)
/-- a made Low -/
structure OwnMade (h h' : Heap) (e C d : Addr) (v : Value) : Prop where
  keep : ∀ b o, h.get? b = some o → h'.get? b = some o
  new : h.objs.size ≤ e
  obj : ∃ oe vs, h'.get? e = some oe ∧ oe.cls = .ref C ∧ oe.dict = some d ∧ oe.data = .fields vs ∧ vs[1]? = some .none
  dbig : h.objs.size ≤ d
  dne : d ≠ e
  ns : h'.Ns1 d (fun y => if y = "index" then some v else none)
section
variable {prog : Program} {w : World} {A : Around} {E : Value → Shared → Prop} {R : Result → Shared → Prop} {s : Shared} {K : Frag} {mg : Str → Option Value} {nm : Str} {qn : String} {C fI : Addr}
theorem low_init (T : LowTxt K mg nm qn C fI) {x t0 : Addr} {v : Value} (X : K.In s.heap) (hlim : s.heap.NoLimit) (hx : s.heap.get? x = some (excO C t0)) (hnx : K.lookup x = none) (hroom : A.depth < recursionLimit)
    (hq : ∀ h' tk dx, InitEnd s.heap h' x C dx t0 v → R (.ok (.ret .none)) { s with heap := h', toks := tk }) :
    codeAny (model prog w) A (.call (.ref fI) ⟨[.ref x, v], []⟩) R s := by
  obtain ⟨oc, od, doc, pm, an, cdv, ct, osl, p1, p2, q1, q2, q3, q4, ho, hcd⟩ := T.fn
  obtain ⟨nmC, q, N, bs, bm, sn, sub, ab, col, dd, k0, k1, k2, k3, k5, hC, hbm⟩ := T.cls
  have hcl : clsIn K C = some { name := nmC, bases := bs, mro := .ref C :: bm, ns := N, qualname := q, hasDict := true, slotNames := sn, subclasses := sub, abstract := ab, collection := col, hasDel := false } := by unfold clsIn; rw [hC] <;> rfl
  refine Att.call_fn (binds := [("self", .ref x), ("index", v)]) X hlim ho hcd hroom (BindsTo.of_eq (by first | rfl | with_unfolding_all rfl)) (by first | rfl | decide | with_unfolding_all rfl) (fun s₁ IC => ?_) rfl rfl rfl
  obtain ⟨h₁, tk₁, rfl⟩ := IC.toInCall.same
  have k : ∀ b o, s.heap.get? b = some o → h₁.get? b = some o := IC.toInCall.keep
  have hn := IC.toInCall.ns
  have hxL : s.heap.objs.size ≠ x := Nat.ne_of_gt (Heap.lt_size hx)
  have X₁ : K.In h₁ := X.keeps k
  have hx₁ := k _ _ hx
  -- self.by = by
  show wpAny _ _ (execs _ _) _ _ _
  refine wpAny_execs_cons (plainObj_wpAny_Assign_Attribute ?_)
  refine ldC (v := v) hn (by first | rfl | with_unfolding_all rfl | kernel_rfl) (ldC (v := .ref x) hn (by first | rfl | with_unfolding_all rfl | kernel_rfl) ?_)
  refine set_plain X₁ (ox := excO C t0) (od := none) ⟨hx₁, rfl, rfl, trivial⟩ T.sa ?_
  refine exc_osa X₁ hx₁ hcl (show refsVE (.ref C :: bm) = true from hbm) rfl T.noN (fun h₃ tk₃ dx k₃ dn dne hx₃ hn₃ => ?_)
  show wpAny _ _ (execs _ _) _ _ _
  have z : s.heap.objs.size < h₁.objs.size := hn.lt
  exact wpAny_execs_nil (hq h₃ tk₃ dx ⟨fun b o hb e => k₃ b o hb (k b o e), hx₃, Nat.le_of_lt (Nat.lt_of_lt_of_le z dn), dne, hn₃⟩)
theorem low_made (T : LowTxt K mg nm qn C fI) {v : Value} (X : K.In s.heap) (hlim : s.heap.NoLimit) (hroom : A.depth + 1 < recursionLimit)
    (hq : ∀ h' tk e d, OwnMade s.heap h' e C d v → R (.ok (.ret (.ref e))) { s with heap := h', toks := tk }) :
    codeAny (model prog w) A (.call (.ref C) ⟨[v], []⟩) R s := by
  obtain ⟨nmC, q, N, bs, bm, sn, sub, ab, col, dd, k0, k1, k2, k3, k5, hC, hbm⟩ := T.cls
  obtain ⟨hp, g, dr, tk, os⟩ := s
  have k : ∀ b o, hp.get? b = some o → ((hp.push (kdv_tup [v])).push (excO C hp.objs.size)).get? b = some o := fun b o e => Heap.get?_push_of_some _ (Heap.get?_push_of_some _ e)
  have hget : ((hp.push (kdv_tup [v])).push (excO C hp.objs.size)).get? (hp.objs.size + 1) = some (excO C hp.objs.size) := by heap_get
  have hnx : K.lookup (hp.objs.size + 1) = none := by
    cases e : K.lookup (hp.objs.size + 1) with
    | none => rfl
    | some o =>
      have z : hp.get? (hp.objs.size + 1) = some o := X _ _ e
      exact absurd (Nat.lt_of_succ_lt (Heap.lt_size z)) (Nat.lt_irrefl _)
  refine call_own F.excBase_ValueError (fun X => refsVE_contains X bm hbm) (X _ _ hC) (looks_findIn X T.iC) (fun self => bind_fn X self T.tC) (one_size v) ?_
  refine low_init (s := ⟨(hp.push (kdv_tup [v])).push (excO C hp.objs.size), g, dr, tk, os⟩) T (X.keeps k) (hlim.keeps k) hget hnx ?_ fun h' tk' dx ⟨k', hx, dn, dne, hns⟩ => ?_
  · show A.depth + 1 < recursionLimit
    exact hroom
  · have old : ∀ b o, hp.get? b = some o → h'.get? b = some o := fun b o e => k' b o (Nat.ne_of_lt (Nat.lt_succ_of_lt (Heap.lt_size e))) (k b o e)
    have z : hp.objs.size + 1 + 1 ≤ dx := by
      first
        | (simpa only [Heap.size_push] using dn)
        | exact dn
        | (have q := dn; rw [Heap.size_push, Heap.size_push] at q; exact q)
    exact ⟨rfl, hq h' tk' (hp.objs.size + 1) dx ⟨old, Nat.le_succ _, ⟨_, _, hx, rfl, rfl, rfl, rfl⟩, Nat.le_trans (Nat.le_trans (Nat.le_succ _) (Nat.le_succ _)) z, dne, hns⟩⟩
end
end EzIndex
end PySem
namespace L2
open PySem PySem.Spec PyProof.Rows
theorem relO_index {v : V} {v' : Value} (r : RelV v v') (f : Str) : RelO (List.lookup f [(("index" : Str), v)]) (if f = "index" then some v' else none) := by
  by_cases hw : f = "index"
  · subst hw
    rw [if_pos rfl]
    have q : List.lookup ("index" : Str) [(("index" : Str), v)] = some v := by simp [List.lookup]
    rw [q]
    exact r
  · rw [if_neg hw]
    have qw : (f == ("index" : Str)) = false := by simpa using hw
    have q2 : List.lookup f [(("index" : Str), v)] = none := by simp [List.lookup, qw]
    rw [q2]
    trivial
section
variable {X : Cx} {nm : Str} {qn : String} {C fI : Addr}
/-- Low(e) -/
def tMk_index (C : Addr) (ta : TA) : L2.St → Hp → XK → Prop := fun σ H Q => ta σ H fun vs H1 => ∃ v, vs = [v] ∧ ∀ d, H1 d = none → Q (.ref C) (some d) (upd H1 d (.xd [(("index" : Str), v)]))
theorem pmk_index {a : Expr} {ta : TA} {p pos : Pos} {k : Nat} (T : PySem.EzIndex.LowTxt X.K X.mg nm qn C fI) (hr : Room k X.A) (ha : PA X [a] ta) (hg : Gl X nm := by rfl) (hdb : (nm == ("__debug__" : Str)) = false := by decide)
    (he : starEach (a :: []) X.env = (false, eval a X.env) :: starEach [] X.env := by rfl) (hpl : (backTo pos (starEach [] X.env)).any (·.1) = false := by rfl) :
    PMk X (.Call (.Name nm p) [a] [] pos) (tMk_index C ta) := by
  intro pins s σ H Q I h
  refine wpAny_Call_Name_kw (ld_glob I hg T.gC ?_ hdb)
  refine PySem.W.callWith_K (h₀ := X.base) I.ok.mod.kin T.kC (thn (ha.run pos pins s σ H _ I h) fun us s1 hh => ?_) he hpl
  obtain ⟨vs, H1, I1, r1, v, ev, q1⟩ := hh
  subst ev
  refine ⟨I1.kIn, ?_⟩
  cases r1 with
  | cons rv rn =>
    rename_i v' us'
    cases rn
    show wpAny _ _ (call (.ref C) [v']) _ _ _
    have hlim := I1.nolimit
    obtain ⟨hp, g, dr, tk, os⟩ := s1
    refine wpAny_call (PySem.EzIndex.low_made T I1.kIn hlim (by have := hr.dp; omega) fun h' tk' e d M => ?_)
    show MkP X pins σ Q (.ref e) ⟨h', g, dr, tk', os⟩
    obtain ⟨oe, fv, hoe, hc, hd, hdat, h1⟩ := M.obj
    have hns := M.ns
    obtain ⟨G', g1, g2⟩ := restrict h' fun b => decide (b ≠ e)
    have gk : ∀ b, b ≠ e → G'.get? b = h'.get? b := fun b hb => g1 b (decide_eq_true hb)
    have ge : G'.get? e = none := g2 e (by simp)
    have old : ∀ b o, hp.get? b = some o → G'.get? b = some o := fun b o q => (gk b (Nat.ne_of_lt (Nat.lt_of_lt_of_le (Heap.lt_size q) M.new))).trans (M.keep b o q)
    have ob : ObjOk X.prog X.w (upd H1 d (.xd [(("index" : Str), v)])) G' d (.xd [(("index" : Str), v)]) :=
      ⟨_, hns.at (fun o q => (gk d M.dne).trans q), fun f => relO_index rv f⟩
    have J : Inv X pins σ (upd H1 d (.xd [(("index" : Str), v)])) ⟨G', g, dr, tk', os⟩ := I1.laid (t' := tk') old M.dbig ob
    refine ⟨e, oe, fv, ⟨G', g, dr, tk', os⟩, _, .ref C, some d, rfl, J, fun b o q => ?_, ge, hoe, ⟨hc, hd⟩, hdat, h1, ?_, rfl, I1.bare, raises_own T.exC T.tyC, q1 d (I1.hok.fresh M.dbig)⟩
    · by_cases hb : b = e
      · have q' : G'.get? b = some o := q
        rw [hb, ge] at q'; cases q'
      · exact (gk b hb).symm.trans q
    · rw [upd_ne (Ne.symm M.dne)]
      exact I1.hok.fresh M.new
/-- raise Low(e) -/
def tRaise_index (C : Addr) (W : WX) (ta : TA) : TS := fun _ σ H => tMk_index C ta σ H fun cls d H' => W cls d σ H'
theorem ps_raise_index {a : Expr} {ta : TA} {W : WX} {p pos pos2 : Pos} {k : Nat} (hc : X.calm = true) (T : PySem.EzIndex.LowTxt X.K X.mg nm qn C fI) (hr : Room k X.A) (tk : Takes X W) (ha : PA X [a] ta) (hg : Gl X nm := by rfl) (hdb : (nm == ("__debug__" : Str)) = false := by decide)
    (he : starEach (a :: []) X.env = (false, eval a X.env) :: starEach [] X.env := by rfl) (hpl : (backTo pos (starEach [] X.env)).any (·.1) = false := by rfl) :
    PS X (.Raise (some (.Call (.Name nm p) [a] [] pos)) none pos2) (tRaise_index C W ta) := ps_raise hc tk (pmk_index T hr ha hg hdb he hpl)
/-- low.by, low the exception that the suite holds (at a; its class cls, its dict d) -/
def tBy_index (C : Addr) (a : Addr) (cls : Value) (d : Option Addr) (te : TE) : TE := fun σ H Q => te σ H fun x H1 => x = .ref a ∧ cls = .ref C ∧ ∃ (dd : Addr) (v : V), d = some dd ∧ H1 dd = some (.xd [(("index" : Str), v)]) ∧ Q v H1
theorem pe_by_index {a : Addr} {oe : Obj} {cls : Value} {d : Option Addr} {pn : List (Addr × Obj)} {e : Expr} {te : TE} {pos : Pos} (T : PySem.EzIndex.LowTxt X.K X.mg nm qn C fI) (hz : Zc cls d oe) (hf : ∃ vs, oe.data = .fields vs) (he : PE (X.suite a ((a, oe) :: pn)) e te)
    (hb : attributeBase e "index" X.env (eval e X.env) = eval e X.env := by rfl) :
    PE (X.suite a ((a, oe) :: pn)) (.Attribute e "index" pos) (tBy_index C a cls d te) := by
  refine ⟨fun pins s σ H Q I h => ?_⟩
  refine attr_of hb (thn (he.run pins s σ H _ I h) fun u s1 hh => ?_)
  obtain ⟨x, H1, I1, rx, ex, ec, dd, v, ed, ea, q⟩ := hh
  subst ex
  obtain rfl : u = Value.ref a := rx
  subst ec
  subst ed
  obtain ⟨ha, _⟩ := I1.pin (a, oe) (List.mem_append_left _ List.mem_cons_self)
  obtain ⟨vs, hd⟩ := hf
  have hx : ObjOk X.prog X.w H1 s1.heap dd (.xd [(("index" : Str), v)]) := I1.hok dd _ ea
  obtain ⟨mA, hns, hr⟩ := hx
  obtain ⟨od, ho, hl⟩ := lookIn_ns hns
  have l : List.lookup ("index" : Str) [(("index" : Str), v)] = some v := by simp [List.lookup]
  obtain ⟨u, hu, ru⟩ := RelO.some_of (v := v) (o := mA "index") (by rw [← l]; exact hr "index")
  have J : PySem.W.InstAt s1.heap a oe C (some od) := ⟨ha, hz.1, by unfold PySem.W.notCls; rw [hd] <;> rfl, by rw [hz.2]; exact ho⟩
  exact HandSPX.exc_get I1.kIn J T.ga T.gg T.exC (PySem.W.findObj_own T.hdC T.noN rfl (by rw [hl, hu])) (handed_of ru) ⟨v, H1, I1.tok _, ru, q⟩
end
end L2

namespace PySem
namespace EzCount
open PySem.W PySem.Calls PyProof.Rows PySem.HandSPX
/-! ### the text of __init__ -/
def iA (p1 p2 : Pos) : Arguments := { posonlyargs := [], args := [{ arg := "self", annotation := none, pos := p1 }, { arg := "count", annotation := none, pos := p2 }], vararg := none, kwonlyargs := [], kw_defaults := [], kwarg := none, defaults := [] }
def iB (q1 q2 q3 q4 : Pos) : List Stmt := [.Assign [.Attribute (.Name "self" q1) "count" q2] (.Name "count" q3) q4]
def iS : Scope := { kind := .function, names := [(PySem.Str.ofString "self", .local), (PySem.Str.ofString "count", .local)], isGenerator := false, isCoroutine := false, more := [] }
/-- what the written part says of Low, at C, and of its __init__, at fI -/
structure LowTxt (K : Frag) (mg : Str → Option Value) (nm : Str) (qn : String) (C fI : Addr) : Prop where
  gC : mg nm = some (.ref C)
  cls : ∃ nmC q N bs bm sn sub ab col dd k0 k1 k2 k3 k5, K.lookup C = some (excClassObj nmC q C N bs bm true sn sub ab col dd k0 k1 k2 k3 k5 "ValueError.__new__") ∧ refsVE bm = true
  sa : findIn K (.ref C) "__setattr__" = some (some (.builtin "object.__setattr__"))
  ga : findIn K (.ref C) "__getattribute__" = some (some (.builtin "BaseException.__getattribute__"))
  gg : findIn K (.ref C) "__getattr__" = some none
  noN : findIn K (.ref C) "count" = some none
  iC : findIn K (.ref C) "__init__" = some (some (.ref fI))
  tC : typeIn K (.ref fI) = some (.type "function")
  kC : keepIn K (.ref C) = true
  exC : subIn K (.ref C) (.type "BaseException") = some true
  tyC : typeIn K (.ref C) = some (.type "type")
  hdC : hasDictIn K C = true
  te : exmOne K (.ref C) (.ref C) = some true
  fn : ∃ (oc : Value) (od : Option Addr) (doc pm : Value) (an : Option Addr) (cdv ct : Value) (osl : Array (Option Value)) (p1 p2 q1 q2 q3 q4 : Pos),
    K.lookup fI = some ⟨oc, od, .func (fnOf "__init__" qn (iA p1 p2) (iB q1 q2 q3 q4) iS .none .none doc pm an cdv ct), osl⟩ ∧ codeIn K cdv qn = true
theorem one_size (v : Value) : [v].length ≤ sizeLine := by
  rw [sizeLine_eq]
  exact (by decide : 1 ≤ 16777216)
theorem kept_but {K : Frag} {h h' : Heap} {x : Addr} (X : K.In h) (hx : K.lookup x = none) (k : ∀ b o, b ≠ x → h.get? b = some o → h'.get? b = some o) : K.In h' := fun a o e =>
  k a o (fun z => by rw [z, hx] at e; cases e) (X a o e)
theorem ldC {M : Model} {s : Shared} {name : Str} {scope : Scope} {L a : Addr} {cd : Value} {m : Str → Option Value} {x : Str} {pos : Pos} {v : Value} {Q : Value → Shared → Prop} {A : Around} {E : Value → Shared → Prop} (hn : s.heap.Ns L m) (hv : m x = some v) (h : Q v s)
    (hk : scope.kind = .function := by rfl) (hl : (envOfC name scope L a cd).kindOf x = some .local := by rfl) (hd : (x == ("__debug__" : Str)) = false := by decide) :
    wpAny M A (eval (.Name x pos) (envOfC name scope L a cd)) Q E s := wpAny_Name (wpAny_loadName_local hk hl hn hv h) hd
/-- what __init__ leaves of a fresh exception at x -/
structure InitEnd (h h' : Heap) (x C dx t1 : Addr) (v : Value) : Prop where
  keep : ∀ b o, b ≠ x → h.get? b = some o → h'.get? b = some o
  obj : h'.get? x = some { cls := .ref C, dict := some dx, data := .fields #[.ref t1, .none, .none, .none, .bool false, .none] }
  dbig : h.objs.size ≤ dx
  dne : dx ≠ x
  ns : h'.Ns1 dx (fun y => if y = "count" then some v else none)
/-- a made Low -/
structure OwnMade (h h' : Heap) (e C d : Addr) (v : Value) : Prop where
  keep : ∀ b o, h.get? b = some o → h'.get? b = some o
  new : h.objs.size ≤ e
  obj : ∃ oe vs, h'.get? e = some oe ∧ oe.cls = .ref C ∧ oe.dict = some d ∧ oe.data = .fields vs ∧ vs[1]? = some .none
  dbig : h.objs.size ≤ d
  dne : d ≠ e
  ns : h'.Ns1 d (fun y => if y = "count" then some v else none)
section
variable {prog : Program} {w : World} {A : Around} {E : Value → Shared → Prop} {R : Result → Shared → Prop} {s : Shared} {K : Frag} {mg : Str → Option Value} {nm : Str} {qn : String} {C fI : Addr}
theorem low_init (T : LowTxt K mg nm qn C fI) {x t0 : Addr} {v : Value} (X : K.In s.heap) (hlim : s.heap.NoLimit) (hx : s.heap.get? x = some (excO C t0)) (hnx : K.lookup x = none) (hroom : A.depth < recursionLimit)
    (hq : ∀ h' tk dx, InitEnd s.heap h' x C dx t0 v → R (.ok (.ret .none)) { s with heap := h', toks := tk }) :
    codeAny (model prog w) A (.call (.ref fI) ⟨[.ref x, v], []⟩) R s := by
  obtain ⟨oc, od, doc, pm, an, cdv, ct, osl, p1, p2, q1, q2, q3, q4, ho, hcd⟩ := T.fn
  obtain ⟨nmC, q, N, bs, bm, sn, sub, ab, col, dd, k0, k1, k2, k3, k5, hC, hbm⟩ := T.cls
  have hcl : clsIn K C = some { name := nmC, bases := bs, mro := .ref C :: bm, ns := N, qualname := q, hasDict := true, slotNames := sn, subclasses := sub, abstract := ab, collection := col, hasDel := false } := by unfold clsIn; rw [hC] <;> rfl
  refine Att.call_fn (binds := [("self", .ref x), ("count", v)]) X hlim ho hcd hroom (BindsTo.of_eq (by first | rfl | with_unfolding_all rfl)) (by first | rfl | decide | with_unfolding_all rfl) (fun s₁ IC => ?_) rfl rfl rfl
  obtain ⟨h₁, tk₁, rfl⟩ := IC.toInCall.same
  have k : ∀ b o, s.heap.get? b = some o → h₁.get? b = some o := IC.toInCall.keep
  have hn := IC.toInCall.ns
  have hxL : s.heap.objs.size ≠ x := Nat.ne_of_gt (Heap.lt_size hx)
  have X₁ : K.In h₁ := X.keeps k
  have hx₁ := k _ _ hx
  -- self.by = by
  show wpAny _ _ (execs _ _) _ _ _
  refine wpAny_execs_cons (plainObj_wpAny_Assign_Attribute ?_)
  refine ldC (v := v) hn (by first | rfl | with_unfolding_all rfl | kernel_rfl) (ldC (v := .ref x) hn (by first | rfl | with_unfolding_all rfl | kernel_rfl) ?_)
  refine set_plain X₁ (ox := excO C t0) (od := none) ⟨hx₁, rfl, rfl, trivial⟩ T.sa ?_
  refine exc_osa X₁ hx₁ hcl (show refsVE (.ref C :: bm) = true from hbm) rfl T.noN (fun h₃ tk₃ dx k₃ dn dne hx₃ hn₃ => ?_)
  show wpAny _ _ (execs _ _) _ _ _
  have z : s.heap.objs.size < h₁.objs.size := hn.lt
  exact wpAny_execs_nil (hq h₃ tk₃ dx ⟨fun b o hb e => k₃ b o hb (k b o e), hx₃, Nat.le_of_lt (Nat.lt_of_lt_of_le z dn), dne, hn₃⟩)
theorem low_made (T : LowTxt K mg nm qn C fI) {v : Value} (X : K.In s.heap) (hlim : s.heap.NoLimit) (hroom : A.depth + 1 < recursionLimit)
    (hq : ∀ h' tk e d, OwnMade s.heap h' e C d v → R (.ok (.ret (.ref e))) { s with heap := h', toks := tk }) :
    codeAny (model prog w) A (.call (.ref C) ⟨[v], []⟩) R s := by
  obtain ⟨nmC, q, N, bs, bm, sn, sub, ab, col, dd, k0, k1, k2, k3, k5, hC, hbm⟩ := T.cls
  obtain ⟨hp, g, dr, tk, os⟩ := s
  have k : ∀ b o, hp.get? b = some o → ((hp.push (kdv_tup [v])).push (excO C hp.objs.size)).get? b = some o := fun b o e => Heap.get?_push_of_some _ (Heap.get?_push_of_some _ e)
  have hget : ((hp.push (kdv_tup [v])).push (excO C hp.objs.size)).get? (hp.objs.size + 1) = some (excO C hp.objs.size) := by heap_get
  have hnx : K.lookup (hp.objs.size + 1) = none := by
    cases e : K.lookup (hp.objs.size + 1) with
    | none => rfl
    | some o =>
      have z : hp.get? (hp.objs.size + 1) = some o := X _ _ e
      exact absurd (Nat.lt_of_succ_lt (Heap.lt_size z)) (Nat.lt_irrefl _)
  refine call_own F.excBase_ValueError (fun X => refsVE_contains X bm hbm) (X _ _ hC) (looks_findIn X T.iC) (fun self => bind_fn X self T.tC) (one_size v) ?_
  refine low_init (s := ⟨(hp.push (kdv_tup [v])).push (excO C hp.objs.size), g, dr, tk, os⟩) T (X.keeps k) (hlim.keeps k) hget hnx ?_ fun h' tk' dx ⟨k', hx, dn, dne, hns⟩ => ?_
  · show A.depth + 1 < recursionLimit
    exact hroom
  · have old : ∀ b o, hp.get? b = some o → h'.get? b = some o := fun b o e => k' b o (Nat.ne_of_lt (Nat.lt_succ_of_lt (Heap.lt_size e))) (k b o e)
    have z : hp.objs.size + 1 + 1 ≤ dx := by
      first
        | (simpa only [Heap.size_push] using dn)
        | exact dn
        | (have q := dn; rw [Heap.size_push, Heap.size_push] at q; exact q)
    exact ⟨rfl, hq h' tk' (hp.objs.size + 1) dx ⟨old, Nat.le_succ _, ⟨_, _, hx, rfl, rfl, rfl, rfl⟩, Nat.le_trans (Nat.le_trans (Nat.le_succ _) (Nat.le_succ _)) z, dne, hns⟩⟩
end
end EzCount
end PySem
namespace L2
open PySem PySem.Spec PyProof.Rows
theorem relO_count {v : V} {v' : Value} (r : RelV v v') (f : Str) : RelO (List.lookup f [(("count" : Str), v)]) (if f = "count" then some v' else none) := by
  by_cases hw : f = "count"
  · subst hw
    rw [if_pos rfl]
    have q : List.lookup ("count" : Str) [(("count" : Str), v)] = some v := by simp [List.lookup]
    rw [q]
    exact r
  · rw [if_neg hw]
    have qw : (f == ("count" : Str)) = false := by simpa using hw
    have q2 : List.lookup f [(("count" : Str), v)] = none := by simp [List.lookup, qw]
    rw [q2]
    trivial
section
variable {X : Cx} {nm : Str} {qn : String} {C fI : Addr}
/-- Low(e) -/
def tMk_count (C : Addr) (ta : TA) : L2.St → Hp → XK → Prop := fun σ H Q => ta σ H fun vs H1 => ∃ v, vs = [v] ∧ ∀ d, H1 d = none → Q (.ref C) (some d) (upd H1 d (.xd [(("count" : Str), v)]))
theorem pmk_count {a : Expr} {ta : TA} {p pos : Pos} {k : Nat} (T : PySem.EzCount.LowTxt X.K X.mg nm qn C fI) (hr : Room k X.A) (ha : PA X [a] ta) (hg : Gl X nm := by rfl) (hdb : (nm == ("__debug__" : Str)) = false := by decide)
    (he : starEach (a :: []) X.env = (false, eval a X.env) :: starEach [] X.env := by rfl) (hpl : (backTo pos (starEach [] X.env)).any (·.1) = false := by rfl) :
    PMk X (.Call (.Name nm p) [a] [] pos) (tMk_count C ta) := by
  intro pins s σ H Q I h
  refine wpAny_Call_Name_kw (ld_glob I hg T.gC ?_ hdb)
  refine PySem.W.callWith_K (h₀ := X.base) I.ok.mod.kin T.kC (thn (ha.run pos pins s σ H _ I h) fun us s1 hh => ?_) he hpl
  obtain ⟨vs, H1, I1, r1, v, ev, q1⟩ := hh
  subst ev
  refine ⟨I1.kIn, ?_⟩
  cases r1 with
  | cons rv rn =>
    rename_i v' us'
    cases rn
    show wpAny _ _ (call (.ref C) [v']) _ _ _
    have hlim := I1.nolimit
    obtain ⟨hp, g, dr, tk, os⟩ := s1
    refine wpAny_call (PySem.EzCount.low_made T I1.kIn hlim (by have := hr.dp; omega) fun h' tk' e d M => ?_)
    show MkP X pins σ Q (.ref e) ⟨h', g, dr, tk', os⟩
    obtain ⟨oe, fv, hoe, hc, hd, hdat, h1⟩ := M.obj
    have hns := M.ns
    obtain ⟨G', g1, g2⟩ := restrict h' fun b => decide (b ≠ e)
    have gk : ∀ b, b ≠ e → G'.get? b = h'.get? b := fun b hb => g1 b (decide_eq_true hb)
    have ge : G'.get? e = none := g2 e (by simp)
    have old : ∀ b o, hp.get? b = some o → G'.get? b = some o := fun b o q => (gk b (Nat.ne_of_lt (Nat.lt_of_lt_of_le (Heap.lt_size q) M.new))).trans (M.keep b o q)
    have ob : ObjOk X.prog X.w (upd H1 d (.xd [(("count" : Str), v)])) G' d (.xd [(("count" : Str), v)]) :=
      ⟨_, hns.at (fun o q => (gk d M.dne).trans q), fun f => relO_count rv f⟩
    have J : Inv X pins σ (upd H1 d (.xd [(("count" : Str), v)])) ⟨G', g, dr, tk', os⟩ := I1.laid (t' := tk') old M.dbig ob
    refine ⟨e, oe, fv, ⟨G', g, dr, tk', os⟩, _, .ref C, some d, rfl, J, fun b o q => ?_, ge, hoe, ⟨hc, hd⟩, hdat, h1, ?_, rfl, I1.bare, raises_own T.exC T.tyC, q1 d (I1.hok.fresh M.dbig)⟩
    · by_cases hb : b = e
      · have q' : G'.get? b = some o := q
        rw [hb, ge] at q'; cases q'
      · exact (gk b hb).symm.trans q
    · rw [upd_ne (Ne.symm M.dne)]
      exact I1.hok.fresh M.new
/-- raise Low(e) -/
def tRaise_count (C : Addr) (W : WX) (ta : TA) : TS := fun _ σ H => tMk_count C ta σ H fun cls d H' => W cls d σ H'
theorem ps_raise_count {a : Expr} {ta : TA} {W : WX} {p pos pos2 : Pos} {k : Nat} (hc : X.calm = true) (T : PySem.EzCount.LowTxt X.K X.mg nm qn C fI) (hr : Room k X.A) (tk : Takes X W) (ha : PA X [a] ta) (hg : Gl X nm := by rfl) (hdb : (nm == ("__debug__" : Str)) = false := by decide)
    (he : starEach (a :: []) X.env = (false, eval a X.env) :: starEach [] X.env := by rfl) (hpl : (backTo pos (starEach [] X.env)).any (·.1) = false := by rfl) :
    PS X (.Raise (some (.Call (.Name nm p) [a] [] pos)) none pos2) (tRaise_count C W ta) := ps_raise hc tk (pmk_count T hr ha hg hdb he hpl)
/-- low.by, low the exception that the suite holds (at a; its class cls, its dict d) -/
def tBy_count (C : Addr) (a : Addr) (cls : Value) (d : Option Addr) (te : TE) : TE := fun σ H Q => te σ H fun x H1 => x = .ref a ∧ cls = .ref C ∧ ∃ (dd : Addr) (v : V), d = some dd ∧ H1 dd = some (.xd [(("count" : Str), v)]) ∧ Q v H1
theorem pe_by_count {a : Addr} {oe : Obj} {cls : Value} {d : Option Addr} {pn : List (Addr × Obj)} {e : Expr} {te : TE} {pos : Pos} (T : PySem.EzCount.LowTxt X.K X.mg nm qn C fI) (hz : Zc cls d oe) (hf : ∃ vs, oe.data = .fields vs) (he : PE (X.suite a ((a, oe) :: pn)) e te)
    (hb : attributeBase e "count" X.env (eval e X.env) = eval e X.env := by rfl) :
    PE (X.suite a ((a, oe) :: pn)) (.Attribute e "count" pos) (tBy_count C a cls d te) := by
  refine ⟨fun pins s σ H Q I h => ?_⟩
  refine attr_of hb (thn (he.run pins s σ H _ I h) fun u s1 hh => ?_)
  obtain ⟨x, H1, I1, rx, ex, ec, dd, v, ed, ea, q⟩ := hh
  subst ex
  obtain rfl : u = Value.ref a := rx
  subst ec
  subst ed
  obtain ⟨ha, _⟩ := I1.pin (a, oe) (List.mem_append_left _ List.mem_cons_self)
  obtain ⟨vs, hd⟩ := hf
  have hx : ObjOk X.prog X.w H1 s1.heap dd (.xd [(("count" : Str), v)]) := I1.hok dd _ ea
  obtain ⟨mA, hns, hr⟩ := hx
  obtain ⟨od, ho, hl⟩ := lookIn_ns hns
  have l : List.lookup ("count" : Str) [(("count" : Str), v)] = some v := by simp [List.lookup]
  obtain ⟨u, hu, ru⟩ := RelO.some_of (v := v) (o := mA "count") (by rw [← l]; exact hr "count")
  have J : PySem.W.InstAt s1.heap a oe C (some od) := ⟨ha, hz.1, by unfold PySem.W.notCls; rw [hd] <;> rfl, by rw [hz.2]; exact ho⟩
  exact HandSPX.exc_get I1.kIn J T.ga T.gg T.exC (PySem.W.findObj_own T.hdC T.noN rfl (by rw [hl, hu])) (handed_of ru) ⟨v, H1, I1.tok _, ru, q⟩
end
end L2

namespace PySem
namespace EzName
open PySem.W PySem.Calls PyProof.Rows PySem.HandSPX
/-! ### the text of __init__ -/
def iA (p1 p2 : Pos) : Arguments := { posonlyargs := [], args := [{ arg := "self", annotation := none, pos := p1 }, { arg := "name", annotation := none, pos := p2 }], vararg := none, kwonlyargs := [], kw_defaults := [], kwarg := none, defaults := [] }
def iB (q1 q2 q3 q4 : Pos) : List Stmt := [.Assign [.Attribute (.Name "self" q1) "name" q2] (.Name "name" q3) q4]
def iS : Scope := { kind := .function, names := [(PySem.Str.ofString "self", .local), (PySem.Str.ofString "name", .local)], isGenerator := false, isCoroutine := false, more := [] }
/-- what the written part says of Low, at C, and of its __init__, at fI -/
structure LowTxt (K : Frag) (mg : Str → Option Value) (nm : Str) (qn : String) (C fI : Addr) : Prop where
  gC : mg nm = some (.ref C)
  cls : ∃ nmC q N bs bm sn sub ab col dd k0 k1 k2 k3 k5, K.lookup C = some (excClassObj nmC q C N bs bm true sn sub ab col dd k0 k1 k2 k3 k5 "ValueError.__new__") ∧ refsVE bm = true
  sa : findIn K (.ref C) "__setattr__" = some (some (.builtin "object.__setattr__"))
  ga : findIn K (.ref C) "__getattribute__" = some (some (.builtin "BaseException.__getattribute__"))
  gg : findIn K (.ref C) "__getattr__" = some none
  noN : findIn K (.ref C) "name" = some none
  iC : findIn K (.ref C) "__init__" = some (some (.ref fI))
  tC : typeIn K (.ref fI) = some (.type "function")
  kC : keepIn K (.ref C) = true
  exC : subIn K (.ref C) (.type "BaseException") = some true
  tyC : typeIn K (.ref C) = some (.type "type")
  hdC : hasDictIn K C = true
  te : exmOne K (.ref C) (.ref C) = some true
  fn : ∃ (oc : Value) (od : Option Addr) (doc pm : Value) (an : Option Addr) (cdv ct : Value) (osl : Array (Option Value)) (p1 p2 q1 q2 q3 q4 : Pos),
    K.lookup fI = some ⟨oc, od, .func (fnOf "__init__" qn (iA p1 p2) (iB q1 q2 q3 q4) iS .none .none doc pm an cdv ct), osl⟩ ∧ codeIn K cdv qn = true
theorem one_size (v : Value) : [v].length ≤ sizeLine := by
  rw [sizeLine_eq]
  exact (by decide : 1 ≤ 16777216)
theorem kept_but {K : Frag} {h h' : Heap} {x : Addr} (X : K.In h) (hx : K.lookup x = none) (k : ∀ b o, b ≠ x → h.get? b = some o → h'.get? b = some o) : K.In h' := fun a o e =>
  k a o (fun z => by rw [z, hx] at e; cases e) (X a o e)
theorem ldC {M : Model} {s : Shared} {name : Str} {scope : Scope} {L a : Addr} {cd : Value} {m : Str → Option Value} {x : Str} {pos : Pos} {v : Value} {Q : Value → Shared → Prop} {A : Around} {E : Value → Shared → Prop} (hn : s.heap.Ns L m) (hv : m x = some v) (h : Q v s)
    (hk : scope.kind = .function := by rfl) (hl : (envOfC name scope L a cd).kindOf x = some .local := by rfl) (hd : (x == ("__debug__" : Str)) = false := by decide) :
    wpAny M A (eval (.Name x pos) (envOfC name scope L a cd)) Q E s := wpAny_Name (wpAny_loadName_local hk hl hn hv h) hd
/-- what __init__ leaves of a fresh exception at x -/
structure InitEnd (h h' : Heap) (x C dx t1 : Addr) (v : Value) : Prop where
  keep : ∀ b o, b ≠ x → h.get? b = some o → h'.get? b = some o
  obj : h'.get? x = some { cls := .ref C, dict := some dx, data := .fields #[.ref t1, .none, .none, .none, .bool false, .none] }
  dbig : h.objs.size ≤ dx
  dne : dx ≠ x
  ns : h'.Ns1 dx (fun y => if y = "name" then some v else none)
/-- a made Low -/
structure OwnMade (h h' : Heap) (e C d : Addr) (v : Value) : Prop where
  keep : ∀ b o, h.get? b = some o → h'.get? b = some o
  new : h.objs.size ≤ e
  obj : ∃ oe vs, h'.get? e = some oe ∧ oe.cls = .ref C ∧ oe.dict = some d ∧ oe.data = .fields vs ∧ vs[1]? = some .none
  dbig : h.objs.size ≤ d
  dne : d ≠ e
  ns : h'.Ns1 d (fun y => if y = "name" then some v else none)
section
variable {prog : Program} {w : World} {A : Around} {E : Value → Shared → Prop} {R : Result → Shared → Prop} {s : Shared} {K : Frag} {mg : Str → Option Value} {nm : Str} {qn : String} {C fI : Addr}
theorem low_init (T : LowTxt K mg nm qn C fI) {x t0 : Addr} {v : Value} (X : K.In s.heap) (hlim : s.heap.NoLimit) (hx : s.heap.get? x = some (excO C t0)) (hnx : K.lookup x = none) (hroom : A.depth < recursionLimit)
    (hq : ∀ h' tk dx, InitEnd s.heap h' x C dx t0 v → R (.ok (.ret .none)) { s with heap := h', toks := tk }) :
    codeAny (model prog w) A (.call (.ref fI) ⟨[.ref x, v], []⟩) R s := by
  obtain ⟨oc, od, doc, pm, an, cdv, ct, osl, p1, p2, q1, q2, q3, q4, ho, hcd⟩ := T.fn
  obtain ⟨nmC, q, N, bs, bm, sn, sub, ab, col, dd, k0, k1, k2, k3, k5, hC, hbm⟩ := T.cls
  have hcl : clsIn K C = some { name := nmC, bases := bs, mro := .ref C :: bm, ns := N, qualname := q, hasDict := true, slotNames := sn, subclasses := sub, abstract := ab, collection := col, hasDel := false } := by unfold clsIn; rw [hC] <;> rfl
  refine Att.call_fn (binds := [("self", .ref x), ("name", v)]) X hlim ho hcd hroom (BindsTo.of_eq (by first | rfl | with_unfolding_all rfl)) (by first | rfl | decide | with_unfolding_all rfl) (fun s₁ IC => ?_) rfl rfl rfl
  obtain ⟨h₁, tk₁, rfl⟩ := IC.toInCall.same
  have k : ∀ b o, s.heap.get? b = some o → h₁.get? b = some o := IC.toInCall.keep
  have hn := IC.toInCall.ns
  have hxL : s.heap.objs.size ≠ x := Nat.ne_of_gt (Heap.lt_size hx)
  have X₁ : K.In h₁ := X.keeps k
  have hx₁ := k _ _ hx
  -- self.by = by
  show wpAny _ _ (execs _ _) _ _ _
  refine wpAny_execs_cons (plainObj_wpAny_Assign_Attribute ?_)
  refine ldC (v := v) hn (by first | rfl | with_unfolding_all rfl | kernel_rfl) (ldC (v := .ref x) hn (by first | rfl | with_unfolding_all rfl | kernel_rfl) ?_)
  refine set_plain X₁ (ox := excO C t0) (od := none) ⟨hx₁, rfl, rfl, trivial⟩ T.sa ?_
  refine exc_osa X₁ hx₁ hcl (show refsVE (.ref C :: bm) = true from hbm) rfl T.noN (fun h₃ tk₃ dx k₃ dn dne hx₃ hn₃ => ?_)
  show wpAny _ _ (execs _ _) _ _ _
  have z : s.heap.objs.size < h₁.objs.size := hn.lt
  exact wpAny_execs_nil (hq h₃ tk₃ dx ⟨fun b o hb e => k₃ b o hb (k b o e), hx₃, Nat.le_of_lt (Nat.lt_of_lt_of_le z dn), dne, hn₃⟩)
theorem low_made (T : LowTxt K mg nm qn C fI) {v : Value} (X : K.In s.heap) (hlim : s.heap.NoLimit) (hroom : A.depth + 1 < recursionLimit)
    (hq : ∀ h' tk e d, OwnMade s.heap h' e C d v → R (.ok (.ret (.ref e))) { s with heap := h', toks := tk }) :
    codeAny (model prog w) A (.call (.ref C) ⟨[v], []⟩) R s := by
  obtain ⟨nmC, q, N, bs, bm, sn, sub, ab, col, dd, k0, k1, k2, k3, k5, hC, hbm⟩ := T.cls
  obtain ⟨hp, g, dr, tk, os⟩ := s
  have k : ∀ b o, hp.get? b = some o → ((hp.push (kdv_tup [v])).push (excO C hp.objs.size)).get? b = some o := fun b o e => Heap.get?_push_of_some _ (Heap.get?_push_of_some _ e)
  have hget : ((hp.push (kdv_tup [v])).push (excO C hp.objs.size)).get? (hp.objs.size + 1) = some (excO C hp.objs.size) := by heap_get
  have hnx : K.lookup (hp.objs.size + 1) = none := by
    cases e : K.lookup (hp.objs.size + 1) with
    | none => rfl
    | some o =>
      have z : hp.get? (hp.objs.size + 1) = some o := X _ _ e
      exact absurd (Nat.lt_of_succ_lt (Heap.lt_size z)) (Nat.lt_irrefl _)
  refine call_own F.excBase_ValueError (fun X => refsVE_contains X bm hbm) (X _ _ hC) (looks_findIn X T.iC) (fun self => bind_fn X self T.tC) (one_size v) ?_
  refine low_init (s := ⟨(hp.push (kdv_tup [v])).push (excO C hp.objs.size), g, dr, tk, os⟩) T (X.keeps k) (hlim.keeps k) hget hnx ?_ fun h' tk' dx ⟨k', hx, dn, dne, hns⟩ => ?_
  · show A.depth + 1 < recursionLimit
    exact hroom
  · have old : ∀ b o, hp.get? b = some o → h'.get? b = some o := fun b o e => k' b o (Nat.ne_of_lt (Nat.lt_succ_of_lt (Heap.lt_size e))) (k b o e)
    have z : hp.objs.size + 1 + 1 ≤ dx := by
      first
        | (simpa only [Heap.size_push] using dn)
        | exact dn
        | (have q := dn; rw [Heap.size_push, Heap.size_push] at q; exact q)
    exact ⟨rfl, hq h' tk' (hp.objs.size + 1) dx ⟨old, Nat.le_succ _, ⟨_, _, hx, rfl, rfl, rfl, rfl⟩, Nat.le_trans (Nat.le_trans (Nat.le_succ _) (Nat.le_succ _)) z, dne, hns⟩⟩
end
end EzName
end PySem
namespace L2
open PySem PySem.Spec PyProof.Rows
theorem relO_name {v : V} {v' : Value} (r : RelV v v') (f : Str) : RelO (List.lookup f [(("name" : Str), v)]) (if f = "name" then some v' else none) := by
  by_cases hw : f = "name"
  · subst hw
    rw [if_pos rfl]
    have q : List.lookup ("name" : Str) [(("name" : Str), v)] = some v := by simp [List.lookup]
    rw [q]
    exact r
  · rw [if_neg hw]
    have qw : (f == ("name" : Str)) = false := by simpa using hw
    have q2 : List.lookup f [(("name" : Str), v)] = none := by simp [List.lookup, qw]
    rw [q2]
    trivial
section
variable {X : Cx} {nm : Str} {qn : String} {C fI : Addr}
/-- Low(e) -/
def tMk_name (C : Addr) (ta : TA) : L2.St → Hp → XK → Prop := fun σ H Q => ta σ H fun vs H1 => ∃ v, vs = [v] ∧ ∀ d, H1 d = none → Q (.ref C) (some d) (upd H1 d (.xd [(("name" : Str), v)]))
theorem pmk_name {a : Expr} {ta : TA} {p pos : Pos} {k : Nat} (T : PySem.EzName.LowTxt X.K X.mg nm qn C fI) (hr : Room k X.A) (ha : PA X [a] ta) (hg : Gl X nm := by rfl) (hdb : (nm == ("__debug__" : Str)) = false := by decide)
    (he : starEach (a :: []) X.env = (false, eval a X.env) :: starEach [] X.env := by rfl) (hpl : (backTo pos (starEach [] X.env)).any (·.1) = false := by rfl) :
    PMk X (.Call (.Name nm p) [a] [] pos) (tMk_name C ta) := by
  intro pins s σ H Q I h
  refine wpAny_Call_Name_kw (ld_glob I hg T.gC ?_ hdb)
  refine PySem.W.callWith_K (h₀ := X.base) I.ok.mod.kin T.kC (thn (ha.run pos pins s σ H _ I h) fun us s1 hh => ?_) he hpl
  obtain ⟨vs, H1, I1, r1, v, ev, q1⟩ := hh
  subst ev
  refine ⟨I1.kIn, ?_⟩
  cases r1 with
  | cons rv rn =>
    rename_i v' us'
    cases rn
    show wpAny _ _ (call (.ref C) [v']) _ _ _
    have hlim := I1.nolimit
    obtain ⟨hp, g, dr, tk, os⟩ := s1
    refine wpAny_call (PySem.EzName.low_made T I1.kIn hlim (by have := hr.dp; omega) fun h' tk' e d M => ?_)
    show MkP X pins σ Q (.ref e) ⟨h', g, dr, tk', os⟩
    obtain ⟨oe, fv, hoe, hc, hd, hdat, h1⟩ := M.obj
    have hns := M.ns
    obtain ⟨G', g1, g2⟩ := restrict h' fun b => decide (b ≠ e)
    have gk : ∀ b, b ≠ e → G'.get? b = h'.get? b := fun b hb => g1 b (decide_eq_true hb)
    have ge : G'.get? e = none := g2 e (by simp)
    have old : ∀ b o, hp.get? b = some o → G'.get? b = some o := fun b o q => (gk b (Nat.ne_of_lt (Nat.lt_of_lt_of_le (Heap.lt_size q) M.new))).trans (M.keep b o q)
    have ob : ObjOk X.prog X.w (upd H1 d (.xd [(("name" : Str), v)])) G' d (.xd [(("name" : Str), v)]) :=
      ⟨_, hns.at (fun o q => (gk d M.dne).trans q), fun f => relO_name rv f⟩
    have J : Inv X pins σ (upd H1 d (.xd [(("name" : Str), v)])) ⟨G', g, dr, tk', os⟩ := I1.laid (t' := tk') old M.dbig ob
    refine ⟨e, oe, fv, ⟨G', g, dr, tk', os⟩, _, .ref C, some d, rfl, J, fun b o q => ?_, ge, hoe, ⟨hc, hd⟩, hdat, h1, ?_, rfl, I1.bare, raises_own T.exC T.tyC, q1 d (I1.hok.fresh M.dbig)⟩
    · by_cases hb : b = e
      · have q' : G'.get? b = some o := q
        rw [hb, ge] at q'; cases q'
      · exact (gk b hb).symm.trans q
    · rw [upd_ne (Ne.symm M.dne)]
      exact I1.hok.fresh M.new
/-- raise Low(e) -/
def tRaise_name (C : Addr) (W : WX) (ta : TA) : TS := fun _ σ H => tMk_name C ta σ H fun cls d H' => W cls d σ H'
theorem ps_raise_name {a : Expr} {ta : TA} {W : WX} {p pos pos2 : Pos} {k : Nat} (hc : X.calm = true) (T : PySem.EzName.LowTxt X.K X.mg nm qn C fI) (hr : Room k X.A) (tk : Takes X W) (ha : PA X [a] ta) (hg : Gl X nm := by rfl) (hdb : (nm == ("__debug__" : Str)) = false := by decide)
    (he : starEach (a :: []) X.env = (false, eval a X.env) :: starEach [] X.env := by rfl) (hpl : (backTo pos (starEach [] X.env)).any (·.1) = false := by rfl) :
    PS X (.Raise (some (.Call (.Name nm p) [a] [] pos)) none pos2) (tRaise_name C W ta) := ps_raise hc tk (pmk_name T hr ha hg hdb he hpl)
/-- low.by, low the exception that the suite holds (at a; its class cls, its dict d) -/
def tBy_name (C : Addr) (a : Addr) (cls : Value) (d : Option Addr) (te : TE) : TE := fun σ H Q => te σ H fun x H1 => x = .ref a ∧ cls = .ref C ∧ ∃ (dd : Addr) (v : V), d = some dd ∧ H1 dd = some (.xd [(("name" : Str), v)]) ∧ Q v H1
theorem pe_by_name {a : Addr} {oe : Obj} {cls : Value} {d : Option Addr} {pn : List (Addr × Obj)} {e : Expr} {te : TE} {pos : Pos} (T : PySem.EzName.LowTxt X.K X.mg nm qn C fI) (hz : Zc cls d oe) (hf : ∃ vs, oe.data = .fields vs) (he : PE (X.suite a ((a, oe) :: pn)) e te)
    (hb : attributeBase e "name" X.env (eval e X.env) = eval e X.env := by rfl) :
    PE (X.suite a ((a, oe) :: pn)) (.Attribute e "name" pos) (tBy_name C a cls d te) := by
  refine ⟨fun pins s σ H Q I h => ?_⟩
  refine attr_of hb (thn (he.run pins s σ H _ I h) fun u s1 hh => ?_)
  obtain ⟨x, H1, I1, rx, ex, ec, dd, v, ed, ea, q⟩ := hh
  subst ex
  obtain rfl : u = Value.ref a := rx
  subst ec
  subst ed
  obtain ⟨ha, _⟩ := I1.pin (a, oe) (List.mem_append_left _ List.mem_cons_self)
  obtain ⟨vs, hd⟩ := hf
  have hx : ObjOk X.prog X.w H1 s1.heap dd (.xd [(("name" : Str), v)]) := I1.hok dd _ ea
  obtain ⟨mA, hns, hr⟩ := hx
  obtain ⟨od, ho, hl⟩ := lookIn_ns hns
  have l : List.lookup ("name" : Str) [(("name" : Str), v)] = some v := by simp [List.lookup]
  obtain ⟨u, hu, ru⟩ := RelO.some_of (v := v) (o := mA "name") (by rw [← l]; exact hr "name")
  have J : PySem.W.InstAt s1.heap a oe C (some od) := ⟨ha, hz.1, by unfold PySem.W.notCls; rw [hd] <;> rfl, by rw [hz.2]; exact ho⟩
  exact HandSPX.exc_get I1.kIn J T.ga T.gg T.exC (PySem.W.findObj_own T.hdC T.noN rfl (by rw [hl, hu])) (handed_of ru) ⟨v, H1, I1.tok _, ru, q⟩
end
end L2

namespace PySem
namespace EzCircle
open PySem.W PySem.Calls PyProof.Rows PySem.HandSPX
/-! ### the text of __init__ -/
def iA (p1 p2 : Pos) : Arguments := { posonlyargs := [], args := [{ arg := "self", annotation := none, pos := p1 }, { arg := "circle", annotation := none, pos := p2 }], vararg := none, kwonlyargs := [], kw_defaults := [], kwarg := none, defaults := [] }
def iB (q1 q2 q3 q4 : Pos) : List Stmt := [.Assign [.Attribute (.Name "self" q1) "circle" q2] (.Name "circle" q3) q4]
def iS : Scope := { kind := .function, names := [(PySem.Str.ofString "self", .local), (PySem.Str.ofString "circle", .local)], isGenerator := false, isCoroutine := false, more := [] }
/-- what the written part says of Low, at C, and of its __init__, at fI -/
structure LowTxt (K : Frag) (mg : Str → Option Value) (nm : Str) (qn : String) (C fI : Addr) : Prop where
  gC : mg nm = some (.ref C)
  cls : ∃ nmC q N bs bm sn sub ab col dd k0 k1 k2 k3 k5, K.lookup C = some (excClassObj nmC q C N bs bm true sn sub ab col dd k0 k1 k2 k3 k5 "ValueError.__new__") ∧ refsVE bm = true
  sa : findIn K (.ref C) "__setattr__" = some (some (.builtin "object.__setattr__"))
  ga : findIn K (.ref C) "__getattribute__" = some (some (.builtin "BaseException.__getattribute__"))
  gg : findIn K (.ref C) "__getattr__" = some none
  noN : findIn K (.ref C) "circle" = some none
  iC : findIn K (.ref C) "__init__" = some (some (.ref fI))
  tC : typeIn K (.ref fI) = some (.type "function")
  kC : keepIn K (.ref C) = true
  exC : subIn K (.ref C) (.type "BaseException") = some true
  tyC : typeIn K (.ref C) = some (.type "type")
  hdC : hasDictIn K C = true
  te : exmOne K (.ref C) (.ref C) = some true
  fn : ∃ (oc : Value) (od : Option Addr) (doc pm : Value) (an : Option Addr) (cdv ct : Value) (osl : Array (Option Value)) (p1 p2 q1 q2 q3 q4 : Pos),
    K.lookup fI = some ⟨oc, od, .func (fnOf "__init__" qn (iA p1 p2) (iB q1 q2 q3 q4) iS .none .none doc pm an cdv ct), osl⟩ ∧ codeIn K cdv qn = true
theorem one_size (v : Value) : [v].length ≤ sizeLine := by
  rw [sizeLine_eq]
  exact (by decide : 1 ≤ 16777216)
theorem kept_but {K : Frag} {h h' : Heap} {x : Addr} (X : K.In h) (hx : K.lookup x = none) (k : ∀ b o, b ≠ x → h.get? b = some o → h'.get? b = some o) : K.In h' := fun a o e =>
  k a o (fun z => by rw [z, hx] at e; cases e) (X a o e)
theorem ldC {M : Model} {s : Shared} {name : Str} {scope : Scope} {L a : Addr} {cd : Value} {m : Str → Option Value} {x : Str} {pos : Pos} {v : Value} {Q : Value → Shared → Prop} {A : Around} {E : Value → Shared → Prop} (hn : s.heap.Ns L m) (hv : m x = some v) (h : Q v s)
    (hk : scope.kind = .function := by rfl) (hl : (envOfC name scope L a cd).kindOf x = some .local := by rfl) (hd : (x == ("__debug__" : Str)) = false := by decide) :
    wpAny M A (eval (.Name x pos) (envOfC name scope L a cd)) Q E s := wpAny_Name (wpAny_loadName_local hk hl hn hv h) hd
/-- what __init__ leaves of a fresh exception at x -/
structure InitEnd (h h' : Heap) (x C dx t1 : Addr) (v : Value) : Prop where
  keep : ∀ b o, b ≠ x → h.get? b = some o → h'.get? b = some o
  obj : h'.get? x = some { cls := .ref C, dict := some dx, data := .fields #[.ref t1, .none, .none, .none, .bool false, .none] }
  dbig : h.objs.size ≤ dx
  dne : dx ≠ x
  ns : h'.Ns1 dx (fun y => if y = "circle" then some v else none)
/-- a made Low -/
structure OwnMade (h h' : Heap) (e C d : Addr) (v : Value) : Prop where
  keep : ∀ b o, h.get? b = some o → h'.get? b = some o
  new : h.objs.size ≤ e
  obj : ∃ oe vs, h'.get? e = some oe ∧ oe.cls = .ref C ∧ oe.dict = some d ∧ oe.data = .fields vs ∧ vs[1]? = some .none
  dbig : h.objs.size ≤ d
  dne : d ≠ e
  ns : h'.Ns1 d (fun y => if y = "circle" then some v else none)
section
variable {prog : Program} {w : World} {A : Around} {E : Value → Shared → Prop} {R : Result → Shared → Prop} {s : Shared} {K : Frag} {mg : Str → Option Value} {nm : Str} {qn : String} {C fI : Addr}
theorem low_init (T : LowTxt K mg nm qn C fI) {x t0 : Addr} {v : Value} (X : K.In s.heap) (hlim : s.heap.NoLimit) (hx : s.heap.get? x = some (excO C t0)) (hnx : K.lookup x = none) (hroom : A.depth < recursionLimit)
    (hq : ∀ h' tk dx, InitEnd s.heap h' x C dx t0 v → R (.ok (.ret .none)) { s with heap := h', toks := tk }) :
    codeAny (model prog w) A (.call (.ref fI) ⟨[.ref x, v], []⟩) R s := by
  obtain ⟨oc, od, doc, pm, an, cdv, ct, osl, p1, p2, q1, q2, q3, q4, ho, hcd⟩ := T.fn
  obtain ⟨nmC, q, N, bs, bm, sn, sub, ab, col, dd, k0, k1, k2, k3, k5, hC, hbm⟩ := T.cls
  have hcl : clsIn K C = some { name := nmC, bases := bs, mro := .ref C :: bm, ns := N, qualname := q, hasDict := true, slotNames := sn, subclasses := sub, abstract := ab, collection := col, hasDel := false } := by unfold clsIn; rw [hC] <;> rfl
  refine Att.call_fn (binds := [("self", .ref x), ("circle", v)]) X hlim ho hcd hroom (BindsTo.of_eq (by first | rfl | with_unfolding_all rfl)) (by first | rfl | decide | with_unfolding_all rfl) (fun s₁ IC => ?_) rfl rfl rfl
  obtain ⟨h₁, tk₁, rfl⟩ := IC.toInCall.same
  have k : ∀ b o, s.heap.get? b = some o → h₁.get? b = some o := IC.toInCall.keep
  have hn := IC.toInCall.ns
  have hxL : s.heap.objs.size ≠ x := Nat.ne_of_gt (Heap.lt_size hx)
  have X₁ : K.In h₁ := X.keeps k
  have hx₁ := k _ _ hx
  -- self.by = by
  show wpAny _ _ (execs _ _) _ _ _
  refine wpAny_execs_cons (plainObj_wpAny_Assign_Attribute ?_)
  refine ldC (v := v) hn (by first | rfl | with_unfolding_all rfl | kernel_rfl) (ldC (v := .ref x) hn (by first | rfl | with_unfolding_all rfl | kernel_rfl) ?_)
  refine set_plain X₁ (ox := excO C t0) (od := none) ⟨hx₁, rfl, rfl, trivial⟩ T.sa ?_
  refine exc_osa X₁ hx₁ hcl (show refsVE (.ref C :: bm) = true from hbm) rfl T.noN (fun h₃ tk₃ dx k₃ dn dne hx₃ hn₃ => ?_)
  show wpAny _ _ (execs _ _) _ _ _
  have z : s.heap.objs.size < h₁.objs.size := hn.lt
  exact wpAny_execs_nil (hq h₃ tk₃ dx ⟨fun b o hb e => k₃ b o hb (k b o e), hx₃, Nat.le_of_lt (Nat.lt_of_lt_of_le z dn), dne, hn₃⟩)
theorem low_made (T : LowTxt K mg nm qn C fI) {v : Value} (X : K.In s.heap) (hlim : s.heap.NoLimit) (hroom : A.depth + 1 < recursionLimit)
    (hq : ∀ h' tk e d, OwnMade s.heap h' e C d v → R (.ok (.ret (.ref e))) { s with heap := h', toks := tk }) :
    codeAny (model prog w) A (.call (.ref C) ⟨[v], []⟩) R s := by
  obtain ⟨nmC, q, N, bs, bm, sn, sub, ab, col, dd, k0, k1, k2, k3, k5, hC, hbm⟩ := T.cls
  obtain ⟨hp, g, dr, tk, os⟩ := s
  have k : ∀ b o, hp.get? b = some o → ((hp.push (kdv_tup [v])).push (excO C hp.objs.size)).get? b = some o := fun b o e => Heap.get?_push_of_some _ (Heap.get?_push_of_some _ e)
  have hget : ((hp.push (kdv_tup [v])).push (excO C hp.objs.size)).get? (hp.objs.size + 1) = some (excO C hp.objs.size) := by heap_get
  have hnx : K.lookup (hp.objs.size + 1) = none := by
    cases e : K.lookup (hp.objs.size + 1) with
    | none => rfl
    | some o =>
      have z : hp.get? (hp.objs.size + 1) = some o := X _ _ e
      exact absurd (Nat.lt_of_succ_lt (Heap.lt_size z)) (Nat.lt_irrefl _)
  refine call_own F.excBase_ValueError (fun X => refsVE_contains X bm hbm) (X _ _ hC) (looks_findIn X T.iC) (fun self => bind_fn X self T.tC) (one_size v) ?_
  refine low_init (s := ⟨(hp.push (kdv_tup [v])).push (excO C hp.objs.size), g, dr, tk, os⟩) T (X.keeps k) (hlim.keeps k) hget hnx ?_ fun h' tk' dx ⟨k', hx, dn, dne, hns⟩ => ?_
  · show A.depth + 1 < recursionLimit
    exact hroom
  · have old : ∀ b o, hp.get? b = some o → h'.get? b = some o := fun b o e => k' b o (Nat.ne_of_lt (Nat.lt_succ_of_lt (Heap.lt_size e))) (k b o e)
    have z : hp.objs.size + 1 + 1 ≤ dx := by
      first
        | (simpa only [Heap.size_push] using dn)
        | exact dn
        | (have q := dn; rw [Heap.size_push, Heap.size_push] at q; exact q)
    exact ⟨rfl, hq h' tk' (hp.objs.size + 1) dx ⟨old, Nat.le_succ _, ⟨_, _, hx, rfl, rfl, rfl, rfl⟩, Nat.le_trans (Nat.le_trans (Nat.le_succ _) (Nat.le_succ _)) z, dne, hns⟩⟩
end
end EzCircle
end PySem
namespace L2
open PySem PySem.Spec PyProof.Rows
theorem relO_circle {v : V} {v' : Value} (r : RelV v v') (f : Str) : RelO (List.lookup f [(("circle" : Str), v)]) (if f = "circle" then some v' else none) := by
  by_cases hw : f = "circle"
  · subst hw
    rw [if_pos rfl]
    have q : List.lookup ("circle" : Str) [(("circle" : Str), v)] = some v := by simp [List.lookup]
    rw [q]
    exact r
  · rw [if_neg hw]
    have qw : (f == ("circle" : Str)) = false := by simpa using hw
    have q2 : List.lookup f [(("circle" : Str), v)] = none := by simp [List.lookup, qw]
    rw [q2]
    trivial
section
variable {X : Cx} {nm : Str} {qn : String} {C fI : Addr}
/-- Low(e) -/
def tMk_circle (C : Addr) (ta : TA) : L2.St → Hp → XK → Prop := fun σ H Q => ta σ H fun vs H1 => ∃ v, vs = [v] ∧ ∀ d, H1 d = none → Q (.ref C) (some d) (upd H1 d (.xd [(("circle" : Str), v)]))
theorem pmk_circle {a : Expr} {ta : TA} {p pos : Pos} {k : Nat} (T : PySem.EzCircle.LowTxt X.K X.mg nm qn C fI) (hr : Room k X.A) (ha : PA X [a] ta) (hg : Gl X nm := by rfl) (hdb : (nm == ("__debug__" : Str)) = false := by decide)
    (he : starEach (a :: []) X.env = (false, eval a X.env) :: starEach [] X.env := by rfl) (hpl : (backTo pos (starEach [] X.env)).any (·.1) = false := by rfl) :
    PMk X (.Call (.Name nm p) [a] [] pos) (tMk_circle C ta) := by
  intro pins s σ H Q I h
  refine wpAny_Call_Name_kw (ld_glob I hg T.gC ?_ hdb)
  refine PySem.W.callWith_K (h₀ := X.base) I.ok.mod.kin T.kC (thn (ha.run pos pins s σ H _ I h) fun us s1 hh => ?_) he hpl
  obtain ⟨vs, H1, I1, r1, v, ev, q1⟩ := hh
  subst ev
  refine ⟨I1.kIn, ?_⟩
  cases r1 with
  | cons rv rn =>
    rename_i v' us'
    cases rn
    show wpAny _ _ (call (.ref C) [v']) _ _ _
    have hlim := I1.nolimit
    obtain ⟨hp, g, dr, tk, os⟩ := s1
    refine wpAny_call (PySem.EzCircle.low_made T I1.kIn hlim (by have := hr.dp; omega) fun h' tk' e d M => ?_)
    show MkP X pins σ Q (.ref e) ⟨h', g, dr, tk', os⟩
    obtain ⟨oe, fv, hoe, hc, hd, hdat, h1⟩ := M.obj
    have hns := M.ns
    obtain ⟨G', g1, g2⟩ := restrict h' fun b => decide (b ≠ e)
    have gk : ∀ b, b ≠ e → G'.get? b = h'.get? b := fun b hb => g1 b (decide_eq_true hb)
    have ge : G'.get? e = none := g2 e (by simp)
    have old : ∀ b o, hp.get? b = some o → G'.get? b = some o := fun b o q => (gk b (Nat.ne_of_lt (Nat.lt_of_lt_of_le (Heap.lt_size q) M.new))).trans (M.keep b o q)
    have ob : ObjOk X.prog X.w (upd H1 d (.xd [(("circle" : Str), v)])) G' d (.xd [(("circle" : Str), v)]) :=
      ⟨_, hns.at (fun o q => (gk d M.dne).trans q), fun f => relO_circle rv f⟩
    have J : Inv X pins σ (upd H1 d (.xd [(("circle" : Str), v)])) ⟨G', g, dr, tk', os⟩ := I1.laid (t' := tk') old M.dbig ob
    refine ⟨e, oe, fv, ⟨G', g, dr, tk', os⟩, _, .ref C, some d, rfl, J, fun b o q => ?_, ge, hoe, ⟨hc, hd⟩, hdat, h1, ?_, rfl, I1.bare, raises_own T.exC T.tyC, q1 d (I1.hok.fresh M.dbig)⟩
    · by_cases hb : b = e
      · have q' : G'.get? b = some o := q
        rw [hb, ge] at q'; cases q'
      · exact (gk b hb).symm.trans q
    · rw [upd_ne (Ne.symm M.dne)]
      exact I1.hok.fresh M.new
/-- raise Low(e) -/
def tRaise_circle (C : Addr) (W : WX) (ta : TA) : TS := fun _ σ H => tMk_circle C ta σ H fun cls d H' => W cls d σ H'
theorem ps_raise_circle {a : Expr} {ta : TA} {W : WX} {p pos pos2 : Pos} {k : Nat} (hc : X.calm = true) (T : PySem.EzCircle.LowTxt X.K X.mg nm qn C fI) (hr : Room k X.A) (tk : Takes X W) (ha : PA X [a] ta) (hg : Gl X nm := by rfl) (hdb : (nm == ("__debug__" : Str)) = false := by decide)
    (he : starEach (a :: []) X.env = (false, eval a X.env) :: starEach [] X.env := by rfl) (hpl : (backTo pos (starEach [] X.env)).any (·.1) = false := by rfl) :
    PS X (.Raise (some (.Call (.Name nm p) [a] [] pos)) none pos2) (tRaise_circle C W ta) := ps_raise hc tk (pmk_circle T hr ha hg hdb he hpl)
/-- low.by, low the exception that the suite holds (at a; its class cls, its dict d) -/
def tBy_circle (C : Addr) (a : Addr) (cls : Value) (d : Option Addr) (te : TE) : TE := fun σ H Q => te σ H fun x H1 => x = .ref a ∧ cls = .ref C ∧ ∃ (dd : Addr) (v : V), d = some dd ∧ H1 dd = some (.xd [(("circle" : Str), v)]) ∧ Q v H1
theorem pe_by_circle {a : Addr} {oe : Obj} {cls : Value} {d : Option Addr} {pn : List (Addr × Obj)} {e : Expr} {te : TE} {pos : Pos} (T : PySem.EzCircle.LowTxt X.K X.mg nm qn C fI) (hz : Zc cls d oe) (hf : ∃ vs, oe.data = .fields vs) (he : PE (X.suite a ((a, oe) :: pn)) e te)
    (hb : attributeBase e "circle" X.env (eval e X.env) = eval e X.env := by rfl) :
    PE (X.suite a ((a, oe) :: pn)) (.Attribute e "circle" pos) (tBy_circle C a cls d te) := by
  refine ⟨fun pins s σ H Q I h => ?_⟩
  refine attr_of hb (thn (he.run pins s σ H _ I h) fun u s1 hh => ?_)
  obtain ⟨x, H1, I1, rx, ex, ec, dd, v, ed, ea, q⟩ := hh
  subst ex
  obtain rfl : u = Value.ref a := rx
  subst ec
  subst ed
  obtain ⟨ha, _⟩ := I1.pin (a, oe) (List.mem_append_left _ List.mem_cons_self)
  obtain ⟨vs, hd⟩ := hf
  have hx : ObjOk X.prog X.w H1 s1.heap dd (.xd [(("circle" : Str), v)]) := I1.hok dd _ ea
  obtain ⟨mA, hns, hr⟩ := hx
  obtain ⟨od, ho, hl⟩ := lookIn_ns hns
  have l : List.lookup ("circle" : Str) [(("circle" : Str), v)] = some v := by simp [List.lookup]
  obtain ⟨u, hu, ru⟩ := RelO.some_of (v := v) (o := mA "circle") (by rw [← l]; exact hr "circle")
  have J : PySem.W.InstAt s1.heap a oe C (some od) := ⟨ha, hz.1, by unfold PySem.W.notCls; rw [hd] <;> rfl, by rw [hz.2]; exact ho⟩
  exact HandSPX.exc_get I1.kIn J T.ga T.gg T.exC (PySem.W.findObj_own T.hdC T.noN rfl (by rw [hl, hu])) (handed_of ru) ⟨v, H1, I1.tok _, ru, q⟩
end
end L2


namespace PySem
namespace EkLetter
open PySem.W PySem.Calls PyProof.Rows PySem.HandSPX
/-! ### the text of __init__ -/
def iA (p1 p2 : Pos) : Arguments := { posonlyargs := [], args := [{ arg := "self", annotation := none, pos := p1 }, { arg := "letter", annotation := none, pos := p2 }], vararg := none, kwonlyargs := [], kw_defaults := [], kwarg := none, defaults := [] }
def iB (q1 q2 q3 q4 : Pos) : List Stmt := [.Assign [.Attribute (.Name "self" q1) "letter" q2] (.Name "letter" q3) q4]
def iS : Scope := { kind := .function, names := [(PySem.Str.ofString "self", .local), (PySem.Str.ofString "letter", .local)], isGenerator := false, isCoroutine := false, more := [] }
/-- what the written part says of Low, at C, and of its __init__, at fI -/
structure LowTxt (K : Frag) (mg : Str → Option Value) (nm : Str) (qn : String) (C fI : Addr) : Prop where
  gC : mg nm = some (.ref C)
  cls : ∃ nmC q N bs bm sn sub ab col dd k0 k1 k2 k3 k5, K.lookup C = some (excClassObj nmC q C N bs bm true sn sub ab col dd k0 k1 k2 k3 k5 "LookupError.__new__") ∧ Xk.ovB bm = true
  sa : findIn K (.ref C) "__setattr__" = some (some (.builtin "object.__setattr__"))
  ga : findIn K (.ref C) "__getattribute__" = some (some (.builtin "BaseException.__getattribute__"))
  gg : findIn K (.ref C) "__getattr__" = some none
  noN : findIn K (.ref C) "letter" = some none
  iC : findIn K (.ref C) "__init__" = some (some (.ref fI))
  tC : typeIn K (.ref fI) = some (.type "function")
  kC : keepIn K (.ref C) = true
  exC : subIn K (.ref C) (.type "BaseException") = some true
  tyC : typeIn K (.ref C) = some (.type "type")
  hdC : hasDictIn K C = true
  te : exmOne K (.ref C) (.ref C) = some true
  fn : ∃ (oc : Value) (od : Option Addr) (doc pm : Value) (an : Option Addr) (cdv ct : Value) (osl : Array (Option Value)) (p1 p2 q1 q2 q3 q4 : Pos),
    K.lookup fI = some ⟨oc, od, .func (fnOf "__init__" qn (iA p1 p2) (iB q1 q2 q3 q4) iS .none .none doc pm an cdv ct), osl⟩ ∧ codeIn K cdv qn = true
theorem one_size (v : Value) : [v].length ≤ sizeLine := by
  rw [sizeLine_eq]
  exact (by decide : 1 ≤ 16777216)
theorem kept_but {K : Frag} {h h' : Heap} {x : Addr} (X : K.In h) (hx : K.lookup x = none) (k : ∀ b o, b ≠ x → h.get? b = some o → h'.get? b = some o) : K.In h' := fun a o e =>
  k a o (fun z => by rw [z, hx] at e; cases e) (X a o e)
theorem ldC {M : Model} {s : Shared} {name : Str} {scope : Scope} {L a : Addr} {cd : Value} {m : Str → Option Value} {x : Str} {pos : Pos} {v : Value} {Q : Value → Shared → Prop} {A : Around} {E : Value → Shared → Prop} (hn : s.heap.Ns L m) (hv : m x = some v) (h : Q v s)
    (hk : scope.kind = .function := by rfl) (hl : (envOfC name scope L a cd).kindOf x = some .local := by rfl) (hd : (x == ("__debug__" : Str)) = false := by decide) :
    wpAny M A (eval (.Name x pos) (envOfC name scope L a cd)) Q E s := wpAny_Name (wpAny_loadName_local hk hl hn hv h) hd
/-- what __init__ leaves of a fresh exception at x -/
structure InitEnd (h h' : Heap) (x C dx t1 : Addr) (v : Value) : Prop where
  keep : ∀ b o, b ≠ x → h.get? b = some o → h'.get? b = some o
  obj : h'.get? x = some { cls := .ref C, dict := some dx, data := .fields #[.ref t1, .none, .none, .none, .bool false, .none] }
  dbig : h.objs.size ≤ dx
  dne : dx ≠ x
  ns : h'.Ns1 dx (fun y => if y = "letter" then some v else none)
/-- a made Low -/
structure OwnMade (h h' : Heap) (e C d : Addr) (v : Value) : Prop where
  keep : ∀ b o, h.get? b = some o → h'.get? b = some o
  new : h.objs.size ≤ e
  obj : ∃ oe vs, h'.get? e = some oe ∧ oe.cls = .ref C ∧ oe.dict = some d ∧ oe.data = .fields vs ∧ vs[1]? = some .none
  dbig : h.objs.size ≤ d
  dne : d ≠ e
  ns : h'.Ns1 d (fun y => if y = "letter" then some v else none)
section
variable {prog : Program} {w : World} {A : Around} {E : Value → Shared → Prop} {R : Result → Shared → Prop} {s : Shared} {K : Frag} {mg : Str → Option Value} {nm : Str} {qn : String} {C fI : Addr}
theorem low_init (T : LowTxt K mg nm qn C fI) {x t0 : Addr} {v : Value} (X : K.In s.heap) (hlim : s.heap.NoLimit) (hx : s.heap.get? x = some (excO C t0)) (hnx : K.lookup x = none) (hroom : A.depth < recursionLimit)
    (hq : ∀ h' tk dx, InitEnd s.heap h' x C dx t0 v → R (.ok (.ret .none)) { s with heap := h', toks := tk }) :
    codeAny (model prog w) A (.call (.ref fI) ⟨[.ref x, v], []⟩) R s := by
  obtain ⟨oc, od, doc, pm, an, cdv, ct, osl, p1, p2, q1, q2, q3, q4, ho, hcd⟩ := T.fn
  obtain ⟨nmC, q, N, bs, bm, sn, sub, ab, col, dd, k0, k1, k2, k3, k5, hC, hbm⟩ := T.cls
  have hcl : clsIn K C = some { name := nmC, bases := bs, mro := .ref C :: bm, ns := N, qualname := q, hasDict := true, slotNames := sn, subclasses := sub, abstract := ab, collection := col, hasDel := false } := by unfold clsIn; rw [hC] <;> rfl
  refine Att.call_fn (binds := [("self", .ref x), ("letter", v)]) X hlim ho hcd hroom (BindsTo.of_eq (by first | rfl | with_unfolding_all rfl)) (by first | rfl | decide | with_unfolding_all rfl) (fun s₁ IC => ?_) rfl rfl rfl
  obtain ⟨h₁, tk₁, rfl⟩ := IC.toInCall.same
  have k : ∀ b o, s.heap.get? b = some o → h₁.get? b = some o := IC.toInCall.keep
  have hn := IC.toInCall.ns
  have hxL : s.heap.objs.size ≠ x := Nat.ne_of_gt (Heap.lt_size hx)
  have X₁ : K.In h₁ := X.keeps k
  have hx₁ := k _ _ hx
  -- self.by = by
  show wpAny _ _ (execs _ _) _ _ _
  refine wpAny_execs_cons (plainObj_wpAny_Assign_Attribute ?_)
  refine ldC (v := v) hn (by first | rfl | with_unfolding_all rfl | kernel_rfl) (ldC (v := .ref x) hn (by first | rfl | with_unfolding_all rfl | kernel_rfl) ?_)
  refine set_plain X₁ (ox := excO C t0) (od := none) ⟨hx₁, rfl, rfl, trivial⟩ T.sa ?_
  refine Xk.osaK X₁ hx₁ hcl ((Xk.ov_of hbm).cons C) rfl T.noN (fun h₃ tk₃ dx k₃ dn dne hx₃ hn₃ => ?_)
  show wpAny _ _ (execs _ _) _ _ _
  have z : s.heap.objs.size < h₁.objs.size := hn.lt
  exact wpAny_execs_nil (hq h₃ tk₃ dx ⟨fun b o hb e => k₃ b o hb (k b o e), hx₃, Nat.le_of_lt (Nat.lt_of_lt_of_le z dn), dne, hn₃⟩)
theorem low_made (T : LowTxt K mg nm qn C fI) {v : Value} (X : K.In s.heap) (hlim : s.heap.NoLimit) (hroom : A.depth + 1 < recursionLimit)
    (hq : ∀ h' tk e d, OwnMade s.heap h' e C d v → R (.ok (.ret (.ref e))) { s with heap := h', toks := tk }) :
    codeAny (model prog w) A (.call (.ref C) ⟨[v], []⟩) R s := by
  obtain ⟨nmC, q, N, bs, bm, sn, sub, ab, col, dd, k0, k1, k2, k3, k5, hC, hbm⟩ := T.cls
  obtain ⟨hp, g, dr, tk, os⟩ := s
  have k : ∀ b o, hp.get? b = some o → ((hp.push (kdv_tup [v])).push (excO C hp.objs.size)).get? b = some o := fun b o e => Heap.get?_push_of_some _ (Heap.get?_push_of_some _ e)
  have hget : ((hp.push (kdv_tup [v])).push (excO C hp.objs.size)).get? (hp.objs.size + 1) = some (excO C hp.objs.size) := by heap_get
  have hnx : K.lookup (hp.objs.size + 1) = none := by
    cases e : K.lookup (hp.objs.size + 1) with
    | none => rfl
    | some o =>
      have z : hp.get? (hp.objs.size + 1) = some o := X _ _ e
      exact absurd (Nat.lt_of_succ_lt (Heap.lt_size z)) (Nat.lt_irrefl _)
  refine Xk.callK (Xk.ov_of hbm) (X _ _ hC) (looks_findIn X T.iC) (fun self => bind_fn X self T.tC) (one_size v) ?_
  refine low_init (s := ⟨(hp.push (kdv_tup [v])).push (excO C hp.objs.size), g, dr, tk, os⟩) T (X.keeps k) (hlim.keeps k) hget hnx ?_ fun h' tk' dx ⟨k', hx, dn, dne, hns⟩ => ?_
  · show A.depth + 1 < recursionLimit
    exact hroom
  · have old : ∀ b o, hp.get? b = some o → h'.get? b = some o := fun b o e => k' b o (Nat.ne_of_lt (Nat.lt_succ_of_lt (Heap.lt_size e))) (k b o e)
    have z : hp.objs.size + 1 + 1 ≤ dx := by
      first
        | (simpa only [Heap.size_push] using dn)
        | exact dn
        | (have q := dn; rw [Heap.size_push, Heap.size_push] at q; exact q)
    exact ⟨rfl, hq h' tk' (hp.objs.size + 1) dx ⟨old, Nat.le_succ _, ⟨_, _, hx, rfl, rfl, rfl, rfl⟩, Nat.le_trans (Nat.le_trans (Nat.le_succ _) (Nat.le_succ _)) z, dne, hns⟩⟩
end
end EkLetter
end PySem
namespace L2
open PySem PySem.Spec PyProof.Rows
theorem relO_letterK {v : V} {v' : Value} (r : RelV v v') (f : Str) : RelO (List.lookup f [(("letter" : Str), v)]) (if f = "letter" then some v' else none) := by
  by_cases hw : f = "letter"
  · subst hw
    rw [if_pos rfl]
    have q : List.lookup ("letter" : Str) [(("letter" : Str), v)] = some v := by simp [List.lookup]
    rw [q]
    exact r
  · rw [if_neg hw]
    have qw : (f == ("letter" : Str)) = false := by simpa using hw
    have q2 : List.lookup f [(("letter" : Str), v)] = none := by simp [List.lookup, qw]
    rw [q2]
    trivial
section
variable {X : Cx} {nm : Str} {qn : String} {C fI : Addr}
/-- Low(e) -/
def tMk_letterK (C : Addr) (ta : TA) : L2.St → Hp → XK → Prop := fun σ H Q => ta σ H fun vs H1 => ∃ v, vs = [v] ∧ ∀ d, H1 d = none → Q (.ref C) (some d) (upd H1 d (.xd [(("letter" : Str), v)]))
theorem pmk_letterK {a : Expr} {ta : TA} {p pos : Pos} {k : Nat} (T : PySem.EkLetter.LowTxt X.K X.mg nm qn C fI) (hr : Room k X.A) (ha : PA X [a] ta) (hg : Gl X nm := by rfl) (hdb : (nm == ("__debug__" : Str)) = false := by decide)
    (he : starEach (a :: []) X.env = (false, eval a X.env) :: starEach [] X.env := by rfl) (hpl : (backTo pos (starEach [] X.env)).any (·.1) = false := by rfl) :
    PMk X (.Call (.Name nm p) [a] [] pos) (tMk_letterK C ta) := by
  intro pins s σ H Q I h
  refine wpAny_Call_Name_kw (ld_glob I hg T.gC ?_ hdb)
  refine PySem.W.callWith_K (h₀ := X.base) I.ok.mod.kin T.kC (thn (ha.run pos pins s σ H _ I h) fun us s1 hh => ?_) he hpl
  obtain ⟨vs, H1, I1, r1, v, ev, q1⟩ := hh
  subst ev
  refine ⟨I1.kIn, ?_⟩
  cases r1 with
  | cons rv rn =>
    rename_i v' us'
    cases rn
    show wpAny _ _ (call (.ref C) [v']) _ _ _
    have hlim := I1.nolimit
    obtain ⟨hp, g, dr, tk, os⟩ := s1
    refine wpAny_call (PySem.EkLetter.low_made T I1.kIn hlim (by have := hr.dp; omega) fun h' tk' e d M => ?_)
    show MkP X pins σ Q (.ref e) ⟨h', g, dr, tk', os⟩
    obtain ⟨oe, fv, hoe, hc, hd, hdat, h1⟩ := M.obj
    have hns := M.ns
    obtain ⟨G', g1, g2⟩ := restrict h' fun b => decide (b ≠ e)
    have gk : ∀ b, b ≠ e → G'.get? b = h'.get? b := fun b hb => g1 b (decide_eq_true hb)
    have ge : G'.get? e = none := g2 e (by simp)
    have old : ∀ b o, hp.get? b = some o → G'.get? b = some o := fun b o q => (gk b (Nat.ne_of_lt (Nat.lt_of_lt_of_le (Heap.lt_size q) M.new))).trans (M.keep b o q)
    have ob : ObjOk X.prog X.w (upd H1 d (.xd [(("letter" : Str), v)])) G' d (.xd [(("letter" : Str), v)]) :=
      ⟨_, hns.at (fun o q => (gk d M.dne).trans q), fun f => relO_letterK rv f⟩
    have J : Inv X pins σ (upd H1 d (.xd [(("letter" : Str), v)])) ⟨G', g, dr, tk', os⟩ := I1.laid (t' := tk') old M.dbig ob
    refine ⟨e, oe, fv, ⟨G', g, dr, tk', os⟩, _, .ref C, some d, rfl, J, fun b o q => ?_, ge, hoe, ⟨hc, hd⟩, hdat, h1, ?_, rfl, I1.bare, raises_own T.exC T.tyC, q1 d (I1.hok.fresh M.dbig)⟩
    · by_cases hb : b = e
      · have q' : G'.get? b = some o := q
        rw [hb, ge] at q'; cases q'
      · exact (gk b hb).symm.trans q
    · rw [upd_ne (Ne.symm M.dne)]
      exact I1.hok.fresh M.new
/-- raise Low(e) -/
def tRaise_letterK (C : Addr) (W : WX) (ta : TA) : TS := fun _ σ H => tMk_letterK C ta σ H fun cls d H' => W cls d σ H'
theorem ps_raise_letterK {a : Expr} {ta : TA} {W : WX} {p pos pos2 : Pos} {k : Nat} (hc : X.calm = true) (T : PySem.EkLetter.LowTxt X.K X.mg nm qn C fI) (hr : Room k X.A) (tk : Takes X W) (ha : PA X [a] ta) (hg : Gl X nm := by rfl) (hdb : (nm == ("__debug__" : Str)) = false := by decide)
    (he : starEach (a :: []) X.env = (false, eval a X.env) :: starEach [] X.env := by rfl) (hpl : (backTo pos (starEach [] X.env)).any (·.1) = false := by rfl) :
    PS X (.Raise (some (.Call (.Name nm p) [a] [] pos)) none pos2) (tRaise_letterK C W ta) := ps_raise hc tk (pmk_letterK T hr ha hg hdb he hpl)
/-- low.by, low the exception that the suite holds (at a; its class cls, its dict d) -/
def tBy_letterK (C : Addr) (a : Addr) (cls : Value) (d : Option Addr) (te : TE) : TE := fun σ H Q => te σ H fun x H1 => x = .ref a ∧ cls = .ref C ∧ ∃ (dd : Addr) (v : V), d = some dd ∧ H1 dd = some (.xd [(("letter" : Str), v)]) ∧ Q v H1
theorem pe_by_letterK {a : Addr} {oe : Obj} {cls : Value} {d : Option Addr} {pn : List (Addr × Obj)} {e : Expr} {te : TE} {pos : Pos} (T : PySem.EkLetter.LowTxt X.K X.mg nm qn C fI) (hz : Zc cls d oe) (hf : ∃ vs, oe.data = .fields vs) (he : PE (X.suite a ((a, oe) :: pn)) e te)
    (hb : attributeBase e "letter" X.env (eval e X.env) = eval e X.env := by rfl) :
    PE (X.suite a ((a, oe) :: pn)) (.Attribute e "letter" pos) (tBy_letterK C a cls d te) := by
  refine ⟨fun pins s σ H Q I h => ?_⟩
  refine attr_of hb (thn (he.run pins s σ H _ I h) fun u s1 hh => ?_)
  obtain ⟨x, H1, I1, rx, ex, ec, dd, v, ed, ea, q⟩ := hh
  subst ex
  obtain rfl : u = Value.ref a := rx
  subst ec
  subst ed
  obtain ⟨ha, _⟩ := I1.pin (a, oe) (List.mem_append_left _ List.mem_cons_self)
  obtain ⟨vs, hd⟩ := hf
  have hx : ObjOk X.prog X.w H1 s1.heap dd (.xd [(("letter" : Str), v)]) := I1.hok dd _ ea
  obtain ⟨mA, hns, hr⟩ := hx
  obtain ⟨od, ho, hl⟩ := lookIn_ns hns
  have l : List.lookup ("letter" : Str) [(("letter" : Str), v)] = some v := by simp [List.lookup]
  obtain ⟨u, hu, ru⟩ := RelO.some_of (v := v) (o := mA "letter") (by rw [← l]; exact hr "letter")
  have J : PySem.W.InstAt s1.heap a oe C (some od) := ⟨ha, hz.1, by unfold PySem.W.notCls; rw [hd] <;> rfl, by rw [hz.2]; exact ho⟩
  exact HandSPX.exc_get I1.kIn J T.ga T.gg T.exC (PySem.W.findObj_own T.hdC T.noN rfl (by rw [hl, hu])) (handed_of ru) ⟨v, H1, I1.tok _, ru, q⟩
end
end L2

namespace PySem
namespace EkNumber
open PySem.W PySem.Calls PyProof.Rows PySem.HandSPX
/-! ### the text of __init__ -/
def iA (p1 p2 : Pos) : Arguments := { posonlyargs := [], args := [{ arg := "self", annotation := none, pos := p1 }, { arg := "number", annotation := none, pos := p2 }], vararg := none, kwonlyargs := [], kw_defaults := [], kwarg := none, defaults := [] }
def iB (q1 q2 q3 q4 : Pos) : List Stmt := [.Assign [.Attribute (.Name "self" q1) "number" q2] (.Name "number" q3) q4]
def iS : Scope := { kind := .function, names := [(PySem.Str.ofString "self", .local), (PySem.Str.ofString "number", .local)], isGenerator := false, isCoroutine := false, more := [] }
/-- what the written part says of Low, at C, and of its __init__, at fI -/
structure LowTxt (K : Frag) (mg : Str → Option Value) (nm : Str) (qn : String) (C fI : Addr) : Prop where
  gC : mg nm = some (.ref C)
  cls : ∃ nmC q N bs bm sn sub ab col dd k0 k1 k2 k3 k5, K.lookup C = some (excClassObj nmC q C N bs bm true sn sub ab col dd k0 k1 k2 k3 k5 "LookupError.__new__") ∧ Xk.ovB bm = true
  sa : findIn K (.ref C) "__setattr__" = some (some (.builtin "object.__setattr__"))
  ga : findIn K (.ref C) "__getattribute__" = some (some (.builtin "BaseException.__getattribute__"))
  gg : findIn K (.ref C) "__getattr__" = some none
  noN : findIn K (.ref C) "number" = some none
  iC : findIn K (.ref C) "__init__" = some (some (.ref fI))
  tC : typeIn K (.ref fI) = some (.type "function")
  kC : keepIn K (.ref C) = true
  exC : subIn K (.ref C) (.type "BaseException") = some true
  tyC : typeIn K (.ref C) = some (.type "type")
  hdC : hasDictIn K C = true
  te : exmOne K (.ref C) (.ref C) = some true
  fn : ∃ (oc : Value) (od : Option Addr) (doc pm : Value) (an : Option Addr) (cdv ct : Value) (osl : Array (Option Value)) (p1 p2 q1 q2 q3 q4 : Pos),
    K.lookup fI = some ⟨oc, od, .func (fnOf "__init__" qn (iA p1 p2) (iB q1 q2 q3 q4) iS .none .none doc pm an cdv ct), osl⟩ ∧ codeIn K cdv qn = true
theorem one_size (v : Value) : [v].length ≤ sizeLine := by
  rw [sizeLine_eq]
  exact (by decide : 1 ≤ 16777216)
theorem kept_but {K : Frag} {h h' : Heap} {x : Addr} (X : K.In h) (hx : K.lookup x = none) (k : ∀ b o, b ≠ x → h.get? b = some o → h'.get? b = some o) : K.In h' := fun a o e =>
  k a o (fun z => by rw [z, hx] at e; cases e) (X a o e)
theorem ldC {M : Model} {s : Shared} {name : Str} {scope : Scope} {L a : Addr} {cd : Value} {m : Str → Option Value} {x : Str} {pos : Pos} {v : Value} {Q : Value → Shared → Prop} {A : Around} {E : Value → Shared → Prop} (hn : s.heap.Ns L m) (hv : m x = some v) (h : Q v s)
    (hk : scope.kind = .function := by rfl) (hl : (envOfC name scope L a cd).kindOf x = some .local := by rfl) (hd : (x == ("__debug__" : Str)) = false := by decide) :
    wpAny M A (eval (.Name x pos) (envOfC name scope L a cd)) Q E s := wpAny_Name (wpAny_loadName_local hk hl hn hv h) hd
/-- what __init__ leaves of a fresh exception at x -/
structure InitEnd (h h' : Heap) (x C dx t1 : Addr) (v : Value) : Prop where
  keep : ∀ b o, b ≠ x → h.get? b = some o → h'.get? b = some o
  obj : h'.get? x = some { cls := .ref C, dict := some dx, data := .fields #[.ref t1, .none, .none, .none, .bool false, .none] }
  dbig : h.objs.size ≤ dx
  dne : dx ≠ x
  ns : h'.Ns1 dx (fun y => if y = "number" then some v else none)
/-- a made Low -/
structure OwnMade (h h' : Heap) (e C d : Addr) (v : Value) : Prop where
  keep : ∀ b o, h.get? b = some o → h'.get? b = some o
  new : h.objs.size ≤ e
  obj : ∃ oe vs, h'.get? e = some oe ∧ oe.cls = .ref C ∧ oe.dict = some d ∧ oe.data = .fields vs ∧ vs[1]? = some .none
  dbig : h.objs.size ≤ d
  dne : d ≠ e
  ns : h'.Ns1 d (fun y => if y = "number" then some v else none)
section
variable {prog : Program} {w : World} {A : Around} {E : Value → Shared → Prop} {R : Result → Shared → Prop} {s : Shared} {K : Frag} {mg : Str → Option Value} {nm : Str} {qn : String} {C fI : Addr}
theorem low_init (T : LowTxt K mg nm qn C fI) {x t0 : Addr} {v : Value} (X : K.In s.heap) (hlim : s.heap.NoLimit) (hx : s.heap.get? x = some (excO C t0)) (hnx : K.lookup x = none) (hroom : A.depth < recursionLimit)
    (hq : ∀ h' tk dx, InitEnd s.heap h' x C dx t0 v → R (.ok (.ret .none)) { s with heap := h', toks := tk }) :
    codeAny (model prog w) A (.call (.ref fI) ⟨[.ref x, v], []⟩) R s := by
  obtain ⟨oc, od, doc, pm, an, cdv, ct, osl, p1, p2, q1, q2, q3, q4, ho, hcd⟩ := T.fn
  obtain ⟨nmC, q, N, bs, bm, sn, sub, ab, col, dd, k0, k1, k2, k3, k5, hC, hbm⟩ := T.cls
  have hcl : clsIn K C = some { name := nmC, bases := bs, mro := .ref C :: bm, ns := N, qualname := q, hasDict := true, slotNames := sn, subclasses := sub, abstract := ab, collection := col, hasDel := false } := by unfold clsIn; rw [hC] <;> rfl
  refine Att.call_fn (binds := [("self", .ref x), ("number", v)]) X hlim ho hcd hroom (BindsTo.of_eq (by first | rfl | with_unfolding_all rfl)) (by first | rfl | decide | with_unfolding_all rfl) (fun s₁ IC => ?_) rfl rfl rfl
  obtain ⟨h₁, tk₁, rfl⟩ := IC.toInCall.same
  have k : ∀ b o, s.heap.get? b = some o → h₁.get? b = some o := IC.toInCall.keep
  have hn := IC.toInCall.ns
  have hxL : s.heap.objs.size ≠ x := Nat.ne_of_gt (Heap.lt_size hx)
  have X₁ : K.In h₁ := X.keeps k
  have hx₁ := k _ _ hx
  -- self.by = by
  show wpAny _ _ (execs _ _) _ _ _
  refine wpAny_execs_cons (plainObj_wpAny_Assign_Attribute ?_)
  refine ldC (v := v) hn (by first | rfl | with_unfolding_all rfl | kernel_rfl) (ldC (v := .ref x) hn (by first | rfl | with_unfolding_all rfl | kernel_rfl) ?_)
  refine set_plain X₁ (ox := excO C t0) (od := none) ⟨hx₁, rfl, rfl, trivial⟩ T.sa ?_
  refine Xk.osaK X₁ hx₁ hcl ((Xk.ov_of hbm).cons C) rfl T.noN (fun h₃ tk₃ dx k₃ dn dne hx₃ hn₃ => ?_)
  show wpAny _ _ (execs _ _) _ _ _
  have z : s.heap.objs.size < h₁.objs.size := hn.lt
  exact wpAny_execs_nil (hq h₃ tk₃ dx ⟨fun b o hb e => k₃ b o hb (k b o e), hx₃, Nat.le_of_lt (Nat.lt_of_lt_of_le z dn), dne, hn₃⟩)
theorem low_made (T : LowTxt K mg nm qn C fI) {v : Value} (X : K.In s.heap) (hlim : s.heap.NoLimit) (hroom : A.depth + 1 < recursionLimit)
    (hq : ∀ h' tk e d, OwnMade s.heap h' e C d v → R (.ok (.ret (.ref e))) { s with heap := h', toks := tk }) :
    codeAny (model prog w) A (.call (.ref C) ⟨[v], []⟩) R s := by
  obtain ⟨nmC, q, N, bs, bm, sn, sub, ab, col, dd, k0, k1, k2, k3, k5, hC, hbm⟩ := T.cls
  obtain ⟨hp, g, dr, tk, os⟩ := s
  have k : ∀ b o, hp.get? b = some o → ((hp.push (kdv_tup [v])).push (excO C hp.objs.size)).get? b = some o := fun b o e => Heap.get?_push_of_some _ (Heap.get?_push_of_some _ e)
  have hget : ((hp.push (kdv_tup [v])).push (excO C hp.objs.size)).get? (hp.objs.size + 1) = some (excO C hp.objs.size) := by heap_get
  have hnx : K.lookup (hp.objs.size + 1) = none := by
    cases e : K.lookup (hp.objs.size + 1) with
    | none => rfl
    | some o =>
      have z : hp.get? (hp.objs.size + 1) = some o := X _ _ e
      exact absurd (Nat.lt_of_succ_lt (Heap.lt_size z)) (Nat.lt_irrefl _)
  refine Xk.callK (Xk.ov_of hbm) (X _ _ hC) (looks_findIn X T.iC) (fun self => bind_fn X self T.tC) (one_size v) ?_
  refine low_init (s := ⟨(hp.push (kdv_tup [v])).push (excO C hp.objs.size), g, dr, tk, os⟩) T (X.keeps k) (hlim.keeps k) hget hnx ?_ fun h' tk' dx ⟨k', hx, dn, dne, hns⟩ => ?_
  · show A.depth + 1 < recursionLimit
    exact hroom
  · have old : ∀ b o, hp.get? b = some o → h'.get? b = some o := fun b o e => k' b o (Nat.ne_of_lt (Nat.lt_succ_of_lt (Heap.lt_size e))) (k b o e)
    have z : hp.objs.size + 1 + 1 ≤ dx := by
      first
        | (simpa only [Heap.size_push] using dn)
        | exact dn
        | (have q := dn; rw [Heap.size_push, Heap.size_push] at q; exact q)
    exact ⟨rfl, hq h' tk' (hp.objs.size + 1) dx ⟨old, Nat.le_succ _, ⟨_, _, hx, rfl, rfl, rfl, rfl⟩, Nat.le_trans (Nat.le_trans (Nat.le_succ _) (Nat.le_succ _)) z, dne, hns⟩⟩
end
end EkNumber
end PySem
namespace L2
open PySem PySem.Spec PyProof.Rows
theorem relO_numberK {v : V} {v' : Value} (r : RelV v v') (f : Str) : RelO (List.lookup f [(("number" : Str), v)]) (if f = "number" then some v' else none) := by
  by_cases hw : f = "number"
  · subst hw
    rw [if_pos rfl]
    have q : List.lookup ("number" : Str) [(("number" : Str), v)] = some v := by simp [List.lookup]
    rw [q]
    exact r
  · rw [if_neg hw]
    have qw : (f == ("number" : Str)) = false := by simpa using hw
    have q2 : List.lookup f [(("number" : Str), v)] = none := by simp [List.lookup, qw]
    rw [q2]
    trivial
section
variable {X : Cx} {nm : Str} {qn : String} {C fI : Addr}
/-- Low(e) -/
def tMk_numberK (C : Addr) (ta : TA) : L2.St → Hp → XK → Prop := fun σ H Q => ta σ H fun vs H1 => ∃ v, vs = [v] ∧ ∀ d, H1 d = none → Q (.ref C) (some d) (upd H1 d (.xd [(("number" : Str), v)]))
theorem pmk_numberK {a : Expr} {ta : TA} {p pos : Pos} {k : Nat} (T : PySem.EkNumber.LowTxt X.K X.mg nm qn C fI) (hr : Room k X.A) (ha : PA X [a] ta) (hg : Gl X nm := by rfl) (hdb : (nm == ("__debug__" : Str)) = false := by decide)
    (he : starEach (a :: []) X.env = (false, eval a X.env) :: starEach [] X.env := by rfl) (hpl : (backTo pos (starEach [] X.env)).any (·.1) = false := by rfl) :
    PMk X (.Call (.Name nm p) [a] [] pos) (tMk_numberK C ta) := by
  intro pins s σ H Q I h
  refine wpAny_Call_Name_kw (ld_glob I hg T.gC ?_ hdb)
  refine PySem.W.callWith_K (h₀ := X.base) I.ok.mod.kin T.kC (thn (ha.run pos pins s σ H _ I h) fun us s1 hh => ?_) he hpl
  obtain ⟨vs, H1, I1, r1, v, ev, q1⟩ := hh
  subst ev
  refine ⟨I1.kIn, ?_⟩
  cases r1 with
  | cons rv rn =>
    rename_i v' us'
    cases rn
    show wpAny _ _ (call (.ref C) [v']) _ _ _
    have hlim := I1.nolimit
    obtain ⟨hp, g, dr, tk, os⟩ := s1
    refine wpAny_call (PySem.EkNumber.low_made T I1.kIn hlim (by have := hr.dp; omega) fun h' tk' e d M => ?_)
    show MkP X pins σ Q (.ref e) ⟨h', g, dr, tk', os⟩
    obtain ⟨oe, fv, hoe, hc, hd, hdat, h1⟩ := M.obj
    have hns := M.ns
    obtain ⟨G', g1, g2⟩ := restrict h' fun b => decide (b ≠ e)
    have gk : ∀ b, b ≠ e → G'.get? b = h'.get? b := fun b hb => g1 b (decide_eq_true hb)
    have ge : G'.get? e = none := g2 e (by simp)
    have old : ∀ b o, hp.get? b = some o → G'.get? b = some o := fun b o q => (gk b (Nat.ne_of_lt (Nat.lt_of_lt_of_le (Heap.lt_size q) M.new))).trans (M.keep b o q)
    have ob : ObjOk X.prog X.w (upd H1 d (.xd [(("number" : Str), v)])) G' d (.xd [(("number" : Str), v)]) :=
      ⟨_, hns.at (fun o q => (gk d M.dne).trans q), fun f => relO_numberK rv f⟩
    have J : Inv X pins σ (upd H1 d (.xd [(("number" : Str), v)])) ⟨G', g, dr, tk', os⟩ := I1.laid (t' := tk') old M.dbig ob
    refine ⟨e, oe, fv, ⟨G', g, dr, tk', os⟩, _, .ref C, some d, rfl, J, fun b o q => ?_, ge, hoe, ⟨hc, hd⟩, hdat, h1, ?_, rfl, I1.bare, raises_own T.exC T.tyC, q1 d (I1.hok.fresh M.dbig)⟩
    · by_cases hb : b = e
      · have q' : G'.get? b = some o := q
        rw [hb, ge] at q'; cases q'
      · exact (gk b hb).symm.trans q
    · rw [upd_ne (Ne.symm M.dne)]
      exact I1.hok.fresh M.new
/-- raise Low(e) -/
def tRaise_numberK (C : Addr) (W : WX) (ta : TA) : TS := fun _ σ H => tMk_numberK C ta σ H fun cls d H' => W cls d σ H'
theorem ps_raise_numberK {a : Expr} {ta : TA} {W : WX} {p pos pos2 : Pos} {k : Nat} (hc : X.calm = true) (T : PySem.EkNumber.LowTxt X.K X.mg nm qn C fI) (hr : Room k X.A) (tk : Takes X W) (ha : PA X [a] ta) (hg : Gl X nm := by rfl) (hdb : (nm == ("__debug__" : Str)) = false := by decide)
    (he : starEach (a :: []) X.env = (false, eval a X.env) :: starEach [] X.env := by rfl) (hpl : (backTo pos (starEach [] X.env)).any (·.1) = false := by rfl) :
    PS X (.Raise (some (.Call (.Name nm p) [a] [] pos)) none pos2) (tRaise_numberK C W ta) := ps_raise hc tk (pmk_numberK T hr ha hg hdb he hpl)
/-- low.by, low the exception that the suite holds (at a; its class cls, its dict d) -/
def tBy_numberK (C : Addr) (a : Addr) (cls : Value) (d : Option Addr) (te : TE) : TE := fun σ H Q => te σ H fun x H1 => x = .ref a ∧ cls = .ref C ∧ ∃ (dd : Addr) (v : V), d = some dd ∧ H1 dd = some (.xd [(("number" : Str), v)]) ∧ Q v H1
theorem pe_by_numberK {a : Addr} {oe : Obj} {cls : Value} {d : Option Addr} {pn : List (Addr × Obj)} {e : Expr} {te : TE} {pos : Pos} (T : PySem.EkNumber.LowTxt X.K X.mg nm qn C fI) (hz : Zc cls d oe) (hf : ∃ vs, oe.data = .fields vs) (he : PE (X.suite a ((a, oe) :: pn)) e te)
    (hb : attributeBase e "number" X.env (eval e X.env) = eval e X.env := by rfl) :
    PE (X.suite a ((a, oe) :: pn)) (.Attribute e "number" pos) (tBy_numberK C a cls d te) := by
  refine ⟨fun pins s σ H Q I h => ?_⟩
  refine attr_of hb (thn (he.run pins s σ H _ I h) fun u s1 hh => ?_)
  obtain ⟨x, H1, I1, rx, ex, ec, dd, v, ed, ea, q⟩ := hh
  subst ex
  obtain rfl : u = Value.ref a := rx
  subst ec
  subst ed
  obtain ⟨ha, _⟩ := I1.pin (a, oe) (List.mem_append_left _ List.mem_cons_self)
  obtain ⟨vs, hd⟩ := hf
  have hx : ObjOk X.prog X.w H1 s1.heap dd (.xd [(("number" : Str), v)]) := I1.hok dd _ ea
  obtain ⟨mA, hns, hr⟩ := hx
  obtain ⟨od, ho, hl⟩ := lookIn_ns hns
  have l : List.lookup ("number" : Str) [(("number" : Str), v)] = some v := by simp [List.lookup]
  obtain ⟨u, hu, ru⟩ := RelO.some_of (v := v) (o := mA "number") (by rw [← l]; exact hr "number")
  have J : PySem.W.InstAt s1.heap a oe C (some od) := ⟨ha, hz.1, by unfold PySem.W.notCls; rw [hd] <;> rfl, by rw [hz.2]; exact ho⟩
  exact HandSPX.exc_get I1.kIn J T.ga T.gg T.exC (PySem.W.findObj_own T.hdC T.noN rfl (by rw [hl, hu])) (handed_of ru) ⟨v, H1, I1.tok _, ru, q⟩
end
end L2

namespace PySem
namespace EkName
open PySem.W PySem.Calls PyProof.Rows PySem.HandSPX
/-! ### the text of __init__ -/
def iA (p1 p2 : Pos) : Arguments := { posonlyargs := [], args := [{ arg := "self", annotation := none, pos := p1 }, { arg := "name", annotation := none, pos := p2 }], vararg := none, kwonlyargs := [], kw_defaults := [], kwarg := none, defaults := [] }
def iB (q1 q2 q3 q4 : Pos) : List Stmt := [.Assign [.Attribute (.Name "self" q1) "name" q2] (.Name "name" q3) q4]
def iS : Scope := { kind := .function, names := [(PySem.Str.ofString "self", .local), (PySem.Str.ofString "name", .local)], isGenerator := false, isCoroutine := false, more := [] }
/-- what the written part says of Low, at C, and of its __init__, at fI -/
structure LowTxt (K : Frag) (mg : Str → Option Value) (nm : Str) (qn : String) (C fI : Addr) : Prop where
  gC : mg nm = some (.ref C)
  cls : ∃ nmC q N bs bm sn sub ab col dd k0 k1 k2 k3 k5, K.lookup C = some (excClassObj nmC q C N bs bm true sn sub ab col dd k0 k1 k2 k3 k5 "LookupError.__new__") ∧ Xk.ovB bm = true
  sa : findIn K (.ref C) "__setattr__" = some (some (.builtin "object.__setattr__"))
  ga : findIn K (.ref C) "__getattribute__" = some (some (.builtin "BaseException.__getattribute__"))
  gg : findIn K (.ref C) "__getattr__" = some none
  noN : findIn K (.ref C) "name" = some none
  iC : findIn K (.ref C) "__init__" = some (some (.ref fI))
  tC : typeIn K (.ref fI) = some (.type "function")
  kC : keepIn K (.ref C) = true
  exC : subIn K (.ref C) (.type "BaseException") = some true
  tyC : typeIn K (.ref C) = some (.type "type")
  hdC : hasDictIn K C = true
  te : exmOne K (.ref C) (.ref C) = some true
  fn : ∃ (oc : Value) (od : Option Addr) (doc pm : Value) (an : Option Addr) (cdv ct : Value) (osl : Array (Option Value)) (p1 p2 q1 q2 q3 q4 : Pos),
    K.lookup fI = some ⟨oc, od, .func (fnOf "__init__" qn (iA p1 p2) (iB q1 q2 q3 q4) iS .none .none doc pm an cdv ct), osl⟩ ∧ codeIn K cdv qn = true
theorem one_size (v : Value) : [v].length ≤ sizeLine := by
  rw [sizeLine_eq]
  exact (by decide : 1 ≤ 16777216)
theorem kept_but {K : Frag} {h h' : Heap} {x : Addr} (X : K.In h) (hx : K.lookup x = none) (k : ∀ b o, b ≠ x → h.get? b = some o → h'.get? b = some o) : K.In h' := fun a o e =>
  k a o (fun z => by rw [z, hx] at e; cases e) (X a o e)
theorem ldC {M : Model} {s : Shared} {name : Str} {scope : Scope} {L a : Addr} {cd : Value} {m : Str → Option Value} {x : Str} {pos : Pos} {v : Value} {Q : Value → Shared → Prop} {A : Around} {E : Value → Shared → Prop} (hn : s.heap.Ns L m) (hv : m x = some v) (h : Q v s)
    (hk : scope.kind = .function := by rfl) (hl : (envOfC name scope L a cd).kindOf x = some .local := by rfl) (hd : (x == ("__debug__" : Str)) = false := by decide) :
    wpAny M A (eval (.Name x pos) (envOfC name scope L a cd)) Q E s := wpAny_Name (wpAny_loadName_local hk hl hn hv h) hd
/-- what __init__ leaves of a fresh exception at x -/
structure InitEnd (h h' : Heap) (x C dx t1 : Addr) (v : Value) : Prop where
  keep : ∀ b o, b ≠ x → h.get? b = some o → h'.get? b = some o
  obj : h'.get? x = some { cls := .ref C, dict := some dx, data := .fields #[.ref t1, .none, .none, .none, .bool false, .none] }
  dbig : h.objs.size ≤ dx
  dne : dx ≠ x
  ns : h'.Ns1 dx (fun y => if y = "name" then some v else none)
/-- a made Low -/
structure OwnMade (h h' : Heap) (e C d : Addr) (v : Value) : Prop where
  keep : ∀ b o, h.get? b = some o → h'.get? b = some o
  new : h.objs.size ≤ e
  obj : ∃ oe vs, h'.get? e = some oe ∧ oe.cls = .ref C ∧ oe.dict = some d ∧ oe.data = .fields vs ∧ vs[1]? = some .none
  dbig : h.objs.size ≤ d
  dne : d ≠ e
  ns : h'.Ns1 d (fun y => if y = "name" then some v else none)
section
variable {prog : Program} {w : World} {A : Around} {E : Value → Shared → Prop} {R : Result → Shared → Prop} {s : Shared} {K : Frag} {mg : Str → Option Value} {nm : Str} {qn : String} {C fI : Addr}
theorem low_init (T : LowTxt K mg nm qn C fI) {x t0 : Addr} {v : Value} (X : K.In s.heap) (hlim : s.heap.NoLimit) (hx : s.heap.get? x = some (excO C t0)) (hnx : K.lookup x = none) (hroom : A.depth < recursionLimit)
    (hq : ∀ h' tk dx, InitEnd s.heap h' x C dx t0 v → R (.ok (.ret .none)) { s with heap := h', toks := tk }) :
    codeAny (model prog w) A (.call (.ref fI) ⟨[.ref x, v], []⟩) R s := by
  obtain ⟨oc, od, doc, pm, an, cdv, ct, osl, p1, p2, q1, q2, q3, q4, ho, hcd⟩ := T.fn
  obtain ⟨nmC, q, N, bs, bm, sn, sub, ab, col, dd, k0, k1, k2, k3, k5, hC, hbm⟩ := T.cls
  have hcl : clsIn K C = some { name := nmC, bases := bs, mro := .ref C :: bm, ns := N, qualname := q, hasDict := true, slotNames := sn, subclasses := sub, abstract := ab, collection := col, hasDel := false } := by unfold clsIn; rw [hC] <;> rfl
  refine Att.call_fn (binds := [("self", .ref x), ("name", v)]) X hlim ho hcd hroom (BindsTo.of_eq (by first | rfl | with_unfolding_all rfl)) (by first | rfl | decide | with_unfolding_all rfl) (fun s₁ IC => ?_) rfl rfl rfl
  obtain ⟨h₁, tk₁, rfl⟩ := IC.toInCall.same
  have k : ∀ b o, s.heap.get? b = some o → h₁.get? b = some o := IC.toInCall.keep
  have hn := IC.toInCall.ns
  have hxL : s.heap.objs.size ≠ x := Nat.ne_of_gt (Heap.lt_size hx)
  have X₁ : K.In h₁ := X.keeps k
  have hx₁ := k _ _ hx
  -- self.by = by
  show wpAny _ _ (execs _ _) _ _ _
  refine wpAny_execs_cons (plainObj_wpAny_Assign_Attribute ?_)
  refine ldC (v := v) hn (by first | rfl | with_unfolding_all rfl | kernel_rfl) (ldC (v := .ref x) hn (by first | rfl | with_unfolding_all rfl | kernel_rfl) ?_)
  refine set_plain X₁ (ox := excO C t0) (od := none) ⟨hx₁, rfl, rfl, trivial⟩ T.sa ?_
  refine Xk.osaK X₁ hx₁ hcl ((Xk.ov_of hbm).cons C) rfl T.noN (fun h₃ tk₃ dx k₃ dn dne hx₃ hn₃ => ?_)
  show wpAny _ _ (execs _ _) _ _ _
  have z : s.heap.objs.size < h₁.objs.size := hn.lt
  exact wpAny_execs_nil (hq h₃ tk₃ dx ⟨fun b o hb e => k₃ b o hb (k b o e), hx₃, Nat.le_of_lt (Nat.lt_of_lt_of_le z dn), dne, hn₃⟩)
theorem low_made (T : LowTxt K mg nm qn C fI) {v : Value} (X : K.In s.heap) (hlim : s.heap.NoLimit) (hroom : A.depth + 1 < recursionLimit)
    (hq : ∀ h' tk e d, OwnMade s.heap h' e C d v → R (.ok (.ret (.ref e))) { s with heap := h', toks := tk }) :
    codeAny (model prog w) A (.call (.ref C) ⟨[v], []⟩) R s := by
  obtain ⟨nmC, q, N, bs, bm, sn, sub, ab, col, dd, k0, k1, k2, k3, k5, hC, hbm⟩ := T.cls
  obtain ⟨hp, g, dr, tk, os⟩ := s
  have k : ∀ b o, hp.get? b = some o → ((hp.push (kdv_tup [v])).push (excO C hp.objs.size)).get? b = some o := fun b o e => Heap.get?_push_of_some _ (Heap.get?_push_of_some _ e)
  have hget : ((hp.push (kdv_tup [v])).push (excO C hp.objs.size)).get? (hp.objs.size + 1) = some (excO C hp.objs.size) := by heap_get
  have hnx : K.lookup (hp.objs.size + 1) = none := by
    cases e : K.lookup (hp.objs.size + 1) with
    | none => rfl
    | some o =>
      have z : hp.get? (hp.objs.size + 1) = some o := X _ _ e
      exact absurd (Nat.lt_of_succ_lt (Heap.lt_size z)) (Nat.lt_irrefl _)
  refine Xk.callK (Xk.ov_of hbm) (X _ _ hC) (looks_findIn X T.iC) (fun self => bind_fn X self T.tC) (one_size v) ?_
  refine low_init (s := ⟨(hp.push (kdv_tup [v])).push (excO C hp.objs.size), g, dr, tk, os⟩) T (X.keeps k) (hlim.keeps k) hget hnx ?_ fun h' tk' dx ⟨k', hx, dn, dne, hns⟩ => ?_
  · show A.depth + 1 < recursionLimit
    exact hroom
  · have old : ∀ b o, hp.get? b = some o → h'.get? b = some o := fun b o e => k' b o (Nat.ne_of_lt (Nat.lt_succ_of_lt (Heap.lt_size e))) (k b o e)
    have z : hp.objs.size + 1 + 1 ≤ dx := by
      first
        | (simpa only [Heap.size_push] using dn)
        | exact dn
        | (have q := dn; rw [Heap.size_push, Heap.size_push] at q; exact q)
    exact ⟨rfl, hq h' tk' (hp.objs.size + 1) dx ⟨old, Nat.le_succ _, ⟨_, _, hx, rfl, rfl, rfl, rfl⟩, Nat.le_trans (Nat.le_trans (Nat.le_succ _) (Nat.le_succ _)) z, dne, hns⟩⟩
end
end EkName
end PySem
namespace L2
open PySem PySem.Spec PyProof.Rows
theorem relO_nameK {v : V} {v' : Value} (r : RelV v v') (f : Str) : RelO (List.lookup f [(("name" : Str), v)]) (if f = "name" then some v' else none) := by
  by_cases hw : f = "name"
  · subst hw
    rw [if_pos rfl]
    have q : List.lookup ("name" : Str) [(("name" : Str), v)] = some v := by simp [List.lookup]
    rw [q]
    exact r
  · rw [if_neg hw]
    have qw : (f == ("name" : Str)) = false := by simpa using hw
    have q2 : List.lookup f [(("name" : Str), v)] = none := by simp [List.lookup, qw]
    rw [q2]
    trivial
section
variable {X : Cx} {nm : Str} {qn : String} {C fI : Addr}
/-- Low(e) -/
def tMk_nameK (C : Addr) (ta : TA) : L2.St → Hp → XK → Prop := fun σ H Q => ta σ H fun vs H1 => ∃ v, vs = [v] ∧ ∀ d, H1 d = none → Q (.ref C) (some d) (upd H1 d (.xd [(("name" : Str), v)]))
theorem pmk_nameK {a : Expr} {ta : TA} {p pos : Pos} {k : Nat} (T : PySem.EkName.LowTxt X.K X.mg nm qn C fI) (hr : Room k X.A) (ha : PA X [a] ta) (hg : Gl X nm := by rfl) (hdb : (nm == ("__debug__" : Str)) = false := by decide)
    (he : starEach (a :: []) X.env = (false, eval a X.env) :: starEach [] X.env := by rfl) (hpl : (backTo pos (starEach [] X.env)).any (·.1) = false := by rfl) :
    PMk X (.Call (.Name nm p) [a] [] pos) (tMk_nameK C ta) := by
  intro pins s σ H Q I h
  refine wpAny_Call_Name_kw (ld_glob I hg T.gC ?_ hdb)
  refine PySem.W.callWith_K (h₀ := X.base) I.ok.mod.kin T.kC (thn (ha.run pos pins s σ H _ I h) fun us s1 hh => ?_) he hpl
  obtain ⟨vs, H1, I1, r1, v, ev, q1⟩ := hh
  subst ev
  refine ⟨I1.kIn, ?_⟩
  cases r1 with
  | cons rv rn =>
    rename_i v' us'
    cases rn
    show wpAny _ _ (call (.ref C) [v']) _ _ _
    have hlim := I1.nolimit
    obtain ⟨hp, g, dr, tk, os⟩ := s1
    refine wpAny_call (PySem.EkName.low_made T I1.kIn hlim (by have := hr.dp; omega) fun h' tk' e d M => ?_)
    show MkP X pins σ Q (.ref e) ⟨h', g, dr, tk', os⟩
    obtain ⟨oe, fv, hoe, hc, hd, hdat, h1⟩ := M.obj
    have hns := M.ns
    obtain ⟨G', g1, g2⟩ := restrict h' fun b => decide (b ≠ e)
    have gk : ∀ b, b ≠ e → G'.get? b = h'.get? b := fun b hb => g1 b (decide_eq_true hb)
    have ge : G'.get? e = none := g2 e (by simp)
    have old : ∀ b o, hp.get? b = some o → G'.get? b = some o := fun b o q => (gk b (Nat.ne_of_lt (Nat.lt_of_lt_of_le (Heap.lt_size q) M.new))).trans (M.keep b o q)
    have ob : ObjOk X.prog X.w (upd H1 d (.xd [(("name" : Str), v)])) G' d (.xd [(("name" : Str), v)]) :=
      ⟨_, hns.at (fun o q => (gk d M.dne).trans q), fun f => relO_nameK rv f⟩
    have J : Inv X pins σ (upd H1 d (.xd [(("name" : Str), v)])) ⟨G', g, dr, tk', os⟩ := I1.laid (t' := tk') old M.dbig ob
    refine ⟨e, oe, fv, ⟨G', g, dr, tk', os⟩, _, .ref C, some d, rfl, J, fun b o q => ?_, ge, hoe, ⟨hc, hd⟩, hdat, h1, ?_, rfl, I1.bare, raises_own T.exC T.tyC, q1 d (I1.hok.fresh M.dbig)⟩
    · by_cases hb : b = e
      · have q' : G'.get? b = some o := q
        rw [hb, ge] at q'; cases q'
      · exact (gk b hb).symm.trans q
    · rw [upd_ne (Ne.symm M.dne)]
      exact I1.hok.fresh M.new
/-- raise Low(e) -/
def tRaise_nameK (C : Addr) (W : WX) (ta : TA) : TS := fun _ σ H => tMk_nameK C ta σ H fun cls d H' => W cls d σ H'
theorem ps_raise_nameK {a : Expr} {ta : TA} {W : WX} {p pos pos2 : Pos} {k : Nat} (hc : X.calm = true) (T : PySem.EkName.LowTxt X.K X.mg nm qn C fI) (hr : Room k X.A) (tk : Takes X W) (ha : PA X [a] ta) (hg : Gl X nm := by rfl) (hdb : (nm == ("__debug__" : Str)) = false := by decide)
    (he : starEach (a :: []) X.env = (false, eval a X.env) :: starEach [] X.env := by rfl) (hpl : (backTo pos (starEach [] X.env)).any (·.1) = false := by rfl) :
    PS X (.Raise (some (.Call (.Name nm p) [a] [] pos)) none pos2) (tRaise_nameK C W ta) := ps_raise hc tk (pmk_nameK T hr ha hg hdb he hpl)
/-- low.by, low the exception that the suite holds (at a; its class cls, its dict d) -/
def tBy_nameK (C : Addr) (a : Addr) (cls : Value) (d : Option Addr) (te : TE) : TE := fun σ H Q => te σ H fun x H1 => x = .ref a ∧ cls = .ref C ∧ ∃ (dd : Addr) (v : V), d = some dd ∧ H1 dd = some (.xd [(("name" : Str), v)]) ∧ Q v H1
theorem pe_by_nameK {a : Addr} {oe : Obj} {cls : Value} {d : Option Addr} {pn : List (Addr × Obj)} {e : Expr} {te : TE} {pos : Pos} (T : PySem.EkName.LowTxt X.K X.mg nm qn C fI) (hz : Zc cls d oe) (hf : ∃ vs, oe.data = .fields vs) (he : PE (X.suite a ((a, oe) :: pn)) e te)
    (hb : attributeBase e "name" X.env (eval e X.env) = eval e X.env := by rfl) :
    PE (X.suite a ((a, oe) :: pn)) (.Attribute e "name" pos) (tBy_nameK C a cls d te) := by
  refine ⟨fun pins s σ H Q I h => ?_⟩
  refine attr_of hb (thn (he.run pins s σ H _ I h) fun u s1 hh => ?_)
  obtain ⟨x, H1, I1, rx, ex, ec, dd, v, ed, ea, q⟩ := hh
  subst ex
  obtain rfl : u = Value.ref a := rx
  subst ec
  subst ed
  obtain ⟨ha, _⟩ := I1.pin (a, oe) (List.mem_append_left _ List.mem_cons_self)
  obtain ⟨vs, hd⟩ := hf
  have hx : ObjOk X.prog X.w H1 s1.heap dd (.xd [(("name" : Str), v)]) := I1.hok dd _ ea
  obtain ⟨mA, hns, hr⟩ := hx
  obtain ⟨od, ho, hl⟩ := lookIn_ns hns
  have l : List.lookup ("name" : Str) [(("name" : Str), v)] = some v := by simp [List.lookup]
  obtain ⟨u, hu, ru⟩ := RelO.some_of (v := v) (o := mA "name") (by rw [← l]; exact hr "name")
  have J : PySem.W.InstAt s1.heap a oe C (some od) := ⟨ha, hz.1, by unfold PySem.W.notCls; rw [hd] <;> rfl, by rw [hz.2]; exact ho⟩
  exact HandSPX.exc_get I1.kIn J T.ga T.gg T.exC (PySem.W.findObj_own T.hdC T.noN rfl (by rw [hl, hu])) (handed_of ru) ⟨v, H1, I1.tok _, ru, q⟩
end
end L2

namespace PySem
namespace EkValue
open PySem.W PySem.Calls PyProof.Rows PySem.HandSPX
/-! ### the text of __init__ -/
def iA (p1 p2 : Pos) : Arguments := { posonlyargs := [], args := [{ arg := "self", annotation := none, pos := p1 }, { arg := "value", annotation := none, pos := p2 }], vararg := none, kwonlyargs := [], kw_defaults := [], kwarg := none, defaults := [] }
def iB (q1 q2 q3 q4 : Pos) : List Stmt := [.Assign [.Attribute (.Name "self" q1) "value" q2] (.Name "value" q3) q4]
def iS : Scope := { kind := .function, names := [(PySem.Str.ofString "self", .local), (PySem.Str.ofString "value", .local)], isGenerator := false, isCoroutine := false, more := [] }
/-- what the written part says of Low, at C, and of its __init__, at fI -/
structure LowTxt (K : Frag) (mg : Str → Option Value) (nm : Str) (qn : String) (C fI : Addr) : Prop where
  gC : mg nm = some (.ref C)
  cls : ∃ nmC q N bs bm sn sub ab col dd k0 k1 k2 k3 k5, K.lookup C = some (excClassObj nmC q C N bs bm true sn sub ab col dd k0 k1 k2 k3 k5 "LookupError.__new__") ∧ Xk.ovB bm = true
  sa : findIn K (.ref C) "__setattr__" = some (some (.builtin "object.__setattr__"))
  ga : findIn K (.ref C) "__getattribute__" = some (some (.builtin "BaseException.__getattribute__"))
  gg : findIn K (.ref C) "__getattr__" = some none
  noN : findIn K (.ref C) "value" = some none
  iC : findIn K (.ref C) "__init__" = some (some (.ref fI))
  tC : typeIn K (.ref fI) = some (.type "function")
  kC : keepIn K (.ref C) = true
  exC : subIn K (.ref C) (.type "BaseException") = some true
  tyC : typeIn K (.ref C) = some (.type "type")
  hdC : hasDictIn K C = true
  te : exmOne K (.ref C) (.ref C) = some true
  fn : ∃ (oc : Value) (od : Option Addr) (doc pm : Value) (an : Option Addr) (cdv ct : Value) (osl : Array (Option Value)) (p1 p2 q1 q2 q3 q4 : Pos),
    K.lookup fI = some ⟨oc, od, .func (fnOf "__init__" qn (iA p1 p2) (iB q1 q2 q3 q4) iS .none .none doc pm an cdv ct), osl⟩ ∧ codeIn K cdv qn = true
theorem one_size (v : Value) : [v].length ≤ sizeLine := by
  rw [sizeLine_eq]
  exact (by decide : 1 ≤ 16777216)
theorem kept_but {K : Frag} {h h' : Heap} {x : Addr} (X : K.In h) (hx : K.lookup x = none) (k : ∀ b o, b ≠ x → h.get? b = some o → h'.get? b = some o) : K.In h' := fun a o e =>
  k a o (fun z => by rw [z, hx] at e; cases e) (X a o e)
theorem ldC {M : Model} {s : Shared} {name : Str} {scope : Scope} {L a : Addr} {cd : Value} {m : Str → Option Value} {x : Str} {pos : Pos} {v : Value} {Q : Value → Shared → Prop} {A : Around} {E : Value → Shared → Prop} (hn : s.heap.Ns L m) (hv : m x = some v) (h : Q v s)
    (hk : scope.kind = .function := by rfl) (hl : (envOfC name scope L a cd).kindOf x = some .local := by rfl) (hd : (x == ("__debug__" : Str)) = false := by decide) :
    wpAny M A (eval (.Name x pos) (envOfC name scope L a cd)) Q E s := wpAny_Name (wpAny_loadName_local hk hl hn hv h) hd
/-- what __init__ leaves of a fresh exception at x -/
structure InitEnd (h h' : Heap) (x C dx t1 : Addr) (v : Value) : Prop where
  keep : ∀ b o, b ≠ x → h.get? b = some o → h'.get? b = some o
  obj : h'.get? x = some { cls := .ref C, dict := some dx, data := .fields #[.ref t1, .none, .none, .none, .bool false, .none] }
  dbig : h.objs.size ≤ dx
  dne : dx ≠ x
  ns : h'.Ns1 dx (fun y => if y = "value" then some v else none)
/-- a made Low -/
structure OwnMade (h h' : Heap) (e C d : Addr) (v : Value) : Prop where
  keep : ∀ b o, h.get? b = some o → h'.get? b = some o
  new : h.objs.size ≤ e
  obj : ∃ oe vs, h'.get? e = some oe ∧ oe.cls = .ref C ∧ oe.dict = some d ∧ oe.data = .fields vs ∧ vs[1]? = some .none
  dbig : h.objs.size ≤ d
  dne : d ≠ e
  ns : h'.Ns1 d (fun y => if y = "value" then some v else none)
section
variable {prog : Program} {w : World} {A : Around} {E : Value → Shared → Prop} {R : Result → Shared → Prop} {s : Shared} {K : Frag} {mg : Str → Option Value} {nm : Str} {qn : String} {C fI : Addr}
theorem low_init (T : LowTxt K mg nm qn C fI) {x t0 : Addr} {v : Value} (X : K.In s.heap) (hlim : s.heap.NoLimit) (hx : s.heap.get? x = some (excO C t0)) (hnx : K.lookup x = none) (hroom : A.depth < recursionLimit)
    (hq : ∀ h' tk dx, InitEnd s.heap h' x C dx t0 v → R (.ok (.ret .none)) { s with heap := h', toks := tk }) :
    codeAny (model prog w) A (.call (.ref fI) ⟨[.ref x, v], []⟩) R s := by
  obtain ⟨oc, od, doc, pm, an, cdv, ct, osl, p1, p2, q1, q2, q3, q4, ho, hcd⟩ := T.fn
  obtain ⟨nmC, q, N, bs, bm, sn, sub, ab, col, dd, k0, k1, k2, k3, k5, hC, hbm⟩ := T.cls
  have hcl : clsIn K C = some { name := nmC, bases := bs, mro := .ref C :: bm, ns := N, qualname := q, hasDict := true, slotNames := sn, subclasses := sub, abstract := ab, collection := col, hasDel := false } := by unfold clsIn; rw [hC] <;> rfl
  refine Att.call_fn (binds := [("self", .ref x), ("value", v)]) X hlim ho hcd hroom (BindsTo.of_eq (by first | rfl | with_unfolding_all rfl)) (by first | rfl | decide | with_unfolding_all rfl) (fun s₁ IC => ?_) rfl rfl rfl
  obtain ⟨h₁, tk₁, rfl⟩ := IC.toInCall.same
  have k : ∀ b o, s.heap.get? b = some o → h₁.get? b = some o := IC.toInCall.keep
  have hn := IC.toInCall.ns
  have hxL : s.heap.objs.size ≠ x := Nat.ne_of_gt (Heap.lt_size hx)
  have X₁ : K.In h₁ := X.keeps k
  have hx₁ := k _ _ hx
  -- self.by = by
  show wpAny _ _ (execs _ _) _ _ _
  refine wpAny_execs_cons (plainObj_wpAny_Assign_Attribute ?_)
  refine ldC (v := v) hn (by first | rfl | with_unfolding_all rfl | kernel_rfl) (ldC (v := .ref x) hn (by first | rfl | with_unfolding_all rfl | kernel_rfl) ?_)
  refine set_plain X₁ (ox := excO C t0) (od := none) ⟨hx₁, rfl, rfl, trivial⟩ T.sa ?_
  refine Xk.osaK X₁ hx₁ hcl ((Xk.ov_of hbm).cons C) rfl T.noN (fun h₃ tk₃ dx k₃ dn dne hx₃ hn₃ => ?_)
  show wpAny _ _ (execs _ _) _ _ _
  have z : s.heap.objs.size < h₁.objs.size := hn.lt
  exact wpAny_execs_nil (hq h₃ tk₃ dx ⟨fun b o hb e => k₃ b o hb (k b o e), hx₃, Nat.le_of_lt (Nat.lt_of_lt_of_le z dn), dne, hn₃⟩)
theorem low_made (T : LowTxt K mg nm qn C fI) {v : Value} (X : K.In s.heap) (hlim : s.heap.NoLimit) (hroom : A.depth + 1 < recursionLimit)
    (hq : ∀ h' tk e d, OwnMade s.heap h' e C d v → R (.ok (.ret (.ref e))) { s with heap := h', toks := tk }) :
    codeAny (model prog w) A (.call (.ref C) ⟨[v], []⟩) R s := by
  obtain ⟨nmC, q, N, bs, bm, sn, sub, ab, col, dd, k0, k1, k2, k3, k5, hC, hbm⟩ := T.cls
  obtain ⟨hp, g, dr, tk, os⟩ := s
  have k : ∀ b o, hp.get? b = some o → ((hp.push (kdv_tup [v])).push (excO C hp.objs.size)).get? b = some o := fun b o e => Heap.get?_push_of_some _ (Heap.get?_push_of_some _ e)
  have hget : ((hp.push (kdv_tup [v])).push (excO C hp.objs.size)).get? (hp.objs.size + 1) = some (excO C hp.objs.size) := by heap_get
  have hnx : K.lookup (hp.objs.size + 1) = none := by
    cases e : K.lookup (hp.objs.size + 1) with
    | none => rfl
    | some o =>
      have z : hp.get? (hp.objs.size + 1) = some o := X _ _ e
      exact absurd (Nat.lt_of_succ_lt (Heap.lt_size z)) (Nat.lt_irrefl _)
  refine Xk.callK (Xk.ov_of hbm) (X _ _ hC) (looks_findIn X T.iC) (fun self => bind_fn X self T.tC) (one_size v) ?_
  refine low_init (s := ⟨(hp.push (kdv_tup [v])).push (excO C hp.objs.size), g, dr, tk, os⟩) T (X.keeps k) (hlim.keeps k) hget hnx ?_ fun h' tk' dx ⟨k', hx, dn, dne, hns⟩ => ?_
  · show A.depth + 1 < recursionLimit
    exact hroom
  · have old : ∀ b o, hp.get? b = some o → h'.get? b = some o := fun b o e => k' b o (Nat.ne_of_lt (Nat.lt_succ_of_lt (Heap.lt_size e))) (k b o e)
    have z : hp.objs.size + 1 + 1 ≤ dx := by
      first
        | (simpa only [Heap.size_push] using dn)
        | exact dn
        | (have q := dn; rw [Heap.size_push, Heap.size_push] at q; exact q)
    exact ⟨rfl, hq h' tk' (hp.objs.size + 1) dx ⟨old, Nat.le_succ _, ⟨_, _, hx, rfl, rfl, rfl, rfl⟩, Nat.le_trans (Nat.le_trans (Nat.le_succ _) (Nat.le_succ _)) z, dne, hns⟩⟩
end
end EkValue
end PySem
namespace L2
open PySem PySem.Spec PyProof.Rows
theorem relO_valueK {v : V} {v' : Value} (r : RelV v v') (f : Str) : RelO (List.lookup f [(("value" : Str), v)]) (if f = "value" then some v' else none) := by
  by_cases hw : f = "value"
  · subst hw
    rw [if_pos rfl]
    have q : List.lookup ("value" : Str) [(("value" : Str), v)] = some v := by simp [List.lookup]
    rw [q]
    exact r
  · rw [if_neg hw]
    have qw : (f == ("value" : Str)) = false := by simpa using hw
    have q2 : List.lookup f [(("value" : Str), v)] = none := by simp [List.lookup, qw]
    rw [q2]
    trivial
section
variable {X : Cx} {nm : Str} {qn : String} {C fI : Addr}
/-- Low(e) -/
def tMk_valueK (C : Addr) (ta : TA) : L2.St → Hp → XK → Prop := fun σ H Q => ta σ H fun vs H1 => ∃ v, vs = [v] ∧ ∀ d, H1 d = none → Q (.ref C) (some d) (upd H1 d (.xd [(("value" : Str), v)]))
theorem pmk_valueK {a : Expr} {ta : TA} {p pos : Pos} {k : Nat} (T : PySem.EkValue.LowTxt X.K X.mg nm qn C fI) (hr : Room k X.A) (ha : PA X [a] ta) (hg : Gl X nm := by rfl) (hdb : (nm == ("__debug__" : Str)) = false := by decide)
    (he : starEach (a :: []) X.env = (false, eval a X.env) :: starEach [] X.env := by rfl) (hpl : (backTo pos (starEach [] X.env)).any (·.1) = false := by rfl) :
    PMk X (.Call (.Name nm p) [a] [] pos) (tMk_valueK C ta) := by
  intro pins s σ H Q I h
  refine wpAny_Call_Name_kw (ld_glob I hg T.gC ?_ hdb)
  refine PySem.W.callWith_K (h₀ := X.base) I.ok.mod.kin T.kC (thn (ha.run pos pins s σ H _ I h) fun us s1 hh => ?_) he hpl
  obtain ⟨vs, H1, I1, r1, v, ev, q1⟩ := hh
  subst ev
  refine ⟨I1.kIn, ?_⟩
  cases r1 with
  | cons rv rn =>
    rename_i v' us'
    cases rn
    show wpAny _ _ (call (.ref C) [v']) _ _ _
    have hlim := I1.nolimit
    obtain ⟨hp, g, dr, tk, os⟩ := s1
    refine wpAny_call (PySem.EkValue.low_made T I1.kIn hlim (by have := hr.dp; omega) fun h' tk' e d M => ?_)
    show MkP X pins σ Q (.ref e) ⟨h', g, dr, tk', os⟩
    obtain ⟨oe, fv, hoe, hc, hd, hdat, h1⟩ := M.obj
    have hns := M.ns
    obtain ⟨G', g1, g2⟩ := restrict h' fun b => decide (b ≠ e)
    have gk : ∀ b, b ≠ e → G'.get? b = h'.get? b := fun b hb => g1 b (decide_eq_true hb)
    have ge : G'.get? e = none := g2 e (by simp)
    have old : ∀ b o, hp.get? b = some o → G'.get? b = some o := fun b o q => (gk b (Nat.ne_of_lt (Nat.lt_of_lt_of_le (Heap.lt_size q) M.new))).trans (M.keep b o q)
    have ob : ObjOk X.prog X.w (upd H1 d (.xd [(("value" : Str), v)])) G' d (.xd [(("value" : Str), v)]) :=
      ⟨_, hns.at (fun o q => (gk d M.dne).trans q), fun f => relO_valueK rv f⟩
    have J : Inv X pins σ (upd H1 d (.xd [(("value" : Str), v)])) ⟨G', g, dr, tk', os⟩ := I1.laid (t' := tk') old M.dbig ob
    refine ⟨e, oe, fv, ⟨G', g, dr, tk', os⟩, _, .ref C, some d, rfl, J, fun b o q => ?_, ge, hoe, ⟨hc, hd⟩, hdat, h1, ?_, rfl, I1.bare, raises_own T.exC T.tyC, q1 d (I1.hok.fresh M.dbig)⟩
    · by_cases hb : b = e
      · have q' : G'.get? b = some o := q
        rw [hb, ge] at q'; cases q'
      · exact (gk b hb).symm.trans q
    · rw [upd_ne (Ne.symm M.dne)]
      exact I1.hok.fresh M.new
/-- raise Low(e) -/
def tRaise_valueK (C : Addr) (W : WX) (ta : TA) : TS := fun _ σ H => tMk_valueK C ta σ H fun cls d H' => W cls d σ H'
theorem ps_raise_valueK {a : Expr} {ta : TA} {W : WX} {p pos pos2 : Pos} {k : Nat} (hc : X.calm = true) (T : PySem.EkValue.LowTxt X.K X.mg nm qn C fI) (hr : Room k X.A) (tk : Takes X W) (ha : PA X [a] ta) (hg : Gl X nm := by rfl) (hdb : (nm == ("__debug__" : Str)) = false := by decide)
    (he : starEach (a :: []) X.env = (false, eval a X.env) :: starEach [] X.env := by rfl) (hpl : (backTo pos (starEach [] X.env)).any (·.1) = false := by rfl) :
    PS X (.Raise (some (.Call (.Name nm p) [a] [] pos)) none pos2) (tRaise_valueK C W ta) := ps_raise hc tk (pmk_valueK T hr ha hg hdb he hpl)
/-- low.by, low the exception that the suite holds (at a; its class cls, its dict d) -/
def tBy_valueK (C : Addr) (a : Addr) (cls : Value) (d : Option Addr) (te : TE) : TE := fun σ H Q => te σ H fun x H1 => x = .ref a ∧ cls = .ref C ∧ ∃ (dd : Addr) (v : V), d = some dd ∧ H1 dd = some (.xd [(("value" : Str), v)]) ∧ Q v H1
theorem pe_by_valueK {a : Addr} {oe : Obj} {cls : Value} {d : Option Addr} {pn : List (Addr × Obj)} {e : Expr} {te : TE} {pos : Pos} (T : PySem.EkValue.LowTxt X.K X.mg nm qn C fI) (hz : Zc cls d oe) (hf : ∃ vs, oe.data = .fields vs) (he : PE (X.suite a ((a, oe) :: pn)) e te)
    (hb : attributeBase e "value" X.env (eval e X.env) = eval e X.env := by rfl) :
    PE (X.suite a ((a, oe) :: pn)) (.Attribute e "value" pos) (tBy_valueK C a cls d te) := by
  refine ⟨fun pins s σ H Q I h => ?_⟩
  refine attr_of hb (thn (he.run pins s σ H _ I h) fun u s1 hh => ?_)
  obtain ⟨x, H1, I1, rx, ex, ec, dd, v, ed, ea, q⟩ := hh
  subst ex
  obtain rfl : u = Value.ref a := rx
  subst ec
  subst ed
  obtain ⟨ha, _⟩ := I1.pin (a, oe) (List.mem_append_left _ List.mem_cons_self)
  obtain ⟨vs, hd⟩ := hf
  have hx : ObjOk X.prog X.w H1 s1.heap dd (.xd [(("value" : Str), v)]) := I1.hok dd _ ea
  obtain ⟨mA, hns, hr⟩ := hx
  obtain ⟨od, ho, hl⟩ := lookIn_ns hns
  have l : List.lookup ("value" : Str) [(("value" : Str), v)] = some v := by simp [List.lookup]
  obtain ⟨u, hu, ru⟩ := RelO.some_of (v := v) (o := mA "value") (by rw [← l]; exact hr "value")
  have J : PySem.W.InstAt s1.heap a oe C (some od) := ⟨ha, hz.1, by unfold PySem.W.notCls; rw [hd] <;> rfl, by rw [hz.2]; exact ho⟩
  exact HandSPX.exc_get I1.kIn J T.ga T.gg T.exC (PySem.W.findObj_own T.hdC T.noN rfl (by rw [hl, hu])) (handed_of ru) ⟨v, H1, I1.tok _, ru, q⟩
end
end L2


namespace PySem
namespace EzValue
open PySem.W PySem.Calls PyProof.Rows PySem.HandSPX
section
variable {prog : Program} {w : World} {A : Around} {E : Value → Shared → Prop} {R : Result → Shared → Prop} {s : Shared} {K : Frag} {mg : Str → Option Value} {nm : Str} {qn : String} {C fI : Addr}
theorem low_initN (T : LowTxt K mg nm qn C fI) {x t0 : Addr} {v : Value} (X : K.In s.heap) (hlim : s.heap.NoLimit) (hx : s.heap.get? x = some (excO C t0)) (hnx : K.lookup x = none) (hroom : A.depth < recursionLimit)
    (hq : ∀ h' tk dx, InitEnd s.heap h' x C dx t0 v → R (.ok (.ret .none)) { s with heap := h', toks := tk }) :
    codeAny (model prog w) A (.call (.ref fI) ⟨[.ref x], [("value", v)]⟩) R s := by
  obtain ⟨oc, od, doc, pm, an, cdv, ct, osl, p1, p2, q1, q2, q3, q4, ho, hcd⟩ := T.fn
  obtain ⟨nmC, q, N, bs, bm, sn, sub, ab, col, dd, k0, k1, k2, k3, k5, hC, hbm⟩ := T.cls
  have hcl : clsIn K C = some { name := nmC, bases := bs, mro := .ref C :: bm, ns := N, qualname := q, hasDict := true, slotNames := sn, subclasses := sub, abstract := ab, collection := col, hasDel := false } := by unfold clsIn; rw [hC] <;> rfl
  refine Att.call_fn (binds := [("self", .ref x), ("value", v)]) X hlim ho hcd hroom (BindsTo.of_eq (by first | rfl | with_unfolding_all rfl)) (by first | rfl | decide | with_unfolding_all rfl) (fun s₁ IC => ?_) rfl rfl rfl
  obtain ⟨h₁, tk₁, rfl⟩ := IC.toInCall.same
  have k : ∀ b o, s.heap.get? b = some o → h₁.get? b = some o := IC.toInCall.keep
  have hn := IC.toInCall.ns
  have hxL : s.heap.objs.size ≠ x := Nat.ne_of_gt (Heap.lt_size hx)
  have X₁ : K.In h₁ := X.keeps k
  have hx₁ := k _ _ hx
  -- self.by = by
  show wpAny _ _ (execs _ _) _ _ _
  refine wpAny_execs_cons (plainObj_wpAny_Assign_Attribute ?_)
  refine ldC (v := v) hn (by first | rfl | with_unfolding_all rfl | kernel_rfl) (ldC (v := .ref x) hn (by first | rfl | with_unfolding_all rfl | kernel_rfl) ?_)
  refine set_plain X₁ (ox := excO C t0) (od := none) ⟨hx₁, rfl, rfl, trivial⟩ T.sa ?_
  refine exc_osa X₁ hx₁ hcl (show refsVE (.ref C :: bm) = true from hbm) rfl T.noN (fun h₃ tk₃ dx k₃ dn dne hx₃ hn₃ => ?_)
  show wpAny _ _ (execs _ _) _ _ _
  have z : s.heap.objs.size < h₁.objs.size := hn.lt
  exact wpAny_execs_nil (hq h₃ tk₃ dx ⟨fun b o hb e => k₃ b o hb (k b o e), hx₃, Nat.le_of_lt (Nat.lt_of_lt_of_le z dn), dne, hn₃⟩)
theorem low_madeN (T : LowTxt K mg nm qn C fI) {v : Value} (X : K.In s.heap) (hlim : s.heap.NoLimit) (hroom : A.depth + 1 < recursionLimit)
    (hq : ∀ h' tk e d, OwnMade s.heap h' e C d v → R (.ok (.ret (.ref e))) { s with heap := h', toks := tk }) :
    codeAny (model prog w) A (.call (.ref C) ⟨[], [("value", v)]⟩) R s := by
  obtain ⟨nmC, q, N, bs, bm, sn, sub, ab, col, dd, k0, k1, k2, k3, k5, hC, hbm⟩ := T.cls
  obtain ⟨hp, g, dr, tk, os⟩ := s
  have k : ∀ b o, hp.get? b = some o → ((hp.push (kdv_tup [])).push (excO C hp.objs.size)).get? b = some o := fun b o e => Heap.get?_push_of_some _ (Heap.get?_push_of_some _ e)
  have hget : ((hp.push (kdv_tup [])).push (excO C hp.objs.size)).get? (hp.objs.size + 1) = some (excO C hp.objs.size) := by heap_get
  have hnx : K.lookup (hp.objs.size + 1) = none := by
    cases e : K.lookup (hp.objs.size + 1) with
    | none => rfl
    | some o =>
      have z : hp.get? (hp.objs.size + 1) = some o := X _ _ e
      exact absurd (Nat.lt_of_succ_lt (Heap.lt_size z)) (Nat.lt_irrefl _)
  refine Xe.callG (.inr ⟨_, _, rfl⟩) F.excBase_ValueError (Xe.og_ve hbm) (X _ _ hC) (looks_findIn X T.iC) (fun self => bind_fn X self T.tC) (Nat.zero_le _) ?_
  refine low_initN (s := ⟨(hp.push (kdv_tup [])).push (excO C hp.objs.size), g, dr, tk, os⟩) T (X.keeps k) (hlim.keeps k) hget hnx ?_ fun h' tk' dx ⟨k', hx, dn, dne, hns⟩ => ?_
  · show A.depth + 1 < recursionLimit
    exact hroom
  · have old : ∀ b o, hp.get? b = some o → h'.get? b = some o := fun b o e => k' b o (Nat.ne_of_lt (Nat.lt_succ_of_lt (Heap.lt_size e))) (k b o e)
    have z : hp.objs.size + 1 + 1 ≤ dx := by
      first
        | (simpa only [Heap.size_push] using dn)
        | exact dn
        | (have q := dn; rw [Heap.size_push, Heap.size_push] at q; exact q)
    exact ⟨rfl, hq h' tk' (hp.objs.size + 1) dx ⟨old, Nat.le_succ _, ⟨_, _, hx, rfl, rfl, rfl, rfl⟩, Nat.le_trans (Nat.le_trans (Nat.le_succ _) (Nat.le_succ _)) z, dne, hns⟩⟩
end
theorem made1 {h h' : Heap} {e C d : Addr} {v : Value} (M : OwnMade h h' e C d v) : Gd.Made1 "value" h h' e C d v :=
  ⟨M.keep, M.new, let ⟨oe, vs, a, b, c, f, _⟩ := M.obj; ⟨oe, vs, a, b, c, f⟩, M.dbig, M.dne, M.ns⟩
theorem mks {K : Frag} {mg : Str → Option Value} {nm : Str} {qn : String} {C fI : Addr} (T : LowTxt K mg nm qn C fI) : Gd.Mks K mg nm C "value" where
  gC := T.gC
  kC := T.kC
  pos := fun X l r q => low_made T X l r fun h' tk e d M => q h' tk e d (made1 M)
  kwd := fun X l r q => low_madeN T X l r fun h' tk e d M => q h' tk e d (made1 M)
end EzValue
end PySem
namespace PySem
namespace EzIndex
open PySem.W PySem.Calls PyProof.Rows PySem.HandSPX
section
variable {prog : Program} {w : World} {A : Around} {E : Value → Shared → Prop} {R : Result → Shared → Prop} {s : Shared} {K : Frag} {mg : Str → Option Value} {nm : Str} {qn : String} {C fI : Addr}
theorem low_initN (T : LowTxt K mg nm qn C fI) {x t0 : Addr} {v : Value} (X : K.In s.heap) (hlim : s.heap.NoLimit) (hx : s.heap.get? x = some (excO C t0)) (hnx : K.lookup x = none) (hroom : A.depth < recursionLimit)
    (hq : ∀ h' tk dx, InitEnd s.heap h' x C dx t0 v → R (.ok (.ret .none)) { s with heap := h', toks := tk }) :
    codeAny (model prog w) A (.call (.ref fI) ⟨[.ref x], [("index", v)]⟩) R s := by
  obtain ⟨oc, od, doc, pm, an, cdv, ct, osl, p1, p2, q1, q2, q3, q4, ho, hcd⟩ := T.fn
  obtain ⟨nmC, q, N, bs, bm, sn, sub, ab, col, dd, k0, k1, k2, k3, k5, hC, hbm⟩ := T.cls
  have hcl : clsIn K C = some { name := nmC, bases := bs, mro := .ref C :: bm, ns := N, qualname := q, hasDict := true, slotNames := sn, subclasses := sub, abstract := ab, collection := col, hasDel := false } := by unfold clsIn; rw [hC] <;> rfl
  refine Att.call_fn (binds := [("self", .ref x), ("index", v)]) X hlim ho hcd hroom (BindsTo.of_eq (by first | rfl | with_unfolding_all rfl)) (by first | rfl | decide | with_unfolding_all rfl) (fun s₁ IC => ?_) rfl rfl rfl
  obtain ⟨h₁, tk₁, rfl⟩ := IC.toInCall.same
  have k : ∀ b o, s.heap.get? b = some o → h₁.get? b = some o := IC.toInCall.keep
  have hn := IC.toInCall.ns
  have hxL : s.heap.objs.size ≠ x := Nat.ne_of_gt (Heap.lt_size hx)
  have X₁ : K.In h₁ := X.keeps k
  have hx₁ := k _ _ hx
  -- self.by = by
  show wpAny _ _ (execs _ _) _ _ _
  refine wpAny_execs_cons (plainObj_wpAny_Assign_Attribute ?_)
  refine ldC (v := v) hn (by first | rfl | with_unfolding_all rfl | kernel_rfl) (ldC (v := .ref x) hn (by first | rfl | with_unfolding_all rfl | kernel_rfl) ?_)
  refine set_plain X₁ (ox := excO C t0) (od := none) ⟨hx₁, rfl, rfl, trivial⟩ T.sa ?_
  refine exc_osa X₁ hx₁ hcl (show refsVE (.ref C :: bm) = true from hbm) rfl T.noN (fun h₃ tk₃ dx k₃ dn dne hx₃ hn₃ => ?_)
  show wpAny _ _ (execs _ _) _ _ _
  have z : s.heap.objs.size < h₁.objs.size := hn.lt
  exact wpAny_execs_nil (hq h₃ tk₃ dx ⟨fun b o hb e => k₃ b o hb (k b o e), hx₃, Nat.le_of_lt (Nat.lt_of_lt_of_le z dn), dne, hn₃⟩)
theorem low_madeN (T : LowTxt K mg nm qn C fI) {v : Value} (X : K.In s.heap) (hlim : s.heap.NoLimit) (hroom : A.depth + 1 < recursionLimit)
    (hq : ∀ h' tk e d, OwnMade s.heap h' e C d v → R (.ok (.ret (.ref e))) { s with heap := h', toks := tk }) :
    codeAny (model prog w) A (.call (.ref C) ⟨[], [("index", v)]⟩) R s := by
  obtain ⟨nmC, q, N, bs, bm, sn, sub, ab, col, dd, k0, k1, k2, k3, k5, hC, hbm⟩ := T.cls
  obtain ⟨hp, g, dr, tk, os⟩ := s
  have k : ∀ b o, hp.get? b = some o → ((hp.push (kdv_tup [])).push (excO C hp.objs.size)).get? b = some o := fun b o e => Heap.get?_push_of_some _ (Heap.get?_push_of_some _ e)
  have hget : ((hp.push (kdv_tup [])).push (excO C hp.objs.size)).get? (hp.objs.size + 1) = some (excO C hp.objs.size) := by heap_get
  have hnx : K.lookup (hp.objs.size + 1) = none := by
    cases e : K.lookup (hp.objs.size + 1) with
    | none => rfl
    | some o =>
      have z : hp.get? (hp.objs.size + 1) = some o := X _ _ e
      exact absurd (Nat.lt_of_succ_lt (Heap.lt_size z)) (Nat.lt_irrefl _)
  refine Xe.callG (.inr ⟨_, _, rfl⟩) F.excBase_ValueError (Xe.og_ve hbm) (X _ _ hC) (looks_findIn X T.iC) (fun self => bind_fn X self T.tC) (Nat.zero_le _) ?_
  refine low_initN (s := ⟨(hp.push (kdv_tup [])).push (excO C hp.objs.size), g, dr, tk, os⟩) T (X.keeps k) (hlim.keeps k) hget hnx ?_ fun h' tk' dx ⟨k', hx, dn, dne, hns⟩ => ?_
  · show A.depth + 1 < recursionLimit
    exact hroom
  · have old : ∀ b o, hp.get? b = some o → h'.get? b = some o := fun b o e => k' b o (Nat.ne_of_lt (Nat.lt_succ_of_lt (Heap.lt_size e))) (k b o e)
    have z : hp.objs.size + 1 + 1 ≤ dx := by
      first
        | (simpa only [Heap.size_push] using dn)
        | exact dn
        | (have q := dn; rw [Heap.size_push, Heap.size_push] at q; exact q)
    exact ⟨rfl, hq h' tk' (hp.objs.size + 1) dx ⟨old, Nat.le_succ _, ⟨_, _, hx, rfl, rfl, rfl, rfl⟩, Nat.le_trans (Nat.le_trans (Nat.le_succ _) (Nat.le_succ _)) z, dne, hns⟩⟩
end
theorem made1 {h h' : Heap} {e C d : Addr} {v : Value} (M : OwnMade h h' e C d v) : Gd.Made1 "index" h h' e C d v :=
  ⟨M.keep, M.new, let ⟨oe, vs, a, b, c, f, _⟩ := M.obj; ⟨oe, vs, a, b, c, f⟩, M.dbig, M.dne, M.ns⟩
theorem mks {K : Frag} {mg : Str → Option Value} {nm : Str} {qn : String} {C fI : Addr} (T : LowTxt K mg nm qn C fI) : Gd.Mks K mg nm C "index" where
  gC := T.gC
  kC := T.kC
  pos := fun X l r q => low_made T X l r fun h' tk e d M => q h' tk e d (made1 M)
  kwd := fun X l r q => low_madeN T X l r fun h' tk e d M => q h' tk e d (made1 M)
end EzIndex
end PySem
namespace PySem
namespace EzCount
open PySem.W PySem.Calls PyProof.Rows PySem.HandSPX
section
variable {prog : Program} {w : World} {A : Around} {E : Value → Shared → Prop} {R : Result → Shared → Prop} {s : Shared} {K : Frag} {mg : Str → Option Value} {nm : Str} {qn : String} {C fI : Addr}
theorem low_initN (T : LowTxt K mg nm qn C fI) {x t0 : Addr} {v : Value} (X : K.In s.heap) (hlim : s.heap.NoLimit) (hx : s.heap.get? x = some (excO C t0)) (hnx : K.lookup x = none) (hroom : A.depth < recursionLimit)
    (hq : ∀ h' tk dx, InitEnd s.heap h' x C dx t0 v → R (.ok (.ret .none)) { s with heap := h', toks := tk }) :
    codeAny (model prog w) A (.call (.ref fI) ⟨[.ref x], [("count", v)]⟩) R s := by
  obtain ⟨oc, od, doc, pm, an, cdv, ct, osl, p1, p2, q1, q2, q3, q4, ho, hcd⟩ := T.fn
  obtain ⟨nmC, q, N, bs, bm, sn, sub, ab, col, dd, k0, k1, k2, k3, k5, hC, hbm⟩ := T.cls
  have hcl : clsIn K C = some { name := nmC, bases := bs, mro := .ref C :: bm, ns := N, qualname := q, hasDict := true, slotNames := sn, subclasses := sub, abstract := ab, collection := col, hasDel := false } := by unfold clsIn; rw [hC] <;> rfl
  refine Att.call_fn (binds := [("self", .ref x), ("count", v)]) X hlim ho hcd hroom (BindsTo.of_eq (by first | rfl | with_unfolding_all rfl)) (by first | rfl | decide | with_unfolding_all rfl) (fun s₁ IC => ?_) rfl rfl rfl
  obtain ⟨h₁, tk₁, rfl⟩ := IC.toInCall.same
  have k : ∀ b o, s.heap.get? b = some o → h₁.get? b = some o := IC.toInCall.keep
  have hn := IC.toInCall.ns
  have hxL : s.heap.objs.size ≠ x := Nat.ne_of_gt (Heap.lt_size hx)
  have X₁ : K.In h₁ := X.keeps k
  have hx₁ := k _ _ hx
  -- self.by = by
  show wpAny _ _ (execs _ _) _ _ _
  refine wpAny_execs_cons (plainObj_wpAny_Assign_Attribute ?_)
  refine ldC (v := v) hn (by first | rfl | with_unfolding_all rfl | kernel_rfl) (ldC (v := .ref x) hn (by first | rfl | with_unfolding_all rfl | kernel_rfl) ?_)
  refine set_plain X₁ (ox := excO C t0) (od := none) ⟨hx₁, rfl, rfl, trivial⟩ T.sa ?_
  refine exc_osa X₁ hx₁ hcl (show refsVE (.ref C :: bm) = true from hbm) rfl T.noN (fun h₃ tk₃ dx k₃ dn dne hx₃ hn₃ => ?_)
  show wpAny _ _ (execs _ _) _ _ _
  have z : s.heap.objs.size < h₁.objs.size := hn.lt
  exact wpAny_execs_nil (hq h₃ tk₃ dx ⟨fun b o hb e => k₃ b o hb (k b o e), hx₃, Nat.le_of_lt (Nat.lt_of_lt_of_le z dn), dne, hn₃⟩)
theorem low_madeN (T : LowTxt K mg nm qn C fI) {v : Value} (X : K.In s.heap) (hlim : s.heap.NoLimit) (hroom : A.depth + 1 < recursionLimit)
    (hq : ∀ h' tk e d, OwnMade s.heap h' e C d v → R (.ok (.ret (.ref e))) { s with heap := h', toks := tk }) :
    codeAny (model prog w) A (.call (.ref C) ⟨[], [("count", v)]⟩) R s := by
  obtain ⟨nmC, q, N, bs, bm, sn, sub, ab, col, dd, k0, k1, k2, k3, k5, hC, hbm⟩ := T.cls
  obtain ⟨hp, g, dr, tk, os⟩ := s
  have k : ∀ b o, hp.get? b = some o → ((hp.push (kdv_tup [])).push (excO C hp.objs.size)).get? b = some o := fun b o e => Heap.get?_push_of_some _ (Heap.get?_push_of_some _ e)
  have hget : ((hp.push (kdv_tup [])).push (excO C hp.objs.size)).get? (hp.objs.size + 1) = some (excO C hp.objs.size) := by heap_get
  have hnx : K.lookup (hp.objs.size + 1) = none := by
    cases e : K.lookup (hp.objs.size + 1) with
    | none => rfl
    | some o =>
      have z : hp.get? (hp.objs.size + 1) = some o := X _ _ e
      exact absurd (Nat.lt_of_succ_lt (Heap.lt_size z)) (Nat.lt_irrefl _)
  refine Xe.callG (.inr ⟨_, _, rfl⟩) F.excBase_ValueError (Xe.og_ve hbm) (X _ _ hC) (looks_findIn X T.iC) (fun self => bind_fn X self T.tC) (Nat.zero_le _) ?_
  refine low_initN (s := ⟨(hp.push (kdv_tup [])).push (excO C hp.objs.size), g, dr, tk, os⟩) T (X.keeps k) (hlim.keeps k) hget hnx ?_ fun h' tk' dx ⟨k', hx, dn, dne, hns⟩ => ?_
  · show A.depth + 1 < recursionLimit
    exact hroom
  · have old : ∀ b o, hp.get? b = some o → h'.get? b = some o := fun b o e => k' b o (Nat.ne_of_lt (Nat.lt_succ_of_lt (Heap.lt_size e))) (k b o e)
    have z : hp.objs.size + 1 + 1 ≤ dx := by
      first
        | (simpa only [Heap.size_push] using dn)
        | exact dn
        | (have q := dn; rw [Heap.size_push, Heap.size_push] at q; exact q)
    exact ⟨rfl, hq h' tk' (hp.objs.size + 1) dx ⟨old, Nat.le_succ _, ⟨_, _, hx, rfl, rfl, rfl, rfl⟩, Nat.le_trans (Nat.le_trans (Nat.le_succ _) (Nat.le_succ _)) z, dne, hns⟩⟩
end
theorem made1 {h h' : Heap} {e C d : Addr} {v : Value} (M : OwnMade h h' e C d v) : Gd.Made1 "count" h h' e C d v :=
  ⟨M.keep, M.new, let ⟨oe, vs, a, b, c, f, _⟩ := M.obj; ⟨oe, vs, a, b, c, f⟩, M.dbig, M.dne, M.ns⟩
theorem mks {K : Frag} {mg : Str → Option Value} {nm : Str} {qn : String} {C fI : Addr} (T : LowTxt K mg nm qn C fI) : Gd.Mks K mg nm C "count" where
  gC := T.gC
  kC := T.kC
  pos := fun X l r q => low_made T X l r fun h' tk e d M => q h' tk e d (made1 M)
  kwd := fun X l r q => low_madeN T X l r fun h' tk e d M => q h' tk e d (made1 M)
end EzCount
end PySem
namespace PySem
namespace EzName
open PySem.W PySem.Calls PyProof.Rows PySem.HandSPX
section
variable {prog : Program} {w : World} {A : Around} {E : Value → Shared → Prop} {R : Result → Shared → Prop} {s : Shared} {K : Frag} {mg : Str → Option Value} {nm : Str} {qn : String} {C fI : Addr}
theorem low_initN (T : LowTxt K mg nm qn C fI) {x t0 : Addr} {v : Value} (X : K.In s.heap) (hlim : s.heap.NoLimit) (hx : s.heap.get? x = some (excO C t0)) (hnx : K.lookup x = none) (hroom : A.depth < recursionLimit)
    (hq : ∀ h' tk dx, InitEnd s.heap h' x C dx t0 v → R (.ok (.ret .none)) { s with heap := h', toks := tk }) :
    codeAny (model prog w) A (.call (.ref fI) ⟨[.ref x], [("name", v)]⟩) R s := by
  obtain ⟨oc, od, doc, pm, an, cdv, ct, osl, p1, p2, q1, q2, q3, q4, ho, hcd⟩ := T.fn
  obtain ⟨nmC, q, N, bs, bm, sn, sub, ab, col, dd, k0, k1, k2, k3, k5, hC, hbm⟩ := T.cls
  have hcl : clsIn K C = some { name := nmC, bases := bs, mro := .ref C :: bm, ns := N, qualname := q, hasDict := true, slotNames := sn, subclasses := sub, abstract := ab, collection := col, hasDel := false } := by unfold clsIn; rw [hC] <;> rfl
  refine Att.call_fn (binds := [("self", .ref x), ("name", v)]) X hlim ho hcd hroom (BindsTo.of_eq (by first | rfl | with_unfolding_all rfl)) (by first | rfl | decide | with_unfolding_all rfl) (fun s₁ IC => ?_) rfl rfl rfl
  obtain ⟨h₁, tk₁, rfl⟩ := IC.toInCall.same
  have k : ∀ b o, s.heap.get? b = some o → h₁.get? b = some o := IC.toInCall.keep
  have hn := IC.toInCall.ns
  have hxL : s.heap.objs.size ≠ x := Nat.ne_of_gt (Heap.lt_size hx)
  have X₁ : K.In h₁ := X.keeps k
  have hx₁ := k _ _ hx
  -- self.by = by
  show wpAny _ _ (execs _ _) _ _ _
  refine wpAny_execs_cons (plainObj_wpAny_Assign_Attribute ?_)
  refine ldC (v := v) hn (by first | rfl | with_unfolding_all rfl | kernel_rfl) (ldC (v := .ref x) hn (by first | rfl | with_unfolding_all rfl | kernel_rfl) ?_)
  refine set_plain X₁ (ox := excO C t0) (od := none) ⟨hx₁, rfl, rfl, trivial⟩ T.sa ?_
  refine exc_osa X₁ hx₁ hcl (show refsVE (.ref C :: bm) = true from hbm) rfl T.noN (fun h₃ tk₃ dx k₃ dn dne hx₃ hn₃ => ?_)
  show wpAny _ _ (execs _ _) _ _ _
  have z : s.heap.objs.size < h₁.objs.size := hn.lt
  exact wpAny_execs_nil (hq h₃ tk₃ dx ⟨fun b o hb e => k₃ b o hb (k b o e), hx₃, Nat.le_of_lt (Nat.lt_of_lt_of_le z dn), dne, hn₃⟩)
theorem low_madeN (T : LowTxt K mg nm qn C fI) {v : Value} (X : K.In s.heap) (hlim : s.heap.NoLimit) (hroom : A.depth + 1 < recursionLimit)
    (hq : ∀ h' tk e d, OwnMade s.heap h' e C d v → R (.ok (.ret (.ref e))) { s with heap := h', toks := tk }) :
    codeAny (model prog w) A (.call (.ref C) ⟨[], [("name", v)]⟩) R s := by
  obtain ⟨nmC, q, N, bs, bm, sn, sub, ab, col, dd, k0, k1, k2, k3, k5, hC, hbm⟩ := T.cls
  obtain ⟨hp, g, dr, tk, os⟩ := s
  have k : ∀ b o, hp.get? b = some o → ((hp.push (kdv_tup [])).push (excO C hp.objs.size)).get? b = some o := fun b o e => Heap.get?_push_of_some _ (Heap.get?_push_of_some _ e)
  have hget : ((hp.push (kdv_tup [])).push (excO C hp.objs.size)).get? (hp.objs.size + 1) = some (excO C hp.objs.size) := by heap_get
  have hnx : K.lookup (hp.objs.size + 1) = none := by
    cases e : K.lookup (hp.objs.size + 1) with
    | none => rfl
    | some o =>
      have z : hp.get? (hp.objs.size + 1) = some o := X _ _ e
      exact absurd (Nat.lt_of_succ_lt (Heap.lt_size z)) (Nat.lt_irrefl _)
  refine Xe.callG (.inr ⟨_, _, rfl⟩) F.excBase_ValueError (Xe.og_ve hbm) (X _ _ hC) (looks_findIn X T.iC) (fun self => bind_fn X self T.tC) (Nat.zero_le _) ?_
  refine low_initN (s := ⟨(hp.push (kdv_tup [])).push (excO C hp.objs.size), g, dr, tk, os⟩) T (X.keeps k) (hlim.keeps k) hget hnx ?_ fun h' tk' dx ⟨k', hx, dn, dne, hns⟩ => ?_
  · show A.depth + 1 < recursionLimit
    exact hroom
  · have old : ∀ b o, hp.get? b = some o → h'.get? b = some o := fun b o e => k' b o (Nat.ne_of_lt (Nat.lt_succ_of_lt (Heap.lt_size e))) (k b o e)
    have z : hp.objs.size + 1 + 1 ≤ dx := by
      first
        | (simpa only [Heap.size_push] using dn)
        | exact dn
        | (have q := dn; rw [Heap.size_push, Heap.size_push] at q; exact q)
    exact ⟨rfl, hq h' tk' (hp.objs.size + 1) dx ⟨old, Nat.le_succ _, ⟨_, _, hx, rfl, rfl, rfl, rfl⟩, Nat.le_trans (Nat.le_trans (Nat.le_succ _) (Nat.le_succ _)) z, dne, hns⟩⟩
end
theorem made1 {h h' : Heap} {e C d : Addr} {v : Value} (M : OwnMade h h' e C d v) : Gd.Made1 "name" h h' e C d v :=
  ⟨M.keep, M.new, let ⟨oe, vs, a, b, c, f, _⟩ := M.obj; ⟨oe, vs, a, b, c, f⟩, M.dbig, M.dne, M.ns⟩
theorem mks {K : Frag} {mg : Str → Option Value} {nm : Str} {qn : String} {C fI : Addr} (T : LowTxt K mg nm qn C fI) : Gd.Mks K mg nm C "name" where
  gC := T.gC
  kC := T.kC
  pos := fun X l r q => low_made T X l r fun h' tk e d M => q h' tk e d (made1 M)
  kwd := fun X l r q => low_madeN T X l r fun h' tk e d M => q h' tk e d (made1 M)
end EzName
end PySem
namespace PySem
namespace EzCircle
open PySem.W PySem.Calls PyProof.Rows PySem.HandSPX
section
variable {prog : Program} {w : World} {A : Around} {E : Value → Shared → Prop} {R : Result → Shared → Prop} {s : Shared} {K : Frag} {mg : Str → Option Value} {nm : Str} {qn : String} {C fI : Addr}
theorem low_initN (T : LowTxt K mg nm qn C fI) {x t0 : Addr} {v : Value} (X : K.In s.heap) (hlim : s.heap.NoLimit) (hx : s.heap.get? x = some (excO C t0)) (hnx : K.lookup x = none) (hroom : A.depth < recursionLimit)
    (hq : ∀ h' tk dx, InitEnd s.heap h' x C dx t0 v → R (.ok (.ret .none)) { s with heap := h', toks := tk }) :
    codeAny (model prog w) A (.call (.ref fI) ⟨[.ref x], [("circle", v)]⟩) R s := by
  obtain ⟨oc, od, doc, pm, an, cdv, ct, osl, p1, p2, q1, q2, q3, q4, ho, hcd⟩ := T.fn
  obtain ⟨nmC, q, N, bs, bm, sn, sub, ab, col, dd, k0, k1, k2, k3, k5, hC, hbm⟩ := T.cls
  have hcl : clsIn K C = some { name := nmC, bases := bs, mro := .ref C :: bm, ns := N, qualname := q, hasDict := true, slotNames := sn, subclasses := sub, abstract := ab, collection := col, hasDel := false } := by unfold clsIn; rw [hC] <;> rfl
  refine Att.call_fn (binds := [("self", .ref x), ("circle", v)]) X hlim ho hcd hroom (BindsTo.of_eq (by first | rfl | with_unfolding_all rfl)) (by first | rfl | decide | with_unfolding_all rfl) (fun s₁ IC => ?_) rfl rfl rfl
  obtain ⟨h₁, tk₁, rfl⟩ := IC.toInCall.same
  have k : ∀ b o, s.heap.get? b = some o → h₁.get? b = some o := IC.toInCall.keep
  have hn := IC.toInCall.ns
  have hxL : s.heap.objs.size ≠ x := Nat.ne_of_gt (Heap.lt_size hx)
  have X₁ : K.In h₁ := X.keeps k
  have hx₁ := k _ _ hx
  -- self.by = by
  show wpAny _ _ (execs _ _) _ _ _
  refine wpAny_execs_cons (plainObj_wpAny_Assign_Attribute ?_)
  refine ldC (v := v) hn (by first | rfl | with_unfolding_all rfl | kernel_rfl) (ldC (v := .ref x) hn (by first | rfl | with_unfolding_all rfl | kernel_rfl) ?_)
  refine set_plain X₁ (ox := excO C t0) (od := none) ⟨hx₁, rfl, rfl, trivial⟩ T.sa ?_
  refine exc_osa X₁ hx₁ hcl (show refsVE (.ref C :: bm) = true from hbm) rfl T.noN (fun h₃ tk₃ dx k₃ dn dne hx₃ hn₃ => ?_)
  show wpAny _ _ (execs _ _) _ _ _
  have z : s.heap.objs.size < h₁.objs.size := hn.lt
  exact wpAny_execs_nil (hq h₃ tk₃ dx ⟨fun b o hb e => k₃ b o hb (k b o e), hx₃, Nat.le_of_lt (Nat.lt_of_lt_of_le z dn), dne, hn₃⟩)
theorem low_madeN (T : LowTxt K mg nm qn C fI) {v : Value} (X : K.In s.heap) (hlim : s.heap.NoLimit) (hroom : A.depth + 1 < recursionLimit)
    (hq : ∀ h' tk e d, OwnMade s.heap h' e C d v → R (.ok (.ret (.ref e))) { s with heap := h', toks := tk }) :
    codeAny (model prog w) A (.call (.ref C) ⟨[], [("circle", v)]⟩) R s := by
  obtain ⟨nmC, q, N, bs, bm, sn, sub, ab, col, dd, k0, k1, k2, k3, k5, hC, hbm⟩ := T.cls
  obtain ⟨hp, g, dr, tk, os⟩ := s
  have k : ∀ b o, hp.get? b = some o → ((hp.push (kdv_tup [])).push (excO C hp.objs.size)).get? b = some o := fun b o e => Heap.get?_push_of_some _ (Heap.get?_push_of_some _ e)
  have hget : ((hp.push (kdv_tup [])).push (excO C hp.objs.size)).get? (hp.objs.size + 1) = some (excO C hp.objs.size) := by heap_get
  have hnx : K.lookup (hp.objs.size + 1) = none := by
    cases e : K.lookup (hp.objs.size + 1) with
    | none => rfl
    | some o =>
      have z : hp.get? (hp.objs.size + 1) = some o := X _ _ e
      exact absurd (Nat.lt_of_succ_lt (Heap.lt_size z)) (Nat.lt_irrefl _)
  refine Xe.callG (.inr ⟨_, _, rfl⟩) F.excBase_ValueError (Xe.og_ve hbm) (X _ _ hC) (looks_findIn X T.iC) (fun self => bind_fn X self T.tC) (Nat.zero_le _) ?_
  refine low_initN (s := ⟨(hp.push (kdv_tup [])).push (excO C hp.objs.size), g, dr, tk, os⟩) T (X.keeps k) (hlim.keeps k) hget hnx ?_ fun h' tk' dx ⟨k', hx, dn, dne, hns⟩ => ?_
  · show A.depth + 1 < recursionLimit
    exact hroom
  · have old : ∀ b o, hp.get? b = some o → h'.get? b = some o := fun b o e => k' b o (Nat.ne_of_lt (Nat.lt_succ_of_lt (Heap.lt_size e))) (k b o e)
    have z : hp.objs.size + 1 + 1 ≤ dx := by
      first
        | (simpa only [Heap.size_push] using dn)
        | exact dn
        | (have q := dn; rw [Heap.size_push, Heap.size_push] at q; exact q)
    exact ⟨rfl, hq h' tk' (hp.objs.size + 1) dx ⟨old, Nat.le_succ _, ⟨_, _, hx, rfl, rfl, rfl, rfl⟩, Nat.le_trans (Nat.le_trans (Nat.le_succ _) (Nat.le_succ _)) z, dne, hns⟩⟩
end
theorem made1 {h h' : Heap} {e C d : Addr} {v : Value} (M : OwnMade h h' e C d v) : Gd.Made1 "circle" h h' e C d v :=
  ⟨M.keep, M.new, let ⟨oe, vs, a, b, c, f, _⟩ := M.obj; ⟨oe, vs, a, b, c, f⟩, M.dbig, M.dne, M.ns⟩
theorem mks {K : Frag} {mg : Str → Option Value} {nm : Str} {qn : String} {C fI : Addr} (T : LowTxt K mg nm qn C fI) : Gd.Mks K mg nm C "circle" where
  gC := T.gC
  kC := T.kC
  pos := fun X l r q => low_made T X l r fun h' tk e d M => q h' tk e d (made1 M)
  kwd := fun X l r q => low_madeN T X l r fun h' tk e d M => q h' tk e d (made1 M)
end EzCircle
end PySem
namespace PySem
namespace EkLetter
open PySem.W PySem.Calls PyProof.Rows PySem.HandSPX
section
variable {prog : Program} {w : World} {A : Around} {E : Value → Shared → Prop} {R : Result → Shared → Prop} {s : Shared} {K : Frag} {mg : Str → Option Value} {nm : Str} {qn : String} {C fI : Addr}
theorem low_initN (T : LowTxt K mg nm qn C fI) {x t0 : Addr} {v : Value} (X : K.In s.heap) (hlim : s.heap.NoLimit) (hx : s.heap.get? x = some (excO C t0)) (hnx : K.lookup x = none) (hroom : A.depth < recursionLimit)
    (hq : ∀ h' tk dx, InitEnd s.heap h' x C dx t0 v → R (.ok (.ret .none)) { s with heap := h', toks := tk }) :
    codeAny (model prog w) A (.call (.ref fI) ⟨[.ref x], [("letter", v)]⟩) R s := by
  obtain ⟨oc, od, doc, pm, an, cdv, ct, osl, p1, p2, q1, q2, q3, q4, ho, hcd⟩ := T.fn
  obtain ⟨nmC, q, N, bs, bm, sn, sub, ab, col, dd, k0, k1, k2, k3, k5, hC, hbm⟩ := T.cls
  have hcl : clsIn K C = some { name := nmC, bases := bs, mro := .ref C :: bm, ns := N, qualname := q, hasDict := true, slotNames := sn, subclasses := sub, abstract := ab, collection := col, hasDel := false } := by unfold clsIn; rw [hC] <;> rfl
  refine Att.call_fn (binds := [("self", .ref x), ("letter", v)]) X hlim ho hcd hroom (BindsTo.of_eq (by first | rfl | with_unfolding_all rfl)) (by first | rfl | decide | with_unfolding_all rfl) (fun s₁ IC => ?_) rfl rfl rfl
  obtain ⟨h₁, tk₁, rfl⟩ := IC.toInCall.same
  have k : ∀ b o, s.heap.get? b = some o → h₁.get? b = some o := IC.toInCall.keep
  have hn := IC.toInCall.ns
  have hxL : s.heap.objs.size ≠ x := Nat.ne_of_gt (Heap.lt_size hx)
  have X₁ : K.In h₁ := X.keeps k
  have hx₁ := k _ _ hx
  -- self.by = by
  show wpAny _ _ (execs _ _) _ _ _
  refine wpAny_execs_cons (plainObj_wpAny_Assign_Attribute ?_)
  refine ldC (v := v) hn (by first | rfl | with_unfolding_all rfl | kernel_rfl) (ldC (v := .ref x) hn (by first | rfl | with_unfolding_all rfl | kernel_rfl) ?_)
  refine set_plain X₁ (ox := excO C t0) (od := none) ⟨hx₁, rfl, rfl, trivial⟩ T.sa ?_
  refine Xk.osaK X₁ hx₁ hcl ((Xk.ov_of hbm).cons C) rfl T.noN (fun h₃ tk₃ dx k₃ dn dne hx₃ hn₃ => ?_)
  show wpAny _ _ (execs _ _) _ _ _
  have z : s.heap.objs.size < h₁.objs.size := hn.lt
  exact wpAny_execs_nil (hq h₃ tk₃ dx ⟨fun b o hb e => k₃ b o hb (k b o e), hx₃, Nat.le_of_lt (Nat.lt_of_lt_of_le z dn), dne, hn₃⟩)
theorem low_madeN (T : LowTxt K mg nm qn C fI) {v : Value} (X : K.In s.heap) (hlim : s.heap.NoLimit) (hroom : A.depth + 1 < recursionLimit)
    (hq : ∀ h' tk e d, OwnMade s.heap h' e C d v → R (.ok (.ret (.ref e))) { s with heap := h', toks := tk }) :
    codeAny (model prog w) A (.call (.ref C) ⟨[], [("letter", v)]⟩) R s := by
  obtain ⟨nmC, q, N, bs, bm, sn, sub, ab, col, dd, k0, k1, k2, k3, k5, hC, hbm⟩ := T.cls
  obtain ⟨hp, g, dr, tk, os⟩ := s
  have k : ∀ b o, hp.get? b = some o → ((hp.push (kdv_tup [])).push (excO C hp.objs.size)).get? b = some o := fun b o e => Heap.get?_push_of_some _ (Heap.get?_push_of_some _ e)
  have hget : ((hp.push (kdv_tup [])).push (excO C hp.objs.size)).get? (hp.objs.size + 1) = some (excO C hp.objs.size) := by heap_get
  have hnx : K.lookup (hp.objs.size + 1) = none := by
    cases e : K.lookup (hp.objs.size + 1) with
    | none => rfl
    | some o =>
      have z : hp.get? (hp.objs.size + 1) = some o := X _ _ e
      exact absurd (Nat.lt_of_succ_lt (Heap.lt_size z)) (Nat.lt_irrefl _)
  refine Xe.callG (.inr ⟨_, _, rfl⟩) F.excBase_LookupError (Xe.og_le hbm) (X _ _ hC) (looks_findIn X T.iC) (fun self => bind_fn X self T.tC) (Nat.zero_le _) ?_
  refine low_initN (s := ⟨(hp.push (kdv_tup [])).push (excO C hp.objs.size), g, dr, tk, os⟩) T (X.keeps k) (hlim.keeps k) hget hnx ?_ fun h' tk' dx ⟨k', hx, dn, dne, hns⟩ => ?_
  · show A.depth + 1 < recursionLimit
    exact hroom
  · have old : ∀ b o, hp.get? b = some o → h'.get? b = some o := fun b o e => k' b o (Nat.ne_of_lt (Nat.lt_succ_of_lt (Heap.lt_size e))) (k b o e)
    have z : hp.objs.size + 1 + 1 ≤ dx := by
      first
        | (simpa only [Heap.size_push] using dn)
        | exact dn
        | (have q := dn; rw [Heap.size_push, Heap.size_push] at q; exact q)
    exact ⟨rfl, hq h' tk' (hp.objs.size + 1) dx ⟨old, Nat.le_succ _, ⟨_, _, hx, rfl, rfl, rfl, rfl⟩, Nat.le_trans (Nat.le_trans (Nat.le_succ _) (Nat.le_succ _)) z, dne, hns⟩⟩
end
theorem made1 {h h' : Heap} {e C d : Addr} {v : Value} (M : OwnMade h h' e C d v) : Gd.Made1 "letter" h h' e C d v :=
  ⟨M.keep, M.new, let ⟨oe, vs, a, b, c, f, _⟩ := M.obj; ⟨oe, vs, a, b, c, f⟩, M.dbig, M.dne, M.ns⟩
theorem mks {K : Frag} {mg : Str → Option Value} {nm : Str} {qn : String} {C fI : Addr} (T : LowTxt K mg nm qn C fI) : Gd.Mks K mg nm C "letter" where
  gC := T.gC
  kC := T.kC
  pos := fun X l r q => low_made T X l r fun h' tk e d M => q h' tk e d (made1 M)
  kwd := fun X l r q => low_madeN T X l r fun h' tk e d M => q h' tk e d (made1 M)
end EkLetter
end PySem
namespace PySem
namespace EkNumber
open PySem.W PySem.Calls PyProof.Rows PySem.HandSPX
section
variable {prog : Program} {w : World} {A : Around} {E : Value → Shared → Prop} {R : Result → Shared → Prop} {s : Shared} {K : Frag} {mg : Str → Option Value} {nm : Str} {qn : String} {C fI : Addr}
theorem low_initN (T : LowTxt K mg nm qn C fI) {x t0 : Addr} {v : Value} (X : K.In s.heap) (hlim : s.heap.NoLimit) (hx : s.heap.get? x = some (excO C t0)) (hnx : K.lookup x = none) (hroom : A.depth < recursionLimit)
    (hq : ∀ h' tk dx, InitEnd s.heap h' x C dx t0 v → R (.ok (.ret .none)) { s with heap := h', toks := tk }) :
    codeAny (model prog w) A (.call (.ref fI) ⟨[.ref x], [("number", v)]⟩) R s := by
  obtain ⟨oc, od, doc, pm, an, cdv, ct, osl, p1, p2, q1, q2, q3, q4, ho, hcd⟩ := T.fn
  obtain ⟨nmC, q, N, bs, bm, sn, sub, ab, col, dd, k0, k1, k2, k3, k5, hC, hbm⟩ := T.cls
  have hcl : clsIn K C = some { name := nmC, bases := bs, mro := .ref C :: bm, ns := N, qualname := q, hasDict := true, slotNames := sn, subclasses := sub, abstract := ab, collection := col, hasDel := false } := by unfold clsIn; rw [hC] <;> rfl
  refine Att.call_fn (binds := [("self", .ref x), ("number", v)]) X hlim ho hcd hroom (BindsTo.of_eq (by first | rfl | with_unfolding_all rfl)) (by first | rfl | decide | with_unfolding_all rfl) (fun s₁ IC => ?_) rfl rfl rfl
  obtain ⟨h₁, tk₁, rfl⟩ := IC.toInCall.same
  have k : ∀ b o, s.heap.get? b = some o → h₁.get? b = some o := IC.toInCall.keep
  have hn := IC.toInCall.ns
  have hxL : s.heap.objs.size ≠ x := Nat.ne_of_gt (Heap.lt_size hx)
  have X₁ : K.In h₁ := X.keeps k
  have hx₁ := k _ _ hx
  -- self.by = by
  show wpAny _ _ (execs _ _) _ _ _
  refine wpAny_execs_cons (plainObj_wpAny_Assign_Attribute ?_)
  refine ldC (v := v) hn (by first | rfl | with_unfolding_all rfl | kernel_rfl) (ldC (v := .ref x) hn (by first | rfl | with_unfolding_all rfl | kernel_rfl) ?_)
  refine set_plain X₁ (ox := excO C t0) (od := none) ⟨hx₁, rfl, rfl, trivial⟩ T.sa ?_
  refine Xk.osaK X₁ hx₁ hcl ((Xk.ov_of hbm).cons C) rfl T.noN (fun h₃ tk₃ dx k₃ dn dne hx₃ hn₃ => ?_)
  show wpAny _ _ (execs _ _) _ _ _
  have z : s.heap.objs.size < h₁.objs.size := hn.lt
  exact wpAny_execs_nil (hq h₃ tk₃ dx ⟨fun b o hb e => k₃ b o hb (k b o e), hx₃, Nat.le_of_lt (Nat.lt_of_lt_of_le z dn), dne, hn₃⟩)
theorem low_madeN (T : LowTxt K mg nm qn C fI) {v : Value} (X : K.In s.heap) (hlim : s.heap.NoLimit) (hroom : A.depth + 1 < recursionLimit)
    (hq : ∀ h' tk e d, OwnMade s.heap h' e C d v → R (.ok (.ret (.ref e))) { s with heap := h', toks := tk }) :
    codeAny (model prog w) A (.call (.ref C) ⟨[], [("number", v)]⟩) R s := by
  obtain ⟨nmC, q, N, bs, bm, sn, sub, ab, col, dd, k0, k1, k2, k3, k5, hC, hbm⟩ := T.cls
  obtain ⟨hp, g, dr, tk, os⟩ := s
  have k : ∀ b o, hp.get? b = some o → ((hp.push (kdv_tup [])).push (excO C hp.objs.size)).get? b = some o := fun b o e => Heap.get?_push_of_some _ (Heap.get?_push_of_some _ e)
  have hget : ((hp.push (kdv_tup [])).push (excO C hp.objs.size)).get? (hp.objs.size + 1) = some (excO C hp.objs.size) := by heap_get
  have hnx : K.lookup (hp.objs.size + 1) = none := by
    cases e : K.lookup (hp.objs.size + 1) with
    | none => rfl
    | some o =>
      have z : hp.get? (hp.objs.size + 1) = some o := X _ _ e
      exact absurd (Nat.lt_of_succ_lt (Heap.lt_size z)) (Nat.lt_irrefl _)
  refine Xe.callG (.inr ⟨_, _, rfl⟩) F.excBase_LookupError (Xe.og_le hbm) (X _ _ hC) (looks_findIn X T.iC) (fun self => bind_fn X self T.tC) (Nat.zero_le _) ?_
  refine low_initN (s := ⟨(hp.push (kdv_tup [])).push (excO C hp.objs.size), g, dr, tk, os⟩) T (X.keeps k) (hlim.keeps k) hget hnx ?_ fun h' tk' dx ⟨k', hx, dn, dne, hns⟩ => ?_
  · show A.depth + 1 < recursionLimit
    exact hroom
  · have old : ∀ b o, hp.get? b = some o → h'.get? b = some o := fun b o e => k' b o (Nat.ne_of_lt (Nat.lt_succ_of_lt (Heap.lt_size e))) (k b o e)
    have z : hp.objs.size + 1 + 1 ≤ dx := by
      first
        | (simpa only [Heap.size_push] using dn)
        | exact dn
        | (have q := dn; rw [Heap.size_push, Heap.size_push] at q; exact q)
    exact ⟨rfl, hq h' tk' (hp.objs.size + 1) dx ⟨old, Nat.le_succ _, ⟨_, _, hx, rfl, rfl, rfl, rfl⟩, Nat.le_trans (Nat.le_trans (Nat.le_succ _) (Nat.le_succ _)) z, dne, hns⟩⟩
end
theorem made1 {h h' : Heap} {e C d : Addr} {v : Value} (M : OwnMade h h' e C d v) : Gd.Made1 "number" h h' e C d v :=
  ⟨M.keep, M.new, let ⟨oe, vs, a, b, c, f, _⟩ := M.obj; ⟨oe, vs, a, b, c, f⟩, M.dbig, M.dne, M.ns⟩
theorem mks {K : Frag} {mg : Str → Option Value} {nm : Str} {qn : String} {C fI : Addr} (T : LowTxt K mg nm qn C fI) : Gd.Mks K mg nm C "number" where
  gC := T.gC
  kC := T.kC
  pos := fun X l r q => low_made T X l r fun h' tk e d M => q h' tk e d (made1 M)
  kwd := fun X l r q => low_madeN T X l r fun h' tk e d M => q h' tk e d (made1 M)
end EkNumber
end PySem
namespace PySem
namespace EkName
open PySem.W PySem.Calls PyProof.Rows PySem.HandSPX
section
variable {prog : Program} {w : World} {A : Around} {E : Value → Shared → Prop} {R : Result → Shared → Prop} {s : Shared} {K : Frag} {mg : Str → Option Value} {nm : Str} {qn : String} {C fI : Addr}
theorem low_initN (T : LowTxt K mg nm qn C fI) {x t0 : Addr} {v : Value} (X : K.In s.heap) (hlim : s.heap.NoLimit) (hx : s.heap.get? x = some (excO C t0)) (hnx : K.lookup x = none) (hroom : A.depth < recursionLimit)
    (hq : ∀ h' tk dx, InitEnd s.heap h' x C dx t0 v → R (.ok (.ret .none)) { s with heap := h', toks := tk }) :
    codeAny (model prog w) A (.call (.ref fI) ⟨[.ref x], [("name", v)]⟩) R s := by
  obtain ⟨oc, od, doc, pm, an, cdv, ct, osl, p1, p2, q1, q2, q3, q4, ho, hcd⟩ := T.fn
  obtain ⟨nmC, q, N, bs, bm, sn, sub, ab, col, dd, k0, k1, k2, k3, k5, hC, hbm⟩ := T.cls
  have hcl : clsIn K C = some { name := nmC, bases := bs, mro := .ref C :: bm, ns := N, qualname := q, hasDict := true, slotNames := sn, subclasses := sub, abstract := ab, collection := col, hasDel := false } := by unfold clsIn; rw [hC] <;> rfl
  refine Att.call_fn (binds := [("self", .ref x), ("name", v)]) X hlim ho hcd hroom (BindsTo.of_eq (by first | rfl | with_unfolding_all rfl)) (by first | rfl | decide | with_unfolding_all rfl) (fun s₁ IC => ?_) rfl rfl rfl
  obtain ⟨h₁, tk₁, rfl⟩ := IC.toInCall.same
  have k : ∀ b o, s.heap.get? b = some o → h₁.get? b = some o := IC.toInCall.keep
  have hn := IC.toInCall.ns
  have hxL : s.heap.objs.size ≠ x := Nat.ne_of_gt (Heap.lt_size hx)
  have X₁ : K.In h₁ := X.keeps k
  have hx₁ := k _ _ hx
  -- self.by = by
  show wpAny _ _ (execs _ _) _ _ _
  refine wpAny_execs_cons (plainObj_wpAny_Assign_Attribute ?_)
  refine ldC (v := v) hn (by first | rfl | with_unfolding_all rfl | kernel_rfl) (ldC (v := .ref x) hn (by first | rfl | with_unfolding_all rfl | kernel_rfl) ?_)
  refine set_plain X₁ (ox := excO C t0) (od := none) ⟨hx₁, rfl, rfl, trivial⟩ T.sa ?_
  refine Xk.osaK X₁ hx₁ hcl ((Xk.ov_of hbm).cons C) rfl T.noN (fun h₃ tk₃ dx k₃ dn dne hx₃ hn₃ => ?_)
  show wpAny _ _ (execs _ _) _ _ _
  have z : s.heap.objs.size < h₁.objs.size := hn.lt
  exact wpAny_execs_nil (hq h₃ tk₃ dx ⟨fun b o hb e => k₃ b o hb (k b o e), hx₃, Nat.le_of_lt (Nat.lt_of_lt_of_le z dn), dne, hn₃⟩)
theorem low_madeN (T : LowTxt K mg nm qn C fI) {v : Value} (X : K.In s.heap) (hlim : s.heap.NoLimit) (hroom : A.depth + 1 < recursionLimit)
    (hq : ∀ h' tk e d, OwnMade s.heap h' e C d v → R (.ok (.ret (.ref e))) { s with heap := h', toks := tk }) :
    codeAny (model prog w) A (.call (.ref C) ⟨[], [("name", v)]⟩) R s := by
  obtain ⟨nmC, q, N, bs, bm, sn, sub, ab, col, dd, k0, k1, k2, k3, k5, hC, hbm⟩ := T.cls
  obtain ⟨hp, g, dr, tk, os⟩ := s
  have k : ∀ b o, hp.get? b = some o → ((hp.push (kdv_tup [])).push (excO C hp.objs.size)).get? b = some o := fun b o e => Heap.get?_push_of_some _ (Heap.get?_push_of_some _ e)
  have hget : ((hp.push (kdv_tup [])).push (excO C hp.objs.size)).get? (hp.objs.size + 1) = some (excO C hp.objs.size) := by heap_get
  have hnx : K.lookup (hp.objs.size + 1) = none := by
    cases e : K.lookup (hp.objs.size + 1) with
    | none => rfl
    | some o =>
      have z : hp.get? (hp.objs.size + 1) = some o := X _ _ e
      exact absurd (Nat.lt_of_succ_lt (Heap.lt_size z)) (Nat.lt_irrefl _)
  refine Xe.callG (.inr ⟨_, _, rfl⟩) F.excBase_LookupError (Xe.og_le hbm) (X _ _ hC) (looks_findIn X T.iC) (fun self => bind_fn X self T.tC) (Nat.zero_le _) ?_
  refine low_initN (s := ⟨(hp.push (kdv_tup [])).push (excO C hp.objs.size), g, dr, tk, os⟩) T (X.keeps k) (hlim.keeps k) hget hnx ?_ fun h' tk' dx ⟨k', hx, dn, dne, hns⟩ => ?_
  · show A.depth + 1 < recursionLimit
    exact hroom
  · have old : ∀ b o, hp.get? b = some o → h'.get? b = some o := fun b o e => k' b o (Nat.ne_of_lt (Nat.lt_succ_of_lt (Heap.lt_size e))) (k b o e)
    have z : hp.objs.size + 1 + 1 ≤ dx := by
      first
        | (simpa only [Heap.size_push] using dn)
        | exact dn
        | (have q := dn; rw [Heap.size_push, Heap.size_push] at q; exact q)
    exact ⟨rfl, hq h' tk' (hp.objs.size + 1) dx ⟨old, Nat.le_succ _, ⟨_, _, hx, rfl, rfl, rfl, rfl⟩, Nat.le_trans (Nat.le_trans (Nat.le_succ _) (Nat.le_succ _)) z, dne, hns⟩⟩
end
theorem made1 {h h' : Heap} {e C d : Addr} {v : Value} (M : OwnMade h h' e C d v) : Gd.Made1 "name" h h' e C d v :=
  ⟨M.keep, M.new, let ⟨oe, vs, a, b, c, f, _⟩ := M.obj; ⟨oe, vs, a, b, c, f⟩, M.dbig, M.dne, M.ns⟩
theorem mks {K : Frag} {mg : Str → Option Value} {nm : Str} {qn : String} {C fI : Addr} (T : LowTxt K mg nm qn C fI) : Gd.Mks K mg nm C "name" where
  gC := T.gC
  kC := T.kC
  pos := fun X l r q => low_made T X l r fun h' tk e d M => q h' tk e d (made1 M)
  kwd := fun X l r q => low_madeN T X l r fun h' tk e d M => q h' tk e d (made1 M)
end EkName
end PySem
namespace PySem
namespace EkValue
open PySem.W PySem.Calls PyProof.Rows PySem.HandSPX
section
variable {prog : Program} {w : World} {A : Around} {E : Value → Shared → Prop} {R : Result → Shared → Prop} {s : Shared} {K : Frag} {mg : Str → Option Value} {nm : Str} {qn : String} {C fI : Addr}
theorem low_initN (T : LowTxt K mg nm qn C fI) {x t0 : Addr} {v : Value} (X : K.In s.heap) (hlim : s.heap.NoLimit) (hx : s.heap.get? x = some (excO C t0)) (hnx : K.lookup x = none) (hroom : A.depth < recursionLimit)
    (hq : ∀ h' tk dx, InitEnd s.heap h' x C dx t0 v → R (.ok (.ret .none)) { s with heap := h', toks := tk }) :
    codeAny (model prog w) A (.call (.ref fI) ⟨[.ref x], [("value", v)]⟩) R s := by
  obtain ⟨oc, od, doc, pm, an, cdv, ct, osl, p1, p2, q1, q2, q3, q4, ho, hcd⟩ := T.fn
  obtain ⟨nmC, q, N, bs, bm, sn, sub, ab, col, dd, k0, k1, k2, k3, k5, hC, hbm⟩ := T.cls
  have hcl : clsIn K C = some { name := nmC, bases := bs, mro := .ref C :: bm, ns := N, qualname := q, hasDict := true, slotNames := sn, subclasses := sub, abstract := ab, collection := col, hasDel := false } := by unfold clsIn; rw [hC] <;> rfl
  refine Att.call_fn (binds := [("self", .ref x), ("value", v)]) X hlim ho hcd hroom (BindsTo.of_eq (by first | rfl | with_unfolding_all rfl)) (by first | rfl | decide | with_unfolding_all rfl) (fun s₁ IC => ?_) rfl rfl rfl
  obtain ⟨h₁, tk₁, rfl⟩ := IC.toInCall.same
  have k : ∀ b o, s.heap.get? b = some o → h₁.get? b = some o := IC.toInCall.keep
  have hn := IC.toInCall.ns
  have hxL : s.heap.objs.size ≠ x := Nat.ne_of_gt (Heap.lt_size hx)
  have X₁ : K.In h₁ := X.keeps k
  have hx₁ := k _ _ hx
  -- self.by = by
  show wpAny _ _ (execs _ _) _ _ _
  refine wpAny_execs_cons (plainObj_wpAny_Assign_Attribute ?_)
  refine ldC (v := v) hn (by first | rfl | with_unfolding_all rfl | kernel_rfl) (ldC (v := .ref x) hn (by first | rfl | with_unfolding_all rfl | kernel_rfl) ?_)
  refine set_plain X₁ (ox := excO C t0) (od := none) ⟨hx₁, rfl, rfl, trivial⟩ T.sa ?_
  refine Xk.osaK X₁ hx₁ hcl ((Xk.ov_of hbm).cons C) rfl T.noN (fun h₃ tk₃ dx k₃ dn dne hx₃ hn₃ => ?_)
  show wpAny _ _ (execs _ _) _ _ _
  have z : s.heap.objs.size < h₁.objs.size := hn.lt
  exact wpAny_execs_nil (hq h₃ tk₃ dx ⟨fun b o hb e => k₃ b o hb (k b o e), hx₃, Nat.le_of_lt (Nat.lt_of_lt_of_le z dn), dne, hn₃⟩)
theorem low_madeN (T : LowTxt K mg nm qn C fI) {v : Value} (X : K.In s.heap) (hlim : s.heap.NoLimit) (hroom : A.depth + 1 < recursionLimit)
    (hq : ∀ h' tk e d, OwnMade s.heap h' e C d v → R (.ok (.ret (.ref e))) { s with heap := h', toks := tk }) :
    codeAny (model prog w) A (.call (.ref C) ⟨[], [("value", v)]⟩) R s := by
  obtain ⟨nmC, q, N, bs, bm, sn, sub, ab, col, dd, k0, k1, k2, k3, k5, hC, hbm⟩ := T.cls
  obtain ⟨hp, g, dr, tk, os⟩ := s
  have k : ∀ b o, hp.get? b = some o → ((hp.push (kdv_tup [])).push (excO C hp.objs.size)).get? b = some o := fun b o e => Heap.get?_push_of_some _ (Heap.get?_push_of_some _ e)
  have hget : ((hp.push (kdv_tup [])).push (excO C hp.objs.size)).get? (hp.objs.size + 1) = some (excO C hp.objs.size) := by heap_get
  have hnx : K.lookup (hp.objs.size + 1) = none := by
    cases e : K.lookup (hp.objs.size + 1) with
    | none => rfl
    | some o =>
      have z : hp.get? (hp.objs.size + 1) = some o := X _ _ e
      exact absurd (Nat.lt_of_succ_lt (Heap.lt_size z)) (Nat.lt_irrefl _)
  refine Xe.callG (.inr ⟨_, _, rfl⟩) F.excBase_LookupError (Xe.og_le hbm) (X _ _ hC) (looks_findIn X T.iC) (fun self => bind_fn X self T.tC) (Nat.zero_le _) ?_
  refine low_initN (s := ⟨(hp.push (kdv_tup [])).push (excO C hp.objs.size), g, dr, tk, os⟩) T (X.keeps k) (hlim.keeps k) hget hnx ?_ fun h' tk' dx ⟨k', hx, dn, dne, hns⟩ => ?_
  · show A.depth + 1 < recursionLimit
    exact hroom
  · have old : ∀ b o, hp.get? b = some o → h'.get? b = some o := fun b o e => k' b o (Nat.ne_of_lt (Nat.lt_succ_of_lt (Heap.lt_size e))) (k b o e)
    have z : hp.objs.size + 1 + 1 ≤ dx := by
      first
        | (simpa only [Heap.size_push] using dn)
        | exact dn
        | (have q := dn; rw [Heap.size_push, Heap.size_push] at q; exact q)
    exact ⟨rfl, hq h' tk' (hp.objs.size + 1) dx ⟨old, Nat.le_succ _, ⟨_, _, hx, rfl, rfl, rfl, rfl⟩, Nat.le_trans (Nat.le_trans (Nat.le_succ _) (Nat.le_succ _)) z, dne, hns⟩⟩
end
theorem made1 {h h' : Heap} {e C d : Addr} {v : Value} (M : OwnMade h h' e C d v) : Gd.Made1 "value" h h' e C d v :=
  ⟨M.keep, M.new, let ⟨oe, vs, a, b, c, f, _⟩ := M.obj; ⟨oe, vs, a, b, c, f⟩, M.dbig, M.dne, M.ns⟩
theorem mks {K : Frag} {mg : Str → Option Value} {nm : Str} {qn : String} {C fI : Addr} (T : LowTxt K mg nm qn C fI) : Gd.Mks K mg nm C "value" where
  gC := T.gC
  kC := T.kC
  pos := fun X l r q => low_made T X l r fun h' tk e d M => q h' tk e d (made1 M)
  kwd := fun X l r q => low_madeN T X l r fun h' tk e d M => q h' tk e d (made1 M)
end EkValue
end PySem

namespace Gd
open PySem PySem.Spec PyProof.Rows L2
/-! ### the kind of a value -/
inductive Kind where
  | non | bl | int | str | lst | tup | dct | odd
  deriving DecidableEq
def Kind.name : Kind → String
  | .non => "NoneType"
  | .bl => "bool"
  | .int => "int"
  | .str => "str"
  | .lst => "list"
  | .tup => "tuple"
  | .dct => "dict"
  | .odd => "?"
def kindO : Option HO → Kind
  | some (.lst _) => .lst
  | some (.tup _) => .tup
  | some (.dK _) => .dct
  | _ => .odd
def kind (H : Hp) : V → Kind
  | .non => .non
  | .bl _ => .bl
  | .int _ => .int
  | .str _ => .str
  | .ref a => kindO (H a)
  | _ => .odd
abbrev Pv (H : Hp) (v : V) : Prop := kind H v ≠ .odd
/-- isinstance of such a value -/
def inst (n : String) (k : Kind) : Bool := k.name == n || (n == "int" && k == .bl)
theorem kind_ty {K : PySem.W.Frag} {H : Hp} {v : V} (h : Pv H v) : TyX K H v (.type (kind H v).name) := by
  cases v with
  | non => exact .base .non
  | bl b => exact .base (.bl b)
  | int i => exact .base (.int i)
  | str x => exact .base (.str x)
  | byt b => exact absurd rfl h
  | flt b => exact absurd rfl h
  | ty n => exact absurd rfl h
  | ref a =>
    change kindO (H a) ≠ .odd at h
    show TyX K H (.ref a) (.type (kindO (H a)).name)
    cases e : H a with
    | none => rw [e] at h; exact absurd rfl h
    | some o =>
      rw [e] at h
      cases o with
      | lst xs => exact .base (.lst e)
      | tup xs => exact .base (.tup e)
      | dK kvs => exact .base (.dK e)
      | _ => exact absurd rfl h
abbrev Cn (n : String) : Prop := n = "int" ∨ n = "str" ∨ n = "bool" ∨ n = "list" ∨ n = "tuple" ∨ n = "dict"
theorem kit_kind {K : PySem.W.Frag} {H : Hp} {v : V} (h : Pv H v) {n : String} (hn : Cn n) : PySem.W.kitOne K (.type (kind H v).name) (.type n) = some (inst n (kind H v)) := by
  apply kit_ty
  revert h
  unfold Pv
  generalize kind H v = k
  intro h
  rcases hn with rfl | rfl | rfl | rfl | rfl | rfl <;> cases k <;> first | exact absurd rfl h | decide +kernel
section
variable {X : Cx}
theorem call_isk : CallR X (.builtin "isinstance") (fun xs H Q => ∃ x n, xs = [x, .ty n] ∧ Cn n ∧ Pv H x ∧ Q (.bl (inst n (kind H x))) H) := by
  intro pins s σ H xs us Q I r h
  obtain ⟨x, n, rfl, hn, hv, q⟩ := h
  exact call_isi pins s σ H _ us Q I r ⟨x, .ty n, _, _, _, rfl, .ty n, kind_ty hv, kit_kind hv hn, q⟩
/-- (list, tuple) and its like -/
theorem call_isk2 : CallR X (.builtin "isinstance") (fun xs H Q => ∃ x t n m, xs = [x, .ref t] ∧ H t = some (.tup [.ty n, .ty m]) ∧ Cn n ∧ Cn m ∧ Pv H x ∧ Q (.bl (inst n (kind H x) || inst m (kind H x))) H) := by
  intro pins s σ H xs us Q I r h
  obtain ⟨x, t, n, m, rfl, ht, hn, hm, hv, q⟩ := h
  refine call_isiT pins s σ H _ us Q I r ⟨x, t, [.ty n, .ty m], _, [.type n, .type m], _, rfl, ht, .cons (.ty n) (.cons (.ty m) .nil), kind_ty hv, ?_, q⟩
  refine kitAny_cons (kit_kind hv hn) (fun e1 => ?_) (fun e1 => ?_)
  · rw [e1, Bool.false_or]
    exact kitAny_cons (kit_kind hv hm) (fun e2 => by rw [e2]; exact kitAny_nil) fun e2 => e2
  · rw [e1]
    rfl
end
/-- an int other than True and False -/
def isInt : V → Bool
  | .int _ => true
  | _ => false
def isStr : V → Bool
  | .str _ => true
  | _ => false
theorem kind_ref {H : Hp} {a : Addr} : kind H (.ref a) = .lst ∨ kind H (.ref a) = .tup ∨ kind H (.ref a) = .dct ∨ kind H (.ref a) = .odd := by
  show kindO (H a) = _ ∨ kindO (H a) = _ ∨ kindO (H a) = _ ∨ kindO (H a) = _
  cases H a with
  | none => exact .inr (.inr (.inr rfl))
  | some o =>
    cases o <;> first | exact .inl rfl | exact .inr (.inl rfl) | exact .inr (.inr (.inl rfl)) | exact .inr (.inr (.inr rfl))
theorem isInt_kind (H : Hp) (v : V) : (inst "int" (kind H v) && !inst "bool" (kind H v)) = isInt v := by
  cases v with
  | ref a =>
    show _ = false
    rcases kind_ref (H := H) (a := a) with e | e | e | e <;> rw [e] <;> decide +kernel
  | _ => rfl
theorem isStr_kind (H : Hp) (v : V) : inst "str" (kind H v) = isStr v := by
  cases v with
  | ref a =>
    show _ = false
    rcases kind_ref (H := H) (a := a) with e | e | e | e <;> rw [e] <;> decide +kernel
  | _ => rfl
theorem kind_same {H H' : Hp} (e : Same H H') {v : V} (h : Pv H v) : kind H' v = kind H v := by
  cases v with
  | ref a =>
    change kindO (H a) ≠ .odd at h
    show kindO (H' a) = kindO (H a)
    cases q : H a with
    | none => rw [q] at h; exact absurd rfl h
    | some o => rw [e a o q]
  | _ => rfl
theorem Pv.same {H H' : Hp} (e : Same H H') {v : V} (h : Pv H v) : Pv H' v := by
  unfold Pv
  rw [kind_same e h]
  exact h
theorem isStr_iff {v : V} (h : isStr v = true) : ∃ x, v = .str x := by
  cases v <;> first | exact ⟨_, rfl⟩ | exact absurd h Bool.false_ne_true
theorem isInt_iff {v : V} (h : isInt v = true) : ∃ x, v = .int x := by
  cases v <;> first | exact ⟨_, rfl⟩ | exact absurd h Bool.false_ne_true
end Gd

namespace Gd
open PySem L2
/-! ### the law's pool of digits -/
/-- it stands at p -/
def BoxAt (H : Hp) (p : Addr) : Prop := ∃ a b c : Int, H p = some (.lst [.int a, .int b, .int c]) ∧ 0 ≤ b ∧ b < 2147483647
/-- it may have turned, nothing else has -/
def Turned (H H' : Hp) (p : Addr) : Prop := BoxAt H' p ∧ ∀ q, q ≠ p → H' q = H q
theorem Turned.refl {H : Hp} {p : Addr} (b : BoxAt H p) : Turned H H p := ⟨b, fun _ _ => rfl⟩
theorem Turned.trans {H H1 H2 : Hp} {p : Addr} (a : Turned H H1 p) (b : Turned H1 H2 p) : Turned H H2 p := ⟨b.1, fun q hq => (b.2 q hq).trans (a.2 q hq)⟩
theorem Turned.box {H H' : Hp} {p : Addr} (t : Turned H H' p) : BoxAt H' p := t.1
theorem Turned.at {H H' : Hp} {p q : Addr} {o : HO} (t : Turned H H' p) (hq : q ≠ p) (h : H q = some o) : H' q = some o := (t.2 q hq).trans h
theorem turned_upd {H : Hp} {p : Addr} {a b c : Int} (h0 : 0 ≤ b) (h1 : b < 2147483647) : Turned H (upd H p (.lst [.int a, .int b, .int c])) p :=
  ⟨⟨a, b, c, upd_same, h0, h1⟩, fun q hq => upd_ne hq⟩
theorem BoxAt.some {H : Hp} {p : Addr} (b : BoxAt H p) : ∃ o, H p = some o := let ⟨_, _, _, h, _⟩ := b; ⟨_, h⟩
theorem BoxAt.upd {H : Hp} {p q : Addr} {o : HO} (b : BoxAt H p) (hq : H q = none) : BoxAt (upd H q o) p := by
  obtain ⟨x, y, z, h, r⟩ := b
  exact ⟨x, y, z, by rw [upd_ne (ne_of_none h hq)]; exact h, r⟩
def spScr (K : PySem.W.Frag) : Sp := fun vs H Q _ => ∃ (a : Addr) (ns : List Int) (k : Int), vs = [.ref a, .int k] ∧ SqL K H a (ns.map V.int) ∧ 0 ≤ k ∧ k < 1000 ∧ ∀ z, Q (.int z) H
def spBox : Sp := fun vs H Q _ => ∃ z : Int, vs = [.int z] ∧ ∀ (p : Addr) (o : HO), H p = none → BoxAt (upd H p o) p → Q (.ref p) (upd H p o)
def spTake : Sp := fun vs H Q _ => ∃ (p : Addr) (n : Int), vs = [.ref p, .int n] ∧ BoxAt H p ∧ 0 < n ∧ n < 1000000 ∧ ∀ (d : Int) (H' : Hp), 0 ≤ d → d < n → Turned H H' p → Q (.int d) H'
/-- an item of the script -/
theorem at_script {ns : List Int} {k : Int} (h0 : 0 ≤ k) (h1 : k < ns.length) : ∃ z, atI (ns.map V.int) k = some (.int z) := by
  obtain ⟨j, rfl⟩ := Int.eq_ofNat_of_zero_le h0
  have hj : j < ns.length := by omega
  refine ⟨ns[j], atI_nat ?_⟩
  rw [List.getElem?_map, List.getElem?_eq_getElem hj]
  rfl
theorem mod_pos {i j : Int} (h : 0 < j) : 0 ≤ i % j ∧ i % j < j := ⟨Int.emod_nonneg _ (by omega), Int.emod_lt_of_pos _ h⟩
end Gd

namespace Gd
open PySem L2
theorem iteB {c : Bool} {A B : Prop} (h1 : c = true → A) (h2 : c = false → B) : if c = true then A else B := by
  cases c with
  | true => exact iteT (h1 rfl)
  | false => exact iteF (h2 rfl)
/-- what a comprehension over J asks, its list at D -/
def LcW (J : It) (g : TG) (tt : TT) (te : TE) (vs : List Nat) (σ : L2.St) (H1 : Hp) (D : Addr) (Qd : Hp → Prop) : Prop :=
  ∃ W : Nat → Nat → Hp → Prop, (∃ m, W 0 m (upd H1 D (.lst []))) ∧ ∀ i m H, W i m H →
    (J.stop i H ∧ Qd H) ∨ (J.go i H ∧ ∃ Nx : Hp → Prop, (∀ H', Nx H' → ∃ m', m' < m ∧ W (i + 1) m' H') ∧ ∀ x H', J.yld i H x H' →
      g x (wipe σ vs) H' fun σ2 H2 => wipe σ2 vs = wipe σ vs ∧ tt σ2 H2 fun b H3 => if b = true then te σ2 H3 fun y H4 => ∃ acc, H4 D = some (.lst acc) ∧ acc.length < sizeLine ∧ Nx (upd H4 D (.lst (acc ++ [y]))) else Nx H3)
theorem wipe1 (σ : L2.St) (j : Nat) (v : Option V) : wipe ((wipe σ [j]).set j v) [j] = wipe σ [j] := by
  show ((σ.set j none).set j v).set j none = σ.set j none
  rw [List.set_set, List.set_set]
theorem take_snoc {α : Type} {l : List α} {i : Nat} {x : α} (h : l[i]? = some x) : l.take (i + 1) = l.take i ++ [x] := by
  rw [List.take_succ, h]
  rfl
section
variable {K : PySem.W.Frag} {tt : TT} {te : TE} {j : Nat} {σ : L2.St} {H1 : Hp} {D : Addr} {Qd : Hp → Prop}
/-- over a text, all else as it stood -/
theorem lc_text {z : Str} (f : Nat → V) (p : Nat → Bool) (hz : z.length < sizeLine)
    (ht : ∀ c acc (Q : Bool → Hp → Prop), c ∈ z.cps.toList → Q (p c) (upd H1 D (.lst acc)) → tt ((wipe σ [j]).set j (some (.str ⟨#[c]⟩))) (upd H1 D (.lst acc)) Q)
    (he : ∀ c acc (Q : VK), c ∈ z.cps.toList → p c = true → Q (f c) (upd H1 D (.lst acc)) → te ((wipe σ [j]).set j (some (.str ⟨#[c]⟩))) (upd H1 D (.lst acc)) Q)
    (hd : Qd (upd H1 D (.lst ((z.cps.toList.filter p).map f)))) : LcW (Its z) (gName j) tt te [j] σ H1 D Qd := by
  have hl : z.cps.toList.length = z.cps.size := Array.length_toList
  refine lc_it walk_str (fun i H => H = upd H1 D (.lst (((z.cps.toList.take i).filter p).map f))) rfl (fun _ _ _ _ => trivial) ?_ ?_
  · rintro i x H H' hi e ⟨e', c, hc, rfl⟩
    subst e'
    have hc' : z.cps.toList[i]? = some c := by rw [Array.getElem?_toList]; exact hc
    have hm : c ∈ z.cps.toList := List.mem_of_getElem? hc'
    show gName j _ (wipe σ [j]) H' _
    refine ⟨wipe1 _ _ _, ?_⟩
    rw [e]
    refine ht c _ _ hm ?_
    have es := take_snoc hc'
    refine iteB (fun b => ?_) (fun b => ?_)
    · refine he c _ _ hm b ⟨_, upd_same, ?_, ?_⟩
      · rw [List.length_map]
        refine Nat.lt_of_le_of_lt (List.length_filter_le _ _) ?_
        rw [List.length_take]
        have : z.length = z.cps.size := rfl
        omega
      · rw [upd_upd, es, List.filter_append, List.map_append]
        have e1 : [c].filter p = [c] := by rw [List.filter_cons, if_pos b]; rfl
        rw [e1]
        rfl
    · rw [es, List.filter_append, List.map_append]
      have e1 : [c].filter p = [] := by rw [List.filter_cons, if_neg (by rw [b]; exact Bool.false_ne_true)]; rfl
      rw [e1]
      show upd H1 D _ = _
      rw [List.map_nil, List.append_nil]
  · intro H e
    subst e
    rw [← hl, List.take_length]
    exact hd
end
/-- order of single signs -/
theorem lt_sign (a b : Nat) : decide (([a] : List Nat) < [b]) = decide (a < b) := by
  by_cases h : a < b
  · rw [decide_eq_true h]
    exact decide_eq_true (List.Lex.rel h)
  · rw [decide_eq_false h]
    refine decide_eq_false fun z => ?_
    cases z with
    | rel h' => exact h h'
    | cons h' => cases h'
end Gd

namespace Gd
open PySem L2
/-! ### plain texts of a size -/
structure Tx (n : Nat) (x : Str) : Prop where
  len : x.length ≤ n
  asc : ∀ c ∈ x.cps.toList, c < 128
theorem len_list (x : Str) : x.length = x.cps.toList.length := (Array.length_toList).symm
theorem Tx.mono {n m : Nat} {x : Str} (t : Tx n x) (h : n ≤ m) : Tx m x := ⟨Nat.le_trans t.len h, t.asc⟩
theorem app_list (x y : Str) : (x ++ y).cps.toList = x.cps.toList ++ y.cps.toList := Array.toList_append
theorem Tx.app {n m : Nat} {x y : Str} (t : Tx n x) (u : Tx m y) : Tx (n + m) (x ++ y) := by
  refine ⟨?_, fun c hc => ?_⟩
  · have := t.len
    have := u.len
    rw [len_list, app_list, List.length_append, ← len_list, ← len_list]
    omega
  · rw [app_list] at hc
    rcases List.mem_append.mp hc with h | h
    · exact t.asc c h
    · exact u.asc c h
theorem cut_mem {z : Str} {lo hi : Option Int} {c : Nat} (h : c ∈ (cutS z lo hi).cps.toList) : c ∈ z.cps.toList := by
  have h' : c ∈ (z.cps.toList.drop (HT.sIx z.length 0 lo)).take (HT.sIx z.length z.length hi - HT.sIx z.length 0 lo) := h
  exact List.mem_of_mem_drop (List.mem_of_mem_take h')
theorem Tx.cut {n : Nat} {z : Str} (t : Tx n z) (lo hi : Option Int) : Tx n (cutS z lo hi) := ⟨Nat.le_trans (cutS_length z lo hi) t.len, fun c hc => t.asc c (cut_mem hc)⟩
theorem Tx.sign {n : Nat} {z : Str} (t : Tx n z) {c : Nat} (h : c ∈ z.cps.toList) : Tx 1 ⟨#[c]⟩ := ⟨Nat.le_refl _, fun d hd => by
  have : d = c := by simpa using hd
  rw [this]
  exact t.asc c h⟩
/-- a written one: by decide +kernel -/
theorem Tx.of {n : Nat} {x : Str} (h : (decide (x.length ≤ n) && x.cps.toList.all fun c => decide (c < 128)) = true) : Tx n x := by
  rw [Bool.and_eq_true, decide_eq_true_eq, List.all_eq_true] at h
  exact ⟨h.1, fun c hc => of_decide_eq_true (h.2 c hc)⟩
theorem Tx.big {n : Nat} {x : Str} (t : Tx n x) : ∀ c ∈ x.cps.toList, c < 16 ^ 8 := fun c hc => Nat.lt_trans (t.asc c hc) (by decide)
theorem atI_mem {α : Type} {l : List α} {i : Int} {v : α} (h : atI l i = some v) : v ∈ l := by
  unfold atI at h
  cases e : ixN l.length i with
  | none => rw [e] at h; exact nomatch h
  | some j =>
    rw [e] at h
    exact List.mem_of_getElem? h
/-- an item that all of them are like -/
theorem atI_all {α : Type} {l : List α} {p : α → Prop} (h : ∀ v ∈ l, p v) {d : Int} (h0 : 0 ≤ d) (h1 : d < l.length) : ∃ v, atI l d = some v ∧ p v := by
  obtain ⟨j, rfl⟩ := Int.eq_ofNat_of_zero_le h0
  have hj : j < l.length := by omega
  exact ⟨l[j], atI_nat (List.getElem?_eq_getElem hj), h _ (List.getElem_mem hj)⟩
/-- a sign of a text -/
theorem atI_sign {n : Nat} {z : Str} (t : Tx n z) {d : Int} (h0 : 0 ≤ d) (h1 : d < z.length) : ∃ c, atI z.cps.toList d = some c ∧ Tx 1 ⟨#[c]⟩ ∧ c ∈ z.cps.toList := by
  obtain ⟨c, h, hm⟩ := atI_all (l := z.cps.toList) (p := fun c => c ∈ z.cps.toList) (fun _ h => h) h0 (by rw [← len_list]; exact h1)
  exact ⟨c, h, t.sign hm, hm⟩
/-! ### parts and equality of texts -/
theorem str_ext {x y : Str} (h : x.cps.toList = y.cps.toList) : x = y := by
  obtain ⟨a⟩ := x
  obtain ⟨b⟩ := y
  exact congrArg Str.mk (Array.toList_inj.mp h)
theorem str_eq (x y : Str) : decide (V.str x = V.str y) = decide (x.cps.toList = y.cps.toList) :=
  decide_eq_decide.mpr ⟨fun z => by rw [V.str.injEq] at z; rw [z], fun z => by rw [str_ext z]⟩
theorem cut_take (x : Str) (k : Nat) : (cutS x none (some (k : Int))).cps.toList = x.cps.toList.take k := by
  show (x.cps.toList.drop (HT.sIx x.length 0 none)).take (HT.sIx x.length x.length (some (k : Int)) - HT.sIx x.length 0 none) = _
  rw [HT.sIx_none, HT.sIx_nat, List.drop_zero, Nat.sub_zero, len_list]
  rcases Nat.le_total k x.cps.toList.length with h | h
  · rw [Nat.min_eq_left h]
  · rw [Nat.min_eq_right h, List.take_length, List.take_of_length_le h]
theorem cut_drop (x : Str) (k : Nat) : (cutS x (some (k : Int)) none).cps.toList = x.cps.toList.drop k := by
  show (x.cps.toList.drop (HT.sIx x.length 0 (some (k : Int)))).take (HT.sIx x.length x.length none - HT.sIx x.length 0 (some (k : Int))) = _
  rw [HT.sIx_none, HT.sIx_nat, len_list]
  rcases Nat.le_total k x.cps.toList.length with h | h
  · rw [Nat.min_eq_left h, List.take_of_length_le (by rw [List.length_drop]; exact Nat.le_refl _)]
  · rw [Nat.min_eq_right h, Nat.sub_self, List.take_zero, List.drop_of_length_le h]
/-! ### joined -/
theorem join_str (sep : Str) (l : List Str) : Txt.join sep l = Str.join sep l := eq_of_beq (PyProof.Rows.join_plain_closes sep l)
theorem join_len (sep : Str) : ∀ l : List Str, (Str.join sep l).length ≤ (l.map (·.length)).sum + l.length * sep.length
  | [] => Nat.zero_le _
  | [x] => by
    show x.length ≤ _
    simp
  | x :: y :: r => by
    have ih := join_len sep (y :: r)
    show (x ++ sep ++ Str.join sep (y :: r)).length ≤ _
    rw [len_list, app_list, app_list, List.length_append, List.length_append, ← len_list, ← len_list, ← len_list, List.map_cons, List.sum_cons, List.length_cons, Nat.succ_mul]
    omega
theorem join_mem (sep : Str) {c : Nat} : ∀ {l : List Str}, c ∈ (Str.join sep l).cps.toList → c ∈ sep.cps.toList ∨ ∃ y ∈ l, c ∈ y.cps.toList
  | [], h => nomatch (show c ∈ ([] : List Nat) from h)
  | [x], h => .inr ⟨x, List.mem_cons_self, h⟩
  | x :: y :: r, h => by
    have h' : c ∈ (x ++ sep ++ Str.join sep (y :: r)).cps.toList := h
    rw [app_list, app_list, List.mem_append, List.mem_append] at h'
    rcases h' with (h | h) | h
    · exact .inr ⟨x, List.mem_cons_self, h⟩
    · exact .inl h
    · rcases join_mem sep h with h | ⟨z, hz, h⟩
      · exact .inl h
      · exact .inr ⟨z, List.mem_cons_of_mem _ hz, h⟩
theorem join_empty_len : ∀ l : List Str, (Str.join "" l).length = (l.map (·.length)).sum
  | [] => rfl
  | [x] => by
    show x.length = _
    simp
  | x :: y :: r => by
    have ih := join_empty_len (y :: r)
    show (x ++ "" ++ Str.join "" (y :: r)).length = _
    have e : (("" : String) : Str).cps.toList = [] := by decide +kernel
    rw [len_list, app_list, app_list, e, List.append_nil, List.length_append, ← len_list, ← len_list, List.map_cons, List.sum_cons, ih]
theorem sum_le {l : List Nat} {n : Nat} (h : ∀ x ∈ l, x ≤ n) : l.sum ≤ l.length * n := by
  induction l with
  | nil => exact Nat.zero_le _
  | cons a l ih =>
    have := ih fun x hx => h x (List.mem_cons_of_mem _ hx)
    have := h a List.mem_cons_self
    rw [List.sum_cons, List.length_cons, Nat.succ_mul]
    omega
theorem Tx.join {n m k : Nat} {sep : Str} {l : List Str} (s : Tx m sep) (h : ∀ y ∈ l, Tx n y) (hl : l.length ≤ k) : Tx (k * n + k * m) (Txt.join sep l) := by
  rw [join_str]
  refine ⟨?_, fun c hc => ?_⟩
  · have h1 := join_len sep l
    have h2 : (l.map (·.length)).sum ≤ l.length * n := by
      have := sum_le (l := l.map (·.length)) (n := n) fun x hx => by
        obtain ⟨y, hy, rfl⟩ := List.mem_map.mp hx
        exact (h y hy).len
      rw [List.length_map] at this
      exact this
    have h3 : l.length * n ≤ k * n := Nat.mul_le_mul_right _ hl
    have h4 : l.length * sep.length ≤ k * m := Nat.mul_le_mul hl s.len
    omega
  · rcases join_mem sep hc with h' | ⟨y, hy, h'⟩
    · exact s.asc c h'
    · exact (h y hy).asc c h'
/-! ### all but the pool is kept -/
def Kept (H H' : Hp) (p : Addr) : Prop := BoxAt H' p ∧ ∀ q o, q ≠ p → H q = some o → H' q = some o
theorem Kept.refl {H : Hp} {p : Addr} (b : BoxAt H p) : Kept H H p := ⟨b, fun _ _ _ h => h⟩
theorem Kept.trans {H H1 H2 : Hp} {p : Addr} (a : Kept H H1 p) (b : Kept H1 H2 p) : Kept H H2 p := ⟨b.1, fun q o hq h => b.2 q o hq (a.2 q o hq h)⟩
theorem Kept.box {H H' : Hp} {p : Addr} (k : Kept H H' p) : BoxAt H' p := k.1
theorem Turned.kept {H H' : Hp} {p : Addr} (t : Turned H H' p) : Kept H H' p := ⟨t.1, fun q o hq h => t.at hq h⟩
theorem Kept.new {H H' : Hp} {p l : Addr} {o : HO} (k : Kept H H' p) (h : H' l = none) : Kept H (upd H' l o) p :=
  ⟨k.1.upd h, fun q u hq hu => by rw [upd_ne (ne_of_none (k.2 q u hq hu) h)]; exact k.2 q u hq hu⟩
theorem Kept.turn {H H1 H2 : Hp} {p : Addr} (k : Kept H H1 p) (t : Turned H1 H2 p) : Kept H H2 p := k.trans t.kept
theorem Kept.same {H H1 H2 : Hp} {p : Addr} (k : Kept H H1 p) (s : Same H1 H2) : Kept H H2 p := by
  obtain ⟨⟨a, b, c, h, r⟩, f⟩ := k
  exact ⟨⟨a, b, c, s _ _ h, r⟩, fun q o hq hh => s _ _ (f q o hq hh)⟩
/-- fresh behind is fresh ahead -/
theorem Kept.free {H H' : Hp} {p q : Addr} (k : Kept H H' p) (hb : BoxAt H p) (h : H' q = none) : H q = none := by
  cases e : H q with
  | none => rfl
  | some o =>
    by_cases hq : q = p
    · subst hq
      obtain ⟨_, hh⟩ := k.1.some
      rw [hh] at h
      exact nomatch h
    · rw [k.2 q o hq e] at h
      exact nomatch h
theorem Kept.ne {H : Hp} {p q : Addr} (b : BoxAt H p) (h : H q = none) : q ≠ p := by
  rintro rfl
  obtain ⟨_, hh⟩ := b.some
  rw [hh] at h
  exact nomatch h
theorem Kept.put {H H' : Hp} {p D : Addr} {o : HO} (k : Kept H H' p) (hb : BoxAt H p) (h : H D = none) : Kept H (upd H' D o) p := by
  have hne : D ≠ p := Kept.ne hb h
  obtain ⟨⟨a, b, c, hh, r⟩, f⟩ := k
  exact ⟨⟨a, b, c, by rw [upd_ne hne.symm]; exact hh, r⟩, fun q u hq hu => by rw [upd_ne (ne_of_none hu h)]; exact f q u hq hu⟩
/-- no test: the turn gives -/
theorem yes_go {σ : L2.St} {H : Hp} {A B : Hp → Prop} (h : A H) : tYes σ H (fun b H' => if b = true then A H' else B H') := by
  show if true = true then A H else B H
  exact iteT h
/-! a word between a statement and what follows -/
def tMid (t u : TS) : TS := fun D σ H => ∃ M : L2.St → Hp → Prop, t { D with nx := M } σ H ∧ ∀ σ' H', M σ' H' → u D σ' H'
theorem pss_mid {X : Cx} {st : Stmt} {rest : List Stmt} {t u : TS} (h1 : PS X st t) (h2 : PSs X rest u) : PSs X (st :: rest) (tMid t u) := by
  refine ⟨fun pins s σ H D I ⟨M, hm, hu⟩ => ?_⟩
  refine wpAny_execs_cons (thn (h1.run pins s σ H { D with nx := M } I hm) fun f s1 q => ?_)
  match f, q with
  | .next, ⟨σ', H', I', q⟩ => exact h2.run pins s1 σ' H' D I' (hu σ' H' q)
  | .ret _, q => exact q
  | .brk, q => exact q
  | .cont, q => exact q
end Gd

namespace Gd
open PySem PySem.Spec PyProof.Rows L2
/-! ### dict(a list of pairs) whose keys are tuples -/
def mergeT (kvs more : List (List Key × V)) : List (List Key × V) := more.foldl (fun acc kv => putK acc kv.1 kv.2) kvs
theorem mergeT_len : ∀ (more kvs : List (List Key × V)), (mergeT kvs more).length ≤ kvs.length + more.length
  | [], kvs => Nat.le_refl _
  | p :: r, kvs => by
    have h1 := mergeT_len r (putK kvs p.1 p.2)
    have h2 := length_putK kvs p.1 p.2
    show (mergeT (putK kvs p.1 p.2) r).length ≤ _
    rw [List.length_cons]
    omega
theorem KT.merge {H : Hp} : ∀ {more : List (List Key × V)} {rs : List (List Key × Addr × Value)} {kvs : List (List Key × V)} {vs : List (List Key × Addr × Value)}, KT H more rs → KT H kvs vs → KT H (mergeT kvs more) (storedAllH vs rs)
  | _, _, _, _, .nil, r => r
  | _, _, kvs, vs, .cons (a := p) (b := q) h t, r => by
    obtain ⟨h1, h2, h3⟩ := h
    have e : KT H (putK kvs p.1 p.2) (storedH vs q.1 q.2.1 q.2.2) := by
      rw [← h1]
      exact r.put p.1 h2 h3
    show KT H (mergeT (putK kvs p.1 p.2) _) (storedAllH (storedH vs q.1 q.2.1 q.2.2) _)
    exact KT.merge t e
section
variable {X : Cx} {pins : List (Addr × Obj)} {σ : L2.St} {H : Hp} {s : Shared}
/-- a pair (key, value) at p, its key a tuple -/
abbrev PairT (K : PySem.W.Frag) (H : Hp) (p : Addr) (kv : List Key × V) : Prop := ∃ b, SqT K H p [.ref b, kv.2] ∧ H b = some (.tup (kv.1.map kV))
theorem pairsT_of (I : Inv X pins σ H s) : ∀ {ps : List Addr} {kvs : List (List Key × V)}, Paired (PairT X.K H) ps kvs →
    ∃ rs : List (List Key × Addr × Value), KT H kvs rs ∧ rs.length = ps.length ∧ ∀ (j : Nat) (q : List Key × Addr × Value), rs[j]? = some q → ∃ b : Addr, ps[j]? = some b ∧ IsTup s.heap b #[.ref q.2.1, q.2.2]
  | _, _, .nil => ⟨[], .nil, rfl, fun j q e => nomatch (show (none : Option (List Key × Addr × Value)) = some q from by simpa using e)⟩
  | _, _, .cons (a := p) (b := kv) ⟨b, h, hb⟩ t => by
    obtain ⟨rs, r, hl, hp⟩ := pairsT_of I t
    obtain ⟨its, rv, ht, _⟩ := I.tuple h
    obtain ⟨u, y, ei, ru, ry⟩ := vals2 rv
    subst ei
    cases (show u = Value.ref b from ru)
    refine ⟨(kv.1, b, y) :: rs, .cons ⟨rfl, hb, ry⟩ r, by rw [List.length_cons, List.length_cons, hl], fun j q e => ?_⟩
    cases j with
    | zero =>
      cases Option.some.inj e
      exact ⟨p, rfl, ht⟩
    | succ j => exact hp j q e
theorem call_dictT (hc : X.calm = true) (hu : X.A.units + 2 < cLine) : CallR X (.type "dict") (fun xs H Q => ∃ (a : Addr) (ps : List Addr) (kvs : List (List Key × V)), xs = [.ref a] ∧ SqL X.K H a (ps.map V.ref) ∧ Paired (PairT X.K H) ps kvs ∧
    ∀ p, H p = none → Q (.ref p) (upd H p (.dT (mergeT [] kvs)))) := by
  intro pins s σ H xs us Q I r q
  obtain ⟨a, ps, kvs, rfl, hq, hp, q⟩ := q
  obtain ⟨u, rfl, rx⟩ := vals1 r
  cases rx
  obtain ⟨its, rv, pl, hz⟩ := I.list hq
  have ei := refs_at rv
  subst ei
  rw [List.length_map] at hz
  obtain ⟨rs, rel, hl, hpr⟩ := pairsT_of I hp
  obtain ⟨o, n, ho, hcl, hd, hdat⟩ := pl
  have items : PairItems s.heap (ps.map Value.ref).toArray (fun j => ps.getD j 0) (rs.map fun q => (Value.ref q.2.1, q.2.2)) := by
    refine ⟨by simp [hl], fun j k v e => ?_⟩
    rw [List.getElem?_map] at e
    cases e1 : rs[j]? with
    | none => rw [e1] at e; exact nomatch e
    | some q =>
      rw [e1] at e
      cases Option.some.inj e
      obtain ⟨b, e2, e3⟩ := hpr j q e1
      have g : ps.getD j 0 = b := by rw [List.getD_eq_getElem?_getD, e2]; rfl
      refine ⟨by simp [e2, g], .inl ?_⟩
      show s.heap.IsTuple (ps.getD j 0) _
      rw [g]
      obtain ⟨ob, h1, h2, n', h3⟩ := e3
      exact ⟨ob, h1, h2, n', h3⟩
  refine call_dict_pairsH (knd := tupleKind (mixKind X.prog X.w)) (ps := rs) (PairArg.list a _ _ _) (I.ok.hd hc) hu ⟨⟨o, n, ho, hcl, hd, hdat⟩, items⟩ ⟨by rw [List.length_map], fun i key v e => ?_⟩ (fun h' k x hx => ?_) (by rw [List.length_map, hl]; exact hz) fun h' tk hd' k => ?_
  · have e : (rs.map fun q => (Value.ref q.2.1, q.2.2))[i]? = some (key, v) := e
    rw [List.getElem?_map] at e
    cases e1 : rs[i]? with
    | none => rw [e1] at e; exact nomatch e
    | some q =>
      rw [e1] at e
      cases Option.some.inj e
      exact ⟨q.1, q.2.1, rfl, rfl⟩
  · have all : ∀ {l : List (List Key × V)} {m : List (List Key × Addr × Value)}, KT H l m → ∀ x ∈ m, H x.2.1 = some (.tup (x.1.map kV)) := by
      intro l m q
      induction q with
      | nil => intro x hx; exact nomatch hx
      | cons h t ih =>
        intro x hx
        rcases List.mem_cons.mp hx with rfl | hx
        · rw [← h.1]; exact h.2.1
        · exact ih x hx
    obtain ⟨ob, its, n', h1, h2⟩ := key_of I.hok (all rel x hx)
    exact ⟨ob, its, n', k _ _ (Nat.ne_of_lt (Heap.lt_size h1)) (fun z => nomatch z) h1, h2⟩
  · have hm : (s.heap.objs.size == sysModules) = false := beq_eq_false_iff_ne.mpr (Nat.ne_of_gt I.big)
    have hlen : (mergeT [] kvs).length ≤ sizeLine := by
      refine Nat.le_trans (mergeT_len kvs []) ?_
      rw [List.length_nil, Nat.zero_add, Paired.length rel, hl]
      exact hz
    have hn : H s.heap.objs.size = none := I.hok.fresh (Nat.le_refl _)
    obtain ⟨ob, es, ep, g1, g2, g3, g4, _, g5⟩ := hd'
    refine ⟨.ref s.heap.objs.size, upd H s.heap.objs.size (.dT (mergeT [] kvs)), I.laid (t' := tk) (fun b o e => k b o (fun z => nomatch z) e) (Nat.le_refl _) ?_, rfl, q _ hn⟩
    exact ⟨hlen, hm, _, (KT.merge rel .nil).keeps fun b ys e => by rw [upd_ne (ne_of_none e hn)]; exact e, ob, es, ep, g1, g2, g3, g4, g5⟩
end
theorem valV_mem {α : Type} [DecidableEq α] {kvs : List (α × V)} {k : α} {v : V} (h : valV kvs k = some v) : (k, v) ∈ kvs := by
  unfold valV at h
  cases e : kvs.find? fun kv => decide (kv.1 = k) with
  | none => rw [e] at h; exact nomatch h
  | some q =>
    rw [e] at h
    have h : q.2 = v := Option.some.inj h
    have m := List.mem_of_find?_eq_some e
    have e0 := List.find?_some e
    have e1 : q.1 = k := of_decide_eq_true e0
    rw [← h, ← e1]
    exact m
theorem valV_has {α : Type} [DecidableEq α] {kvs : List (α × V)} {k : α} {v : V} (h : (k, v) ∈ kvs) : ∃ v', valV kvs k = some v' ∧ (k, v') ∈ kvs := by
  cases e : valV kvs k with
  | some v' => exact ⟨v', rfl, valV_mem e⟩
  | none =>
    unfold valV at e
    have e := Option.map_eq_none_iff.mp e
    have z := List.find?_eq_none.mp e (k, v) h
    exact absurd (decide_eq_true rfl) z
/-- a dict with tuples as keys, read while it is locked -/
theorem DGet.tz {H : Hp} {a b : Addr} {o : Obj} {kvs : List (List Key × V)} {k : List Key} (e : H a = some (.frz o (.dT kvs))) (eb : H b = some (.tup (k.map kV))) : DGet H a (.ref b) (valV kvs k) := .inr ⟨kvs, k, b, .inr ⟨o, e⟩, rfl, eb, rfl⟩
theorem hu2_of {k : Nat} {A : Around} (r : Room k A) : A.units + 2 < cLine := by
  have := room100 r
  omega
end Gd

namespace K4
open PySem L2 Gd
def top (i : Nat) : Stmt := PySem.Challenge.pw_formatrepair_k04_exceptions_and_fields.main.body.getD i (.Pass ⟨0, 0, 0, 0⟩)
/-- the field of the class with a number -/
def fld (i : Nat) : Option Str := if i < 21 ∨ i = 30 then some "value" else if i = 21 ∨ i = 22 then some "index" else if i = 23 then some "count" else if i = 24 ∨ i = 27 ∨ i = 33 then some "name" else if i = 25 then some "circle" else if i = 28 ∨ i = 32 then some "letter" else if i = 29 ∨ i = 31 then some "number" else none
def fds (i : Nat) (v : V) : List (Str × V) := match fld i with
  | some f => [(f, v)]
  | none => []
/-- under which of the three bases it stands -/
def grp (i : Nat) : Nat := if i < 27 ∨ i = 39 then 0 else if i < 31 ∨ i = 40 then 1 else 2
/-- what the walk asks of the names that no def of the text stands behind -/
structure Txt (K : PySem.W.Frag) (mg : Str → Option Value) (base : Heap) (cs : Nat → Addr) : Prop where
  sys : SysIn base
  m_InvalidInteger : Mks K mg "InvalidInteger" (cs 0) "value"
  m_InvalidName : Mks K mg "InvalidName" (cs 1) "value"
  m_InvalidText : Mks K mg "InvalidText" (cs 2) "value"
  m_InvalidLetter : Mks K mg "InvalidLetter" (cs 3) "value"
  m_InvalidLine : Mks K mg "InvalidLine" (cs 4) "value"
  m_InvalidList : Mks K mg "InvalidList" (cs 5) "value"
  m_InvalidTree : Mks K mg "InvalidTree" (cs 6) "value"
  m_InvalidTable : Mks K mg "InvalidTable" (cs 7) "value"
  m_InvalidFormat : Mks K mg "InvalidFormat" (cs 8) "value"
  m_InvalidAlphabet : Mks K mg "InvalidAlphabet" (cs 9) "value"
  m_InvalidPrice : Mks K mg "InvalidPrice" (cs 10) "value"
  m_InvalidPrices : Mks K mg "InvalidPrices" (cs 11) "value"
  m_InvalidSymbol : Mks K mg "InvalidSymbol" (cs 12) "value"
  m_InvalidScript : Mks K mg "InvalidScript" (cs 13) "value"
  m_InvalidMatrix : Mks K mg "InvalidMatrix" (cs 14) "value"
  m_NotStable : Mks K mg "NotStable" (cs 15) "value"
  m_InvalidPattern : Mks K mg "InvalidPattern" (cs 16) "value"
  m_InvalidMember : Mks K mg "InvalidMember" (cs 17) "value"
  m_InvalidComparison : Mks K mg "InvalidComparison" (cs 18) "value"
  m_InvalidOnePass : Mks K mg "InvalidOnePass" (cs 19) "value"
  m_InvalidCommand : Mks K mg "InvalidCommand" (cs 20) "value"
  m_InvalidExpression : Mks K mg "InvalidExpression" (cs 21) "index"
  m_InvalidRow : Mks K mg "InvalidRow" (cs 22) "index"
  m_TooMany : Mks K mg "TooMany" (cs 23) "count"
  m_DuplicateName : Mks K mg "DuplicateName" (cs 24) "name"
  m_Circular : Mks K mg "Circular" (cs 25) "circle"
  m_EmptyFormat : Mk0 K mg "EmptyFormat" (cs 26)
  m_UnknownName : Mks K mg "UnknownName" (cs 27) "name"
  m_UnknownLetter : Mks K mg "UnknownLetter" (cs 28) "letter"
  m_MissingText : Mks K mg "MissingText" (cs 29) "number"
  m_NotIncluded : Mks K mg "NotIncluded" (cs 30) "value"
  m_NotPossible : Mks K mg "NotPossible" (cs 31) "number"
  m_NotContinuing : Mks K mg "NotContinuing" (cs 32) "letter"
  m_StillUsed : Mks K mg "StillUsed" (cs 33) "name"
  m_NoScript : Mk0 K mg "NoScript" (cs 34)
  m_Finished : Mk0 K mg "Finished" (cs 35)
  m_NothingToUndo : Mk0 K mg "NothingToUndo" (cs 36)
  m_DraftOpen : Mk0 K mg "DraftOpen" (cs 37)
  m_NotOpen : Mk0 K mg "NotOpen" (cs 38)
  m_FormatError : Mk0 K mg "FormatError" (cs 39)
  m_MissingError : Mk0 K mg "MissingError" (cs 40)
  m_StateError : Mk0 K mg "StateError" (cs 41)
  x : ∀ i, i < 42 → ExcC K (cs i) ∧ EqC K (cs i)
  xf : ∀ i f, i < 39 → fld i = some f → XfC K (cs i) ∧ PySem.W.findIn K (.ref (cs i)) f = some none
  kit : ∀ i j, i < 42 → j < 39 → PySem.W.kitOne K (.ref (cs i)) (.ref (cs j)) = some (decide (i = j))
  kb : ∀ i g, i < 42 → g < 3 → PySem.W.kitOne K (.ref (cs i)) (.ref (cs (39 + g))) = some (decide (grp i = g))
  kv : ∀ i, i < 42 → PySem.W.kitOne K (.ref (cs i)) (.type "ValueError") = some (decide (grp i = 0))
  kk : ∀ i, i < 42 → PySem.W.kitOne K (.ref (cs i)) (.type "KeyError") = some (decide (grp i = 1))
  kl : ∀ i, i < 42 → PySem.W.kitOne K (.ref (cs i)) (.type "LookupError") = some (!decide (grp i = 0))
  ki : ∀ i, i < 42 → PySem.W.kitOne K (.ref (cs i)) (.type "IndexError") = some false
  z_isinstance : mg "isinstance" = none
  z_list : mg "list" = none
  z_tuple : mg "tuple" = none
  z_dict : mg "dict" = none
  z_len : mg "len" = none
  z_max : mg "max" = none
  z_min : mg "min" = none
  z_range : mg "range" = none
  z_repr : mg "repr" = none
  z_ValueError : mg "ValueError" = none
  z_KeyError : mg "KeyError" = none
  z_LookupError : mg "LookupError" = none
  z_IndexError : mg "IndexError" = none
  z_int : mg "int" = none
  z_str : mg "str" = none
  z_bool : mg "bool" = none
theorem same_new {H : Hp} {b : Addr} {o : HO} (h : H b = none) : Same H (upd H b o) := fun c u e => by
  rw [upd_ne (ne_of_none e h)]
  exact e
/-- a new exception -/
inductive ExN (H G : Hp) (a C : Addr) : List (Str × V) → Prop
  | one {d : Addr} {fs : List (Str × V)} : H a = none → H d = none → G a = some (exa a C (some d)) → G d = some (.xd fs) → ExN H G a C fs
  | zero : H a = none → G a = some (exa a C none) → ExN H G a C []
theorem ExN.toA {H G : Hp} {a C : Addr} {fs : List (Str × V)} : ExN H G a C fs → ExA G a C fs
  | .one _ _ e d => .one e d
  | .zero _ e => .none e
theorem ExN.new {H G : Hp} {a C : Addr} {fs : List (Str × V)} : ExN H G a C fs → H a = none
  | .one n _ _ _ => n
  | .zero n _ => n
/-- all that was new stays -/
theorem ExN.but {H G G' : Hp} {a C : Addr} {fs : List (Str × V)} (h : ExN H G a C fs) (k : ∀ b o, H b = none → G b = some o → G' b = some o) : ExN H G' a C fs := by
  cases h with
  | one n1 n2 e1 e2 => exact .one n1 n2 (k _ _ n1 e1) (k _ _ n2 e2)
  | zero n e => exact .zero n (k _ _ n e)
def spMk (cs : Nat → Addr) (lo hi : Nat) : Sp := fun vs H Q _ => ∃ (w : Nat) (v : V) (nm : Bool), vs = [.int (w : Nat), v, .bl nm] ∧ lo ≤ w ∧ w < hi ∧ ∀ G a, Same H G → ExN H G a (cs w) (fds w v) → Q (.ref a) G
theorem mk_one {H : Hp} {C : Addr} {f : Str} {v : V} {Q : VK} (q : ∀ G a, Same H G → ExN H G a C [(f, v)] → Q (.ref a) G) (a d : Addr) (fa : H a = none) (fd : H d = none) (ne : d ≠ a) : Q (.ref a) (upd (upd H d (.xd [(f, v)])) a (exa a C (some d))) := by
  have fa1 : upd H d (.xd [(f, v)]) a = none := by
    rw [upd_ne (fun z => ne z.symm)]
    exact fa
  exact q _ a ((same_new fd).trans (same_new fa1)) (.one fa fd upd_same (by rw [upd_ne ne]; exact upd_same))
theorem mk_none {H : Hp} {C : Addr} {Q : VK} (q : ∀ G a, Same H G → ExN H G a C [] → Q (.ref a) G) (a : Addr) (fa : H a = none) : Q (.ref a) (upd H a (exa a C none)) := q _ a (same_new fa) (.zero fa upd_same)
theorem int_is {w n : Nat} (c : decide (V.int (w : Nat) = V.int (n : Nat)) = true) : w = n := by
  have := of_decide_eq_true c
  injection this with e
  omega
theorem int_no {w n : Nat} (c : decide (V.int (w : Nat) = V.int (n : Nat)) = false) : w ≠ n := fun e => of_decide_eq_false c (by rw [e])
section
variable {P : Program} {w : World} {K : PySem.W.Frag} {mg : Str → Option Value} {base : Heap} {cs : Nat → Addr}
abbrev s_law_cell : Stmt := top 44
theorem sc_law_cell : FnScope ["_law_script", "_law_k"] ["_law_script", "_law_k"] (defScope s_law_cell) := ⟨rfl, rfl, rfl, by decide +kernel, rfl, by decide +kernel, by decide +kernel⟩
theorem ok_cell {f : Addr} {fd : FuncData} (F : Fun K "_law_cell" "_law_cell" s_law_cell f fd) (T : Txt K mg base cs) : FnG P w K mg base CX0 1 f fd ["_law_script", "_law_k"] (spScr K) := by
  refine okG F sc_law_cell (fun vs H Q E h => ?_) (fun cdv A outer s H vs Q E hc hr h => ?_)
  · obtain ⟨p, ns, k, rfl, _⟩ := h
    rfl
  obtain ⟨p, ns, k, rfl, hs, k0, k1, q⟩ := h
  refine ⟨_, (pss_cons (ps_if (pt_cmpR op_lt (pv 1) (pe_callB call_len_seq (by rfl) T.z_len (by decide +kernel) (pa_cons (pv 0) pa_nil)) (nomark _))
  (pss_one (ps_ret (pe_ix ix_list (pv 0) (pv 1) (fun _ _ => rfl)))) pss_nil)
 (pss_one (ps_ret (pe_op op_add (pe_op op_mul pe_int (pv 1)) pe_int)))), ?_⟩
  refine ⟨_, rfl, _, rfl, p, _, rfl, .inl hs, _, _, rfl, rfl, _, rfl, ?_⟩
  refine ite2 (fun c => ?_) (fun c => ?_)
  · have c1 := of_decide_eq_true c
    rw [List.length_map] at c1
    obtain ⟨z, hz⟩ := at_script k0 c1
    exact ⟨_, rfl, _, rfl, p, _, _, _, rfl, rfl, hs, hz, q z⟩
  · exact ⟨_, rfl, _, _, rfl, rfl, .inl ⟨by decide, by decide⟩, _, _, rfl, rfl, q _⟩
abbrev s_law_box : Stmt := top 45
theorem sc_law_box : FnScope ["_law_cell_here"] ["_law_cell_here"] (defScope s_law_box) := ⟨rfl, rfl, rfl, by decide +kernel, rfl, by decide +kernel, by decide +kernel⟩
theorem ok_box {f : Addr} {fd : FuncData} (F : Fun K "_law_box" "_law_box" s_law_box f fd) (T : Txt K mg base cs) : FnG P w K mg base CX0 1 f fd ["_law_cell_here"] spBox := by
  refine okG F sc_law_box (fun vs H Q E h => ?_) (fun cdv A outer s H vs Q E hc hr h => ?_)
  · obtain ⟨z, rfl, _⟩ := h
    rfl
  obtain ⟨z, rfl, q⟩ := h
  refine ⟨_, (pss_one (ps_ret (pe_lst (pa_cons (pe_callB (call_max2 rfl) (by rfl) T.z_max (by decide +kernel) (pa_cons pe_int (pa_cons (pe_op op_sub (pv 0) (pe_op op_pow pe_int pe_int)) pa_nil))) (pa_cons (pe_op op_mod (pv 0) pe_int) (pa_cons pe_int pa_nil)))))), ?_⟩
  refine ⟨_, rfl, _, _, rfl, rfl, ⟨by decide, by decide, by decide⟩, _, _, rfl, rfl, _, _, rfl, _, rfl, _, _, rfl, rfl, (by show (0 : Int) < 2147483629; decide), ?_⟩
  refine ⟨(by show 3 ≤ sizeLine; decide), fun p hp => q p _ hp ⟨_, _, _, upd_same, ?_⟩⟩
  have := mod_pos (i := z) (j := 2147483629) (by decide)
  omega
abbrev s_law_take : Stmt := top 46
theorem sc_law_take : FnScope ["_law_box_here", "_law_size", "_law_digit", "_law_mixed"] ["_law_box_here", "_law_size"] (defScope s_law_take) := ⟨rfl, rfl, rfl, by decide +kernel, rfl, by decide +kernel, by decide +kernel⟩
theorem ok_take {f : Addr} {fd : FuncData} (F : Fun K "_law_take" "_law_take" s_law_take f fd) : FnG P w K mg base CX0 1 f fd ["_law_box_here", "_law_size"] spTake := by
  refine okG F sc_law_take (fun vs H Q E h => ?_) (fun cdv A outer s H vs Q E hc hr h => ?_)
  · obtain ⟨p, n, rfl, _⟩ := h
    rfl
  obtain ⟨p, n, rfl, ⟨a, b, c, hp, b0, b1⟩, n0, n1, k⟩ := h
  refine ⟨_, (pss_cons (ps_if (pt_cmpR op_gt (pe_ix ix_list (pv 0) pe_int (fun _ _ => rfl)) pe_int (nomark _))
  (pss_cons (ps_set (i := 2) sc_law_take.nd rfl (Or.inl rfl) (pe_op op_mod (pe_ix ix_list (pv 0) pe_int (fun _ _ => rfl)) (pv 1)))
 (pss_cons (ps_asg (pe_op op_fdivW (pe_ix ix_list (pv 0) pe_int (fun _ _ => rfl)) (pv 1)) (pg_sub (pv 0) pe_int set_list))
 (pss_one (ps_ret (pv 2))))) pss_nil)
 (pss_cons (ps_asg (pe_op op_add (pe_ix ix_list (pv 0) pe_int (fun _ _ => rfl)) pe_int) (pg_sub (pv 0) pe_int set_list))
 (pss_cons (ps_set (i := 3) sc_law_take.nd rfl (Or.inl rfl) (pe_op op_mod (pe_op op_add (pe_op op_add (pe_op op_mul (pe_ix ix_list (pv 0) pe_int (fun _ _ => rfl)) pe_int) (pe_op op_mul pe_int (pe_ix ix_list (pv 0) pe_int (fun _ _ => rfl)))) pe_int) pe_int))
 (pss_cons (ps_asg (pe_op op_mod (pe_op op_add (pe_op op_pow (pv 3) pe_int) (pe_op op_mul pe_int (pe_ix ix_list (pv 0) pe_int (fun _ _ => rfl)))) pe_int) (pg_sub (pv 0) pe_int set_list))
 (pss_one (ps_ret (pe_op op_mod (pe_op op_fdivW (pe_ix ix_list (pv 0) pe_int (fun _ _ => rfl)) pe_int) (pv 1)))))))), ?_⟩
  refine ⟨_, rfl, p, _, _, _, rfl, rfl, SqL.of hp, atI_nat (j := 0) rfl, _, _, rfl, rfl, _, rfl, ?_⟩
  refine ite2 (fun ha => ?_) (fun ha => ?_)
  · refine ⟨_, rfl, p, _, _, _, rfl, rfl, SqL.of hp, atI_nat (j := 0) rfl, _, rfl, _, _, rfl, rfl, n0, ?_⟩
    refine ⟨_, rfl, p, _, _, _, rfl, rfl, SqL.of hp, atI_nat (j := 0) rfl, _, rfl, _, _, rfl, rfl, wide_div (b := 20) n0 (by omega) (by decide) (by decide), ?_⟩
    refine ⟨_, rfl, p, _, _, 0, rfl, rfl, hp, rfl, _, rfl, ?_⟩
    exact k _ _ (mod_pos n0).1 (mod_pos n0).2 (turned_upd b0 b1)
  · refine ⟨_, rfl, p, _, _, _, rfl, rfl, SqL.of hp, atI_nat (j := 2) rfl, _, _, rfl, rfl, ?_⟩
    refine ⟨_, rfl, p, _, _, 2, rfl, rfl, hp, rfl, ?_⟩
    have h1 : ∀ {z : V}, (upd H p (.lst ([V.int a, .int b, .int c].set 2 z))) p = some (.lst [.int a, .int b, z]) := upd_same
    refine ⟨_, rfl, p, _, _, _, rfl, rfl, SqL.of h1, atI_nat (j := 1) rfl, _, _, rfl, rfl, .inr ⟨by decide, by decide⟩, ?_⟩
    refine ⟨_, rfl, p, _, _, _, rfl, rfl, SqL.of h1, atI_nat (j := 2) rfl, _, _, rfl, rfl, .inl ⟨by decide, by decide⟩, _, _, rfl, rfl, _, _, rfl, rfl, _, _, rfl, rfl, (by show (0 : Int) < 2147483647; decide), ?_⟩
    have m0 := mod_pos (i := b * 48271 + 69621 * (c + 1) + 153) (j := 2147483647) (by decide)
    refine ⟨_, rfl, _, _, rfl, rfl, ⟨by decide, by decide, ?_⟩, ?_⟩
    · show ((b * 48271 + 69621 * (c + 1) + 159) % 2147483647).natAbs < 2 ^ 64
      omega
    refine ⟨_, rfl, p, _, _, _, rfl, rfl, SqL.of h1, atI_nat (j := 2) rfl, _, _, rfl, rfl, .inl ⟨by decide, by decide⟩, _, _, rfl, rfl, _, _, rfl, rfl, (by show (0 : Int) < 2147483647; decide), ?_⟩
    refine ⟨_, rfl, p, _, _, 1, rfl, rfl, h1, rfl, ?_⟩
    refine ⟨_, rfl, p, _, _, _, rfl, rfl, SqL.of upd_same, atI_nat (j := 1) rfl, _, _, rfl, rfl, wide_div (b := 5) (by decide) (by decide) (by decide) (by decide), _, rfl, _, _, rfl, rfl, n0, ?_⟩
    refine k _ _ (mod_pos n0).1 (mod_pos n0).2 ?_
    rw [upd_upd]
    exact turned_upd (mod_pos (by decide)).1 (mod_pos (by decide)).2
abbrev s_law_first : Stmt := top 49
theorem sc_law_first : FnScope ["_law_way", "_law_one", "_law_named"] ["_law_way", "_law_one", "_law_named"] (defScope s_law_first) := ⟨rfl, rfl, rfl, by decide +kernel, rfl, by decide +kernel, by decide +kernel⟩
theorem ok_first {f : Addr} {fd : FuncData} (F : Fun K "_law_first" "_law_first" s_law_first f fd) (T : Txt K mg base cs) : FnG P w K mg base CX0 2 f fd ["_law_way", "_law_one", "_law_named"] (spMk cs 0 10) := by
  refine okG F sc_law_first (fun vs H Q E h => ?_) (fun cdv A outer s H vs Q E hc hr h => ?_)
  · obtain ⟨n, v, nm, rfl, _⟩ := h
    rfl
  obtain ⟨n, v, nm, rfl, l1, l2, q⟩ := h
  refine ⟨_, (pss_cons (ps_if (pt_cmpR op_eq (pv 0) pe_int (nomark _))
  (pss_one (ps_ret (pe_ifExp (pt_val (pv 2)) (pe_exvN T.m_InvalidInteger hr (pv 1)) (pe_exv T.m_InvalidInteger hr (pv 1))))) pss_nil)
 (pss_cons (ps_if (pt_cmpR op_eq (pv 0) pe_int (nomark _))
  (pss_one (ps_ret (pe_ifExp (pt_val (pv 2)) (pe_exvN T.m_InvalidName hr (pv 1)) (pe_exv T.m_InvalidName hr (pv 1))))) pss_nil)
 (pss_cons (ps_if (pt_cmpR op_eq (pv 0) pe_int (nomark _))
  (pss_one (ps_ret (pe_ifExp (pt_val (pv 2)) (pe_exvN T.m_InvalidText hr (pv 1)) (pe_exv T.m_InvalidText hr (pv 1))))) pss_nil)
 (pss_cons (ps_if (pt_cmpR op_eq (pv 0) pe_int (nomark _))
  (pss_one (ps_ret (pe_ifExp (pt_val (pv 2)) (pe_exvN T.m_InvalidLetter hr (pv 1)) (pe_exv T.m_InvalidLetter hr (pv 1))))) pss_nil)
 (pss_cons (ps_if (pt_cmpR op_eq (pv 0) pe_int (nomark _))
  (pss_one (ps_ret (pe_ifExp (pt_val (pv 2)) (pe_exvN T.m_InvalidLine hr (pv 1)) (pe_exv T.m_InvalidLine hr (pv 1))))) pss_nil)
 (pss_cons (ps_if (pt_cmpR op_eq (pv 0) pe_int (nomark _))
  (pss_one (ps_ret (pe_ifExp (pt_val (pv 2)) (pe_exvN T.m_InvalidList hr (pv 1)) (pe_exv T.m_InvalidList hr (pv 1))))) pss_nil)
 (pss_cons (ps_if (pt_cmpR op_eq (pv 0) pe_int (nomark _))
  (pss_one (ps_ret (pe_ifExp (pt_val (pv 2)) (pe_exvN T.m_InvalidTree hr (pv 1)) (pe_exv T.m_InvalidTree hr (pv 1))))) pss_nil)
 (pss_cons (ps_if (pt_cmpR op_eq (pv 0) pe_int (nomark _))
  (pss_one (ps_ret (pe_ifExp (pt_val (pv 2)) (pe_exvN T.m_InvalidTable hr (pv 1)) (pe_exv T.m_InvalidTable hr (pv 1))))) pss_nil)
 (pss_cons (ps_if (pt_cmpR op_eq (pv 0) pe_int (nomark _))
  (pss_one (ps_ret (pe_ifExp (pt_val (pv 2)) (pe_exvN T.m_InvalidFormat hr (pv 1)) (pe_exv T.m_InvalidFormat hr (pv 1))))) pss_nil)
 (pss_one (ps_ret (pe_ifExp (pt_val (pv 2)) (pe_exvN T.m_InvalidAlphabet hr (pv 1)) (pe_exv T.m_InvalidAlphabet hr (pv 1)))))))))))))), ?_⟩
  refine ⟨_, rfl, rfl, _, rfl, ?_⟩
  refine iteB (fun c => ?_) (fun c => ?_)
  · have e : n = 0 := int_is (n := 0) c
    subst e
    refine ⟨_, rfl, _, rfl, ?_⟩
    exact iteB (fun _ => ⟨_, rfl, mk_one q⟩) (fun _ => ⟨_, rfl, mk_one q⟩)
  have n0 : n ≠ 0 := int_no (n := 0) c
  refine ⟨_, rfl, rfl, _, rfl, ?_⟩
  refine iteB (fun c => ?_) (fun c => ?_)
  · have e : n = 1 := int_is (n := 1) c
    subst e
    refine ⟨_, rfl, _, rfl, ?_⟩
    exact iteB (fun _ => ⟨_, rfl, mk_one q⟩) (fun _ => ⟨_, rfl, mk_one q⟩)
  have n1 : n ≠ 1 := int_no (n := 1) c
  refine ⟨_, rfl, rfl, _, rfl, ?_⟩
  refine iteB (fun c => ?_) (fun c => ?_)
  · have e : n = 2 := int_is (n := 2) c
    subst e
    refine ⟨_, rfl, _, rfl, ?_⟩
    exact iteB (fun _ => ⟨_, rfl, mk_one q⟩) (fun _ => ⟨_, rfl, mk_one q⟩)
  have n2 : n ≠ 2 := int_no (n := 2) c
  refine ⟨_, rfl, rfl, _, rfl, ?_⟩
  refine iteB (fun c => ?_) (fun c => ?_)
  · have e : n = 3 := int_is (n := 3) c
    subst e
    refine ⟨_, rfl, _, rfl, ?_⟩
    exact iteB (fun _ => ⟨_, rfl, mk_one q⟩) (fun _ => ⟨_, rfl, mk_one q⟩)
  have n3 : n ≠ 3 := int_no (n := 3) c
  refine ⟨_, rfl, rfl, _, rfl, ?_⟩
  refine iteB (fun c => ?_) (fun c => ?_)
  · have e : n = 4 := int_is (n := 4) c
    subst e
    refine ⟨_, rfl, _, rfl, ?_⟩
    exact iteB (fun _ => ⟨_, rfl, mk_one q⟩) (fun _ => ⟨_, rfl, mk_one q⟩)
  have n4 : n ≠ 4 := int_no (n := 4) c
  refine ⟨_, rfl, rfl, _, rfl, ?_⟩
  refine iteB (fun c => ?_) (fun c => ?_)
  · have e : n = 5 := int_is (n := 5) c
    subst e
    refine ⟨_, rfl, _, rfl, ?_⟩
    exact iteB (fun _ => ⟨_, rfl, mk_one q⟩) (fun _ => ⟨_, rfl, mk_one q⟩)
  have n5 : n ≠ 5 := int_no (n := 5) c
  refine ⟨_, rfl, rfl, _, rfl, ?_⟩
  refine iteB (fun c => ?_) (fun c => ?_)
  · have e : n = 6 := int_is (n := 6) c
    subst e
    refine ⟨_, rfl, _, rfl, ?_⟩
    exact iteB (fun _ => ⟨_, rfl, mk_one q⟩) (fun _ => ⟨_, rfl, mk_one q⟩)
  have n6 : n ≠ 6 := int_no (n := 6) c
  refine ⟨_, rfl, rfl, _, rfl, ?_⟩
  refine iteB (fun c => ?_) (fun c => ?_)
  · have e : n = 7 := int_is (n := 7) c
    subst e
    refine ⟨_, rfl, _, rfl, ?_⟩
    exact iteB (fun _ => ⟨_, rfl, mk_one q⟩) (fun _ => ⟨_, rfl, mk_one q⟩)
  have n7 : n ≠ 7 := int_no (n := 7) c
  refine ⟨_, rfl, rfl, _, rfl, ?_⟩
  refine iteB (fun c => ?_) (fun c => ?_)
  · have e : n = 8 := int_is (n := 8) c
    subst e
    refine ⟨_, rfl, _, rfl, ?_⟩
    exact iteB (fun _ => ⟨_, rfl, mk_one q⟩) (fun _ => ⟨_, rfl, mk_one q⟩)
  have n8 : n ≠ 8 := int_no (n := 8) c
  have e : n = 9 := by omega
  subst e
  refine ⟨_, rfl, _, rfl, ?_⟩
  exact iteB (fun _ => ⟨_, rfl, mk_one q⟩) (fun _ => ⟨_, rfl, mk_one q⟩)
end
end K4

namespace K4
open PySem L2 Gd
section
variable {P : Program} {w : World} {K : PySem.W.Frag} {mg : Str → Option Value} {base : Heap} {cs : Nat → Addr}
abbrev s_law_second : Stmt := top 50
theorem sc_law_second : FnScope ["_law_way", "_law_one", "_law_named"] ["_law_way", "_law_one", "_law_named"] (defScope s_law_second) := ⟨rfl, rfl, rfl, by decide +kernel, rfl, by decide +kernel, by decide +kernel⟩
theorem ok_second {f : Addr} {fd : FuncData} (F : Fun K "_law_second" "_law_second" s_law_second f fd) (T : Txt K mg base cs) : FnG P w K mg base CX0 2 f fd ["_law_way", "_law_one", "_law_named"] (spMk cs 10 20) := by
  refine okG F sc_law_second (fun vs H Q E h => ?_) (fun cdv A outer s H vs Q E hc hr h => ?_)
  · obtain ⟨n, v, nm, rfl, _⟩ := h
    rfl
  obtain ⟨n, v, nm, rfl, l1, l2, q⟩ := h
  refine ⟨_, (pss_cons (ps_if (pt_cmpR op_eq (pv 0) pe_int (nomark _))
  (pss_one (ps_ret (pe_ifExp (pt_val (pv 2)) (pe_exvN T.m_InvalidPrice hr (pv 1)) (pe_exv T.m_InvalidPrice hr (pv 1))))) pss_nil)
 (pss_cons (ps_if (pt_cmpR op_eq (pv 0) pe_int (nomark _))
  (pss_one (ps_ret (pe_ifExp (pt_val (pv 2)) (pe_exvN T.m_InvalidPrices hr (pv 1)) (pe_exv T.m_InvalidPrices hr (pv 1))))) pss_nil)
 (pss_cons (ps_if (pt_cmpR op_eq (pv 0) pe_int (nomark _))
  (pss_one (ps_ret (pe_ifExp (pt_val (pv 2)) (pe_exvN T.m_InvalidSymbol hr (pv 1)) (pe_exv T.m_InvalidSymbol hr (pv 1))))) pss_nil)
 (pss_cons (ps_if (pt_cmpR op_eq (pv 0) pe_int (nomark _))
  (pss_one (ps_ret (pe_ifExp (pt_val (pv 2)) (pe_exvN T.m_InvalidScript hr (pv 1)) (pe_exv T.m_InvalidScript hr (pv 1))))) pss_nil)
 (pss_cons (ps_if (pt_cmpR op_eq (pv 0) pe_int (nomark _))
  (pss_one (ps_ret (pe_ifExp (pt_val (pv 2)) (pe_exvN T.m_InvalidMatrix hr (pv 1)) (pe_exv T.m_InvalidMatrix hr (pv 1))))) pss_nil)
 (pss_cons (ps_if (pt_cmpR op_eq (pv 0) pe_int (nomark _))
  (pss_one (ps_ret (pe_ifExp (pt_val (pv 2)) (pe_exvN T.m_NotStable hr (pv 1)) (pe_exv T.m_NotStable hr (pv 1))))) pss_nil)
 (pss_cons (ps_if (pt_cmpR op_eq (pv 0) pe_int (nomark _))
  (pss_one (ps_ret (pe_ifExp (pt_val (pv 2)) (pe_exvN T.m_InvalidPattern hr (pv 1)) (pe_exv T.m_InvalidPattern hr (pv 1))))) pss_nil)
 (pss_cons (ps_if (pt_cmpR op_eq (pv 0) pe_int (nomark _))
  (pss_one (ps_ret (pe_ifExp (pt_val (pv 2)) (pe_exvN T.m_InvalidMember hr (pv 1)) (pe_exv T.m_InvalidMember hr (pv 1))))) pss_nil)
 (pss_cons (ps_if (pt_cmpR op_eq (pv 0) pe_int (nomark _))
  (pss_one (ps_ret (pe_ifExp (pt_val (pv 2)) (pe_exvN T.m_InvalidComparison hr (pv 1)) (pe_exv T.m_InvalidComparison hr (pv 1))))) pss_nil)
 (pss_one (ps_ret (pe_ifExp (pt_val (pv 2)) (pe_exvN T.m_InvalidOnePass hr (pv 1)) (pe_exv T.m_InvalidOnePass hr (pv 1)))))))))))))), ?_⟩
  refine ⟨_, rfl, rfl, _, rfl, ?_⟩
  refine iteB (fun c => ?_) (fun c => ?_)
  · have e : n = 10 := int_is (n := 10) c
    subst e
    refine ⟨_, rfl, _, rfl, ?_⟩
    exact iteB (fun _ => ⟨_, rfl, mk_one q⟩) (fun _ => ⟨_, rfl, mk_one q⟩)
  have n10 : n ≠ 10 := int_no (n := 10) c
  refine ⟨_, rfl, rfl, _, rfl, ?_⟩
  refine iteB (fun c => ?_) (fun c => ?_)
  · have e : n = 11 := int_is (n := 11) c
    subst e
    refine ⟨_, rfl, _, rfl, ?_⟩
    exact iteB (fun _ => ⟨_, rfl, mk_one q⟩) (fun _ => ⟨_, rfl, mk_one q⟩)
  have n11 : n ≠ 11 := int_no (n := 11) c
  refine ⟨_, rfl, rfl, _, rfl, ?_⟩
  refine iteB (fun c => ?_) (fun c => ?_)
  · have e : n = 12 := int_is (n := 12) c
    subst e
    refine ⟨_, rfl, _, rfl, ?_⟩
    exact iteB (fun _ => ⟨_, rfl, mk_one q⟩) (fun _ => ⟨_, rfl, mk_one q⟩)
  have n12 : n ≠ 12 := int_no (n := 12) c
  refine ⟨_, rfl, rfl, _, rfl, ?_⟩
  refine iteB (fun c => ?_) (fun c => ?_)
  · have e : n = 13 := int_is (n := 13) c
    subst e
    refine ⟨_, rfl, _, rfl, ?_⟩
    exact iteB (fun _ => ⟨_, rfl, mk_one q⟩) (fun _ => ⟨_, rfl, mk_one q⟩)
  have n13 : n ≠ 13 := int_no (n := 13) c
  refine ⟨_, rfl, rfl, _, rfl, ?_⟩
  refine iteB (fun c => ?_) (fun c => ?_)
  · have e : n = 14 := int_is (n := 14) c
    subst e
    refine ⟨_, rfl, _, rfl, ?_⟩
    exact iteB (fun _ => ⟨_, rfl, mk_one q⟩) (fun _ => ⟨_, rfl, mk_one q⟩)
  have n14 : n ≠ 14 := int_no (n := 14) c
  refine ⟨_, rfl, rfl, _, rfl, ?_⟩
  refine iteB (fun c => ?_) (fun c => ?_)
  · have e : n = 15 := int_is (n := 15) c
    subst e
    refine ⟨_, rfl, _, rfl, ?_⟩
    exact iteB (fun _ => ⟨_, rfl, mk_one q⟩) (fun _ => ⟨_, rfl, mk_one q⟩)
  have n15 : n ≠ 15 := int_no (n := 15) c
  refine ⟨_, rfl, rfl, _, rfl, ?_⟩
  refine iteB (fun c => ?_) (fun c => ?_)
  · have e : n = 16 := int_is (n := 16) c
    subst e
    refine ⟨_, rfl, _, rfl, ?_⟩
    exact iteB (fun _ => ⟨_, rfl, mk_one q⟩) (fun _ => ⟨_, rfl, mk_one q⟩)
  have n16 : n ≠ 16 := int_no (n := 16) c
  refine ⟨_, rfl, rfl, _, rfl, ?_⟩
  refine iteB (fun c => ?_) (fun c => ?_)
  · have e : n = 17 := int_is (n := 17) c
    subst e
    refine ⟨_, rfl, _, rfl, ?_⟩
    exact iteB (fun _ => ⟨_, rfl, mk_one q⟩) (fun _ => ⟨_, rfl, mk_one q⟩)
  have n17 : n ≠ 17 := int_no (n := 17) c
  refine ⟨_, rfl, rfl, _, rfl, ?_⟩
  refine iteB (fun c => ?_) (fun c => ?_)
  · have e : n = 18 := int_is (n := 18) c
    subst e
    refine ⟨_, rfl, _, rfl, ?_⟩
    exact iteB (fun _ => ⟨_, rfl, mk_one q⟩) (fun _ => ⟨_, rfl, mk_one q⟩)
  have n18 : n ≠ 18 := int_no (n := 18) c
  have e : n = 19 := by omega
  subst e
  refine ⟨_, rfl, _, rfl, ?_⟩
  exact iteB (fun _ => ⟨_, rfl, mk_one q⟩) (fun _ => ⟨_, rfl, mk_one q⟩)
abbrev s_law_third : Stmt := top 51
theorem sc_law_third : FnScope ["_law_way", "_law_one", "_law_named"] ["_law_way", "_law_one", "_law_named"] (defScope s_law_third) := ⟨rfl, rfl, rfl, by decide +kernel, rfl, by decide +kernel, by decide +kernel⟩
theorem ok_third {f : Addr} {fd : FuncData} (F : Fun K "_law_third" "_law_third" s_law_third f fd) (T : Txt K mg base cs) : FnG P w K mg base CX0 2 f fd ["_law_way", "_law_one", "_law_named"] (spMk cs 20 30) := by
  refine okG F sc_law_third (fun vs H Q E h => ?_) (fun cdv A outer s H vs Q E hc hr h => ?_)
  · obtain ⟨n, v, nm, rfl, _⟩ := h
    rfl
  obtain ⟨n, v, nm, rfl, l1, l2, q⟩ := h
  refine ⟨_, (pss_cons (ps_if (pt_cmpR op_eq (pv 0) pe_int (nomark _))
  (pss_one (ps_ret (pe_ifExp (pt_val (pv 2)) (pe_exvN T.m_InvalidCommand hr (pv 1)) (pe_exv T.m_InvalidCommand hr (pv 1))))) pss_nil)
 (pss_cons (ps_if (pt_cmpR op_eq (pv 0) pe_int (nomark _))
  (pss_one (ps_ret (pe_ifExp (pt_val (pv 2)) (pe_exvN T.m_InvalidExpression hr (pv 1)) (pe_exv T.m_InvalidExpression hr (pv 1))))) pss_nil)
 (pss_cons (ps_if (pt_cmpR op_eq (pv 0) pe_int (nomark _))
  (pss_one (ps_ret (pe_ifExp (pt_val (pv 2)) (pe_exvN T.m_InvalidRow hr (pv 1)) (pe_exv T.m_InvalidRow hr (pv 1))))) pss_nil)
 (pss_cons (ps_if (pt_cmpR op_eq (pv 0) pe_int (nomark _))
  (pss_one (ps_ret (pe_ifExp (pt_val (pv 2)) (pe_exvN T.m_TooMany hr (pv 1)) (pe_exv T.m_TooMany hr (pv 1))))) pss_nil)
 (pss_cons (ps_if (pt_cmpR op_eq (pv 0) pe_int (nomark _))
  (pss_one (ps_ret (pe_ifExp (pt_val (pv 2)) (pe_exvN T.m_DuplicateName hr (pv 1)) (pe_exv T.m_DuplicateName hr (pv 1))))) pss_nil)
 (pss_cons (ps_if (pt_cmpR op_eq (pv 0) pe_int (nomark _))
  (pss_one (ps_ret (pe_ifExp (pt_val (pv 2)) (pe_exvN T.m_Circular hr (pv 1)) (pe_exv T.m_Circular hr (pv 1))))) pss_nil)
 (pss_cons (ps_if (pt_cmpR op_eq (pv 0) pe_int (nomark _))
  (pss_one (ps_ret (pe_exv0 T.m_EmptyFormat))) pss_nil)
 (pss_cons (ps_if (pt_cmpR op_eq (pv 0) pe_int (nomark _))
  (pss_one (ps_ret (pe_ifExp (pt_val (pv 2)) (pe_exvN T.m_UnknownName hr (pv 1)) (pe_exv T.m_UnknownName hr (pv 1))))) pss_nil)
 (pss_cons (ps_if (pt_cmpR op_eq (pv 0) pe_int (nomark _))
  (pss_one (ps_ret (pe_ifExp (pt_val (pv 2)) (pe_exvN T.m_UnknownLetter hr (pv 1)) (pe_exv T.m_UnknownLetter hr (pv 1))))) pss_nil)
 (pss_one (ps_ret (pe_ifExp (pt_val (pv 2)) (pe_exvN T.m_MissingText hr (pv 1)) (pe_exv T.m_MissingText hr (pv 1)))))))))))))), ?_⟩
  refine ⟨_, rfl, rfl, _, rfl, ?_⟩
  refine iteB (fun c => ?_) (fun c => ?_)
  · have e : n = 20 := int_is (n := 20) c
    subst e
    refine ⟨_, rfl, _, rfl, ?_⟩
    exact iteB (fun _ => ⟨_, rfl, mk_one q⟩) (fun _ => ⟨_, rfl, mk_one q⟩)
  have n20 : n ≠ 20 := int_no (n := 20) c
  refine ⟨_, rfl, rfl, _, rfl, ?_⟩
  refine iteB (fun c => ?_) (fun c => ?_)
  · have e : n = 21 := int_is (n := 21) c
    subst e
    refine ⟨_, rfl, _, rfl, ?_⟩
    exact iteB (fun _ => ⟨_, rfl, mk_one q⟩) (fun _ => ⟨_, rfl, mk_one q⟩)
  have n21 : n ≠ 21 := int_no (n := 21) c
  refine ⟨_, rfl, rfl, _, rfl, ?_⟩
  refine iteB (fun c => ?_) (fun c => ?_)
  · have e : n = 22 := int_is (n := 22) c
    subst e
    refine ⟨_, rfl, _, rfl, ?_⟩
    exact iteB (fun _ => ⟨_, rfl, mk_one q⟩) (fun _ => ⟨_, rfl, mk_one q⟩)
  have n22 : n ≠ 22 := int_no (n := 22) c
  refine ⟨_, rfl, rfl, _, rfl, ?_⟩
  refine iteB (fun c => ?_) (fun c => ?_)
  · have e : n = 23 := int_is (n := 23) c
    subst e
    refine ⟨_, rfl, _, rfl, ?_⟩
    exact iteB (fun _ => ⟨_, rfl, mk_one q⟩) (fun _ => ⟨_, rfl, mk_one q⟩)
  have n23 : n ≠ 23 := int_no (n := 23) c
  refine ⟨_, rfl, rfl, _, rfl, ?_⟩
  refine iteB (fun c => ?_) (fun c => ?_)
  · have e : n = 24 := int_is (n := 24) c
    subst e
    refine ⟨_, rfl, _, rfl, ?_⟩
    exact iteB (fun _ => ⟨_, rfl, mk_one q⟩) (fun _ => ⟨_, rfl, mk_one q⟩)
  have n24 : n ≠ 24 := int_no (n := 24) c
  refine ⟨_, rfl, rfl, _, rfl, ?_⟩
  refine iteB (fun c => ?_) (fun c => ?_)
  · have e : n = 25 := int_is (n := 25) c
    subst e
    refine ⟨_, rfl, _, rfl, ?_⟩
    exact iteB (fun _ => ⟨_, rfl, mk_one q⟩) (fun _ => ⟨_, rfl, mk_one q⟩)
  have n25 : n ≠ 25 := int_no (n := 25) c
  refine ⟨_, rfl, rfl, _, rfl, ?_⟩
  refine iteB (fun c => ?_) (fun c => ?_)
  · have e : n = 26 := int_is (n := 26) c
    subst e
    exact mk_none q
  have n26 : n ≠ 26 := int_no (n := 26) c
  refine ⟨_, rfl, rfl, _, rfl, ?_⟩
  refine iteB (fun c => ?_) (fun c => ?_)
  · have e : n = 27 := int_is (n := 27) c
    subst e
    refine ⟨_, rfl, _, rfl, ?_⟩
    exact iteB (fun _ => ⟨_, rfl, mk_one q⟩) (fun _ => ⟨_, rfl, mk_one q⟩)
  have n27 : n ≠ 27 := int_no (n := 27) c
  refine ⟨_, rfl, rfl, _, rfl, ?_⟩
  refine iteB (fun c => ?_) (fun c => ?_)
  · have e : n = 28 := int_is (n := 28) c
    subst e
    refine ⟨_, rfl, _, rfl, ?_⟩
    exact iteB (fun _ => ⟨_, rfl, mk_one q⟩) (fun _ => ⟨_, rfl, mk_one q⟩)
  have n28 : n ≠ 28 := int_no (n := 28) c
  have e : n = 29 := by omega
  subst e
  refine ⟨_, rfl, _, rfl, ?_⟩
  exact iteB (fun _ => ⟨_, rfl, mk_one q⟩) (fun _ => ⟨_, rfl, mk_one q⟩)
abbrev s_law_fourth : Stmt := top 52
theorem sc_law_fourth : FnScope ["_law_way", "_law_one", "_law_named"] ["_law_way", "_law_one", "_law_named"] (defScope s_law_fourth) := ⟨rfl, rfl, rfl, by decide +kernel, rfl, by decide +kernel, by decide +kernel⟩
theorem ok_fourth {f : Addr} {fd : FuncData} (F : Fun K "_law_fourth" "_law_fourth" s_law_fourth f fd) (T : Txt K mg base cs) : FnG P w K mg base CX0 2 f fd ["_law_way", "_law_one", "_law_named"] (spMk cs 30 39) := by
  refine okG F sc_law_fourth (fun vs H Q E h => ?_) (fun cdv A outer s H vs Q E hc hr h => ?_)
  · obtain ⟨n, v, nm, rfl, _⟩ := h
    rfl
  obtain ⟨n, v, nm, rfl, l1, l2, q⟩ := h
  refine ⟨_, (pss_cons (ps_if (pt_cmpR op_eq (pv 0) pe_int (nomark _))
  (pss_one (ps_ret (pe_ifExp (pt_val (pv 2)) (pe_exvN T.m_NotIncluded hr (pv 1)) (pe_exv T.m_NotIncluded hr (pv 1))))) pss_nil)
 (pss_cons (ps_if (pt_cmpR op_eq (pv 0) pe_int (nomark _))
  (pss_one (ps_ret (pe_ifExp (pt_val (pv 2)) (pe_exvN T.m_NotPossible hr (pv 1)) (pe_exv T.m_NotPossible hr (pv 1))))) pss_nil)
 (pss_cons (ps_if (pt_cmpR op_eq (pv 0) pe_int (nomark _))
  (pss_one (ps_ret (pe_ifExp (pt_val (pv 2)) (pe_exvN T.m_NotContinuing hr (pv 1)) (pe_exv T.m_NotContinuing hr (pv 1))))) pss_nil)
 (pss_cons (ps_if (pt_cmpR op_eq (pv 0) pe_int (nomark _))
  (pss_one (ps_ret (pe_ifExp (pt_val (pv 2)) (pe_exvN T.m_StillUsed hr (pv 1)) (pe_exv T.m_StillUsed hr (pv 1))))) pss_nil)
 (pss_cons (ps_if (pt_cmpR op_eq (pv 0) pe_int (nomark _))
  (pss_one (ps_ret (pe_exv0 T.m_NoScript))) pss_nil)
 (pss_cons (ps_if (pt_cmpR op_eq (pv 0) pe_int (nomark _))
  (pss_one (ps_ret (pe_exv0 T.m_Finished))) pss_nil)
 (pss_cons (ps_if (pt_cmpR op_eq (pv 0) pe_int (nomark _))
  (pss_one (ps_ret (pe_exv0 T.m_NothingToUndo))) pss_nil)
 (pss_one (ps_ret (pe_ifExp (pt_cmpR op_eq (pv 0) pe_int (nomark _)) (pe_exv0 T.m_DraftOpen) (pe_exv0 T.m_NotOpen))))))))))), ?_⟩
  refine ⟨_, rfl, rfl, _, rfl, ?_⟩
  refine iteB (fun c => ?_) (fun c => ?_)
  · have e : n = 30 := int_is (n := 30) c
    subst e
    refine ⟨_, rfl, _, rfl, ?_⟩
    exact iteB (fun _ => ⟨_, rfl, mk_one q⟩) (fun _ => ⟨_, rfl, mk_one q⟩)
  have n30 : n ≠ 30 := int_no (n := 30) c
  refine ⟨_, rfl, rfl, _, rfl, ?_⟩
  refine iteB (fun c => ?_) (fun c => ?_)
  · have e : n = 31 := int_is (n := 31) c
    subst e
    refine ⟨_, rfl, _, rfl, ?_⟩
    exact iteB (fun _ => ⟨_, rfl, mk_one q⟩) (fun _ => ⟨_, rfl, mk_one q⟩)
  have n31 : n ≠ 31 := int_no (n := 31) c
  refine ⟨_, rfl, rfl, _, rfl, ?_⟩
  refine iteB (fun c => ?_) (fun c => ?_)
  · have e : n = 32 := int_is (n := 32) c
    subst e
    refine ⟨_, rfl, _, rfl, ?_⟩
    exact iteB (fun _ => ⟨_, rfl, mk_one q⟩) (fun _ => ⟨_, rfl, mk_one q⟩)
  have n32 : n ≠ 32 := int_no (n := 32) c
  refine ⟨_, rfl, rfl, _, rfl, ?_⟩
  refine iteB (fun c => ?_) (fun c => ?_)
  · have e : n = 33 := int_is (n := 33) c
    subst e
    refine ⟨_, rfl, _, rfl, ?_⟩
    exact iteB (fun _ => ⟨_, rfl, mk_one q⟩) (fun _ => ⟨_, rfl, mk_one q⟩)
  have n33 : n ≠ 33 := int_no (n := 33) c
  refine ⟨_, rfl, rfl, _, rfl, ?_⟩
  refine iteB (fun c => ?_) (fun c => ?_)
  · have e : n = 34 := int_is (n := 34) c
    subst e
    exact mk_none q
  have n34 : n ≠ 34 := int_no (n := 34) c
  refine ⟨_, rfl, rfl, _, rfl, ?_⟩
  refine iteB (fun c => ?_) (fun c => ?_)
  · have e : n = 35 := int_is (n := 35) c
    subst e
    exact mk_none q
  have n35 : n ≠ 35 := int_no (n := 35) c
  refine ⟨_, rfl, rfl, _, rfl, ?_⟩
  refine iteB (fun c => ?_) (fun c => ?_)
  · have e : n = 36 := int_is (n := 36) c
    subst e
    exact mk_none q
  have n36 : n ≠ 36 := int_no (n := 36) c
  refine ⟨_, rfl, rfl, _, rfl, ?_⟩
  refine iteB (fun c => ?_) (fun c => ?_)
  · have e : n = 37 := int_is (n := 37) c
    subst e
    exact mk_none q
  · have n37 : n ≠ 37 := int_no (n := 37) c
    have e : n = 38 := by omega
    subst e
    exact mk_none q
abbrev s_law_made : Stmt := top 53
theorem sc_law_made : FnScope ["_law_way", "_law_one", "_law_named"] ["_law_way", "_law_one", "_law_named"] (defScope s_law_made) := ⟨rfl, rfl, rfl, by decide +kernel, rfl, by decide +kernel, by decide +kernel⟩
theorem ok_made {f f1 f2 f3 f4 : Addr} {fd fd1 fd2 fd3 fd4 : FuncData} (F : Fun K "_law_made" "_law_made" s_law_made f fd) (T : Txt K mg base cs)
    (D__law_first : Df P w K mg base CX0 2 "_law_first" f1 fd1 ["_law_way", "_law_one", "_law_named"] (spMk cs 0 10))
    (D__law_second : Df P w K mg base CX0 2 "_law_second" f2 fd2 ["_law_way", "_law_one", "_law_named"] (spMk cs 10 20))
    (D__law_third : Df P w K mg base CX0 2 "_law_third" f3 fd3 ["_law_way", "_law_one", "_law_named"] (spMk cs 20 30))
    (D__law_fourth : Df P w K mg base CX0 2 "_law_fourth" f4 fd4 ["_law_way", "_law_one", "_law_named"] (spMk cs 30 39)) :
    FnG P w K mg base CX0 3 f fd ["_law_way", "_law_one", "_law_named"] (spMk cs 0 39) := by
  refine okG F sc_law_made (fun vs H Q E h => ?_) (fun cdv A outer s H vs Q E hc hr h => ?_)
  · obtain ⟨n, v, nm, rfl, _⟩ := h
    rfl
  obtain ⟨n, v, nm, rfl, l1, l2, q⟩ := h
  refine ⟨_, (pss_cons (ps_if (pt_cmpR op_lt (pv 0) pe_int (nomark _))
  (pss_one (ps_ret (pe_ifExp (pt_cmpR op_lt (pv 0) pe_int (nomark _)) (pe_d D__law_first hc (hr.mono (by decide)) (by rfl) (fun _ => passN) (pa_cons (pv 0) (pa_cons (pv 1) (pa_cons (pv 2) pa_nil)))) (pe_d D__law_second hc (hr.mono (by decide)) (by rfl) (fun _ => passN) (pa_cons (pv 0) (pa_cons (pv 1) (pa_cons (pv 2) pa_nil))))))) pss_nil)
 (pss_one (ps_ret (pe_ifExp (pt_cmpR op_lt (pv 0) pe_int (nomark _)) (pe_d D__law_third hc (hr.mono (by decide)) (by rfl) (fun _ => passN) (pa_cons (pv 0) (pa_cons (pv 1) (pa_cons (pv 2) pa_nil)))) (pe_d D__law_fourth hc (hr.mono (by decide)) (by rfl) (fun _ => passN) (pa_cons (pv 0) (pa_cons (pv 1) (pa_cons (pv 2) pa_nil)))))))), ?_⟩
  refine ⟨_, rfl, _, _, rfl, rfl, _, rfl, ?_⟩
  refine iteB (fun c => ?_) (fun c => ?_)
  · have c1 := of_decide_eq_true c
    refine ⟨_, rfl, _, _, rfl, rfl, _, rfl, ?_⟩
    refine iteB (fun c => ?_) (fun c => ?_)
    · have c2 := of_decide_eq_true c
      exact ⟨_, rfl, _, rfl, _, rfl, n, v, nm, rfl, by omega, by omega, q⟩
    · have c2 := of_decide_eq_false c
      exact ⟨_, rfl, _, rfl, _, rfl, n, v, nm, rfl, by omega, by omega, q⟩
  · have c1 := of_decide_eq_false c
    refine ⟨_, rfl, _, _, rfl, rfl, _, rfl, ?_⟩
    refine iteB (fun c => ?_) (fun c => ?_)
    · have c2 := of_decide_eq_true c
      exact ⟨_, rfl, _, rfl, _, rfl, n, v, nm, rfl, by omega, by omega, q⟩
    · have c2 := of_decide_eq_false c
      exact ⟨_, rfl, _, rfl, _, rfl, n, v, nm, rfl, by omega, by omega, q⟩
end
end K4

namespace K4
open PySem L2 Gd
theorem keepO {G : Hp} {q d : Addr} {o u : HO} (h : G q = some o) (hd : G d = none) : upd G d u q = some o := by
  rw [upd_ne (ne_of_none h hd)]
  exact h
theorem _root_.Gd.ExA.same {H G : Hp} {a C : Addr} {fs : List (Str × V)} (h : ExA H a C fs) (s : Same H G) : ExA G a C fs := by
  cases h with
  | one e d => exact .one (s _ _ e) (s _ _ d)
  | none e => exact .none (s _ _ e)
/-- which of the classes ahead it is -/
def row (n m : Nat) : List V := (List.range m).map fun j => V.bl (decide (n = j))
theorem row3 (n m : Nat) : row n m ++ [.bl (decide (n = m)), .bl (decide (n = m + 1)), .bl (decide (n = m + 2))] = row n (m + 3) := by
  unfold row
  rw [List.range_succ, List.range_succ, List.range_succ]
  simp
theorem row_len (n m : Nat) : (row n m).length = m := by simp [row]
def spClasses (cs : Nat → Addr) : Sp := fun vs H Q _ => ∃ (a : Addr) (n : Nat) (fs : List (Str × V)), vs = [.ref a] ∧ n < 42 ∧ ExA H a (cs n) fs ∧ ∀ D G, Same H G → H D = none → G D = some (.lst (row n 39)) → Q (.ref D) G
section
variable {P : Program} {w : World} {K : PySem.W.Frag} {mg : Str → Option Value} {base : Heap} {cs : Nat → Addr}
abbrev s_law_classes : Stmt := top 54
theorem sc_law_classes : FnScope ["_law_e", "_law_found"] ["_law_e"] (defScope s_law_classes) := ⟨rfl, rfl, rfl, by decide +kernel, rfl, by decide +kernel, by decide +kernel⟩
theorem ok_classes {f : Addr} {fd : FuncData} (F : Fun K "_law_classes" "_law_classes" s_law_classes f fd) (T : Txt K mg base cs) : FnG P w K mg base CX0 1 f fd ["_law_e"] (spClasses cs) := by
  refine okG F sc_law_classes (fun vs H Q E h => ?_) (fun cdv A outer s H vs Q E hc hr h => ?_)
  · obtain ⟨a, n, fs, rfl, _⟩ := h
    rfl
  obtain ⟨a, n, fs, rfl, hn, ea, q⟩ := h
  refine ⟨_, (pss_cons (ps_set (i := 1) sc_law_classes.nd rfl (Or.inl rfl) (pe_lst (pa_cons (pe_callB call_isA (by rfl) T.z_isinstance (by decide +kernel) (pa_cons (pv 0) (pa_cons (pe_cls (by rfl) T.m_InvalidInteger.gC) pa_nil))) (pa_cons (pe_callB call_isA (by rfl) T.z_isinstance (by decide +kernel) (pa_cons (pv 0) (pa_cons (pe_cls (by rfl) T.m_InvalidName.gC) pa_nil))) (pa_cons (pe_callB call_isA (by rfl) T.z_isinstance (by decide +kernel) (pa_cons (pv 0) (pa_cons (pe_cls (by rfl) T.m_InvalidText.gC) pa_nil))) pa_nil)))))
 (pss_cons (ps_set (i := 1) sc_law_classes.nd rfl (Or.inl rfl) (pe_op op_cat (pv 1) (pe_lst (pa_cons (pe_callB call_isA (by rfl) T.z_isinstance (by decide +kernel) (pa_cons (pv 0) (pa_cons (pe_cls (by rfl) T.m_InvalidLetter.gC) pa_nil))) (pa_cons (pe_callB call_isA (by rfl) T.z_isinstance (by decide +kernel) (pa_cons (pv 0) (pa_cons (pe_cls (by rfl) T.m_InvalidLine.gC) pa_nil))) (pa_cons (pe_callB call_isA (by rfl) T.z_isinstance (by decide +kernel) (pa_cons (pv 0) (pa_cons (pe_cls (by rfl) T.m_InvalidList.gC) pa_nil))) pa_nil))))))
 (pss_cons (ps_set (i := 1) sc_law_classes.nd rfl (Or.inl rfl) (pe_op op_cat (pv 1) (pe_lst (pa_cons (pe_callB call_isA (by rfl) T.z_isinstance (by decide +kernel) (pa_cons (pv 0) (pa_cons (pe_cls (by rfl) T.m_InvalidTree.gC) pa_nil))) (pa_cons (pe_callB call_isA (by rfl) T.z_isinstance (by decide +kernel) (pa_cons (pv 0) (pa_cons (pe_cls (by rfl) T.m_InvalidTable.gC) pa_nil))) (pa_cons (pe_callB call_isA (by rfl) T.z_isinstance (by decide +kernel) (pa_cons (pv 0) (pa_cons (pe_cls (by rfl) T.m_InvalidFormat.gC) pa_nil))) pa_nil))))))
 (pss_cons (ps_set (i := 1) sc_law_classes.nd rfl (Or.inl rfl) (pe_op op_cat (pv 1) (pe_lst (pa_cons (pe_callB call_isA (by rfl) T.z_isinstance (by decide +kernel) (pa_cons (pv 0) (pa_cons (pe_cls (by rfl) T.m_InvalidAlphabet.gC) pa_nil))) (pa_cons (pe_callB call_isA (by rfl) T.z_isinstance (by decide +kernel) (pa_cons (pv 0) (pa_cons (pe_cls (by rfl) T.m_InvalidPrice.gC) pa_nil))) (pa_cons (pe_callB call_isA (by rfl) T.z_isinstance (by decide +kernel) (pa_cons (pv 0) (pa_cons (pe_cls (by rfl) T.m_InvalidPrices.gC) pa_nil))) pa_nil))))))
 (pss_cons (ps_set (i := 1) sc_law_classes.nd rfl (Or.inl rfl) (pe_op op_cat (pv 1) (pe_lst (pa_cons (pe_callB call_isA (by rfl) T.z_isinstance (by decide +kernel) (pa_cons (pv 0) (pa_cons (pe_cls (by rfl) T.m_InvalidSymbol.gC) pa_nil))) (pa_cons (pe_callB call_isA (by rfl) T.z_isinstance (by decide +kernel) (pa_cons (pv 0) (pa_cons (pe_cls (by rfl) T.m_InvalidScript.gC) pa_nil))) (pa_cons (pe_callB call_isA (by rfl) T.z_isinstance (by decide +kernel) (pa_cons (pv 0) (pa_cons (pe_cls (by rfl) T.m_InvalidMatrix.gC) pa_nil))) pa_nil))))))
 (pss_cons (ps_set (i := 1) sc_law_classes.nd rfl (Or.inl rfl) (pe_op op_cat (pv 1) (pe_lst (pa_cons (pe_callB call_isA (by rfl) T.z_isinstance (by decide +kernel) (pa_cons (pv 0) (pa_cons (pe_cls (by rfl) T.m_NotStable.gC) pa_nil))) (pa_cons (pe_callB call_isA (by rfl) T.z_isinstance (by decide +kernel) (pa_cons (pv 0) (pa_cons (pe_cls (by rfl) T.m_InvalidPattern.gC) pa_nil))) (pa_cons (pe_callB call_isA (by rfl) T.z_isinstance (by decide +kernel) (pa_cons (pv 0) (pa_cons (pe_cls (by rfl) T.m_InvalidMember.gC) pa_nil))) pa_nil))))))
 (pss_cons (ps_set (i := 1) sc_law_classes.nd rfl (Or.inl rfl) (pe_op op_cat (pv 1) (pe_lst (pa_cons (pe_callB call_isA (by rfl) T.z_isinstance (by decide +kernel) (pa_cons (pv 0) (pa_cons (pe_cls (by rfl) T.m_InvalidComparison.gC) pa_nil))) (pa_cons (pe_callB call_isA (by rfl) T.z_isinstance (by decide +kernel) (pa_cons (pv 0) (pa_cons (pe_cls (by rfl) T.m_InvalidOnePass.gC) pa_nil))) (pa_cons (pe_callB call_isA (by rfl) T.z_isinstance (by decide +kernel) (pa_cons (pv 0) (pa_cons (pe_cls (by rfl) T.m_InvalidCommand.gC) pa_nil))) pa_nil))))))
 (pss_cons (ps_set (i := 1) sc_law_classes.nd rfl (Or.inl rfl) (pe_op op_cat (pv 1) (pe_lst (pa_cons (pe_callB call_isA (by rfl) T.z_isinstance (by decide +kernel) (pa_cons (pv 0) (pa_cons (pe_cls (by rfl) T.m_InvalidExpression.gC) pa_nil))) (pa_cons (pe_callB call_isA (by rfl) T.z_isinstance (by decide +kernel) (pa_cons (pv 0) (pa_cons (pe_cls (by rfl) T.m_InvalidRow.gC) pa_nil))) (pa_cons (pe_callB call_isA (by rfl) T.z_isinstance (by decide +kernel) (pa_cons (pv 0) (pa_cons (pe_cls (by rfl) T.m_TooMany.gC) pa_nil))) pa_nil))))))
 (pss_cons (ps_set (i := 1) sc_law_classes.nd rfl (Or.inl rfl) (pe_op op_cat (pv 1) (pe_lst (pa_cons (pe_callB call_isA (by rfl) T.z_isinstance (by decide +kernel) (pa_cons (pv 0) (pa_cons (pe_cls (by rfl) T.m_DuplicateName.gC) pa_nil))) (pa_cons (pe_callB call_isA (by rfl) T.z_isinstance (by decide +kernel) (pa_cons (pv 0) (pa_cons (pe_cls (by rfl) T.m_Circular.gC) pa_nil))) (pa_cons (pe_callB call_isA (by rfl) T.z_isinstance (by decide +kernel) (pa_cons (pv 0) (pa_cons (pe_cls (by rfl) T.m_EmptyFormat.gC) pa_nil))) pa_nil))))))
 (pss_cons (ps_set (i := 1) sc_law_classes.nd rfl (Or.inl rfl) (pe_op op_cat (pv 1) (pe_lst (pa_cons (pe_callB call_isA (by rfl) T.z_isinstance (by decide +kernel) (pa_cons (pv 0) (pa_cons (pe_cls (by rfl) T.m_UnknownName.gC) pa_nil))) (pa_cons (pe_callB call_isA (by rfl) T.z_isinstance (by decide +kernel) (pa_cons (pv 0) (pa_cons (pe_cls (by rfl) T.m_UnknownLetter.gC) pa_nil))) (pa_cons (pe_callB call_isA (by rfl) T.z_isinstance (by decide +kernel) (pa_cons (pv 0) (pa_cons (pe_cls (by rfl) T.m_MissingText.gC) pa_nil))) pa_nil))))))
 (pss_cons (ps_set (i := 1) sc_law_classes.nd rfl (Or.inl rfl) (pe_op op_cat (pv 1) (pe_lst (pa_cons (pe_callB call_isA (by rfl) T.z_isinstance (by decide +kernel) (pa_cons (pv 0) (pa_cons (pe_cls (by rfl) T.m_NotIncluded.gC) pa_nil))) (pa_cons (pe_callB call_isA (by rfl) T.z_isinstance (by decide +kernel) (pa_cons (pv 0) (pa_cons (pe_cls (by rfl) T.m_NotPossible.gC) pa_nil))) (pa_cons (pe_callB call_isA (by rfl) T.z_isinstance (by decide +kernel) (pa_cons (pv 0) (pa_cons (pe_cls (by rfl) T.m_NotContinuing.gC) pa_nil))) pa_nil))))))
 (pss_cons (ps_set (i := 1) sc_law_classes.nd rfl (Or.inl rfl) (pe_op op_cat (pv 1) (pe_lst (pa_cons (pe_callB call_isA (by rfl) T.z_isinstance (by decide +kernel) (pa_cons (pv 0) (pa_cons (pe_cls (by rfl) T.m_StillUsed.gC) pa_nil))) (pa_cons (pe_callB call_isA (by rfl) T.z_isinstance (by decide +kernel) (pa_cons (pv 0) (pa_cons (pe_cls (by rfl) T.m_NoScript.gC) pa_nil))) (pa_cons (pe_callB call_isA (by rfl) T.z_isinstance (by decide +kernel) (pa_cons (pv 0) (pa_cons (pe_cls (by rfl) T.m_Finished.gC) pa_nil))) pa_nil))))))
 (pss_one (ps_ret (pe_op op_cat (pv 1) (pe_lst (pa_cons (pe_callB call_isA (by rfl) T.z_isinstance (by decide +kernel) (pa_cons (pv 0) (pa_cons (pe_cls (by rfl) T.m_NothingToUndo.gC) pa_nil))) (pa_cons (pe_callB call_isA (by rfl) T.z_isinstance (by decide +kernel) (pa_cons (pv 0) (pa_cons (pe_cls (by rfl) T.m_DraftOpen.gC) pa_nil))) (pa_cons (pe_callB call_isA (by rfl) T.z_isinstance (by decide +kernel) (pa_cons (pv 0) (pa_cons (pe_cls (by rfl) T.m_NotOpen.gC) pa_nil))) pa_nil))))))))))))))))))), ?_⟩
  have z16 := sizeLine_eq
  refine ⟨_, rfl, a, cs n, fs, .ref (cs 0), .ref (cs 0), decide (n = 0), rfl, (T.x n hn).1, ea, (fun u h => h), T.kit n 0 hn (by decide), _, rfl, a, cs n, fs, .ref (cs 1), .ref (cs 1), decide (n = 1), rfl, (T.x n hn).1, ea, (fun u h => h), T.kit n 1 hn (by decide), _, rfl, a, cs n, fs, .ref (cs 2), .ref (cs 2), decide (n = 2), rfl, (T.x n hn).1, ea, (fun u h => h), T.kit n 2 hn (by decide), (by show 3 ≤ sizeLine; omega), fun l0 h0 => ?_⟩
  have s0 := same_new (o := .lst [.bl (decide (n = 0)), .bl (decide (n = 1)), .bl (decide (n = 2))]) h0
  have g0 : upd H l0 (.lst [.bl (decide (n = 0)), .bl (decide (n = 1)), .bl (decide (n = 2))]) l0 = some (.lst (row n 3)) := upd_same
  have f0 := h0
  generalize upd H l0 (.lst [.bl (decide (n = 0)), .bl (decide (n = 1)), .bl (decide (n = 2))]) = G0 at s0 g0
  refine ⟨_, rfl, _, rfl, a, cs n, fs, .ref (cs 3), .ref (cs 3), decide (n = 3), rfl, (T.x n hn).1, ea.same s0, (fun u h => h), T.kit n 3 hn (by decide), _, rfl, a, cs n, fs, .ref (cs 4), .ref (cs 4), decide (n = 4), rfl, (T.x n hn).1, ea.same s0, (fun u h => h), T.kit n 4 hn (by decide), _, rfl, a, cs n, fs, .ref (cs 5), .ref (cs 5), decide (n = 5), rfl, (T.x n hn).1, ea.same s0, (fun u h => h), T.kit n 5 hn (by decide), (by show 3 ≤ sizeLine; omega), fun b1 hb1 => ?_⟩
  refine ⟨l0, b1, _, _, rfl, rfl, keepO g0 hb1, upd_same, (by rw [row_len]; show 3 + 3 ≤ sizeLine; omega), fun l1 h1 => ?_⟩
  have s1 := s0.trans ((same_new (o := .lst [V.bl (decide (n = 3)), .bl (decide (n = 4)), .bl (decide (n = 5))]) hb1).trans (same_new (o := .lst (row n 3 ++ [V.bl (decide (n = 3)), .bl (decide (n = 4)), .bl (decide (n = 5))])) h1))
  have f1 : H l1 = none := s0.free (((same_new (o := .lst [V.bl (decide (n = 3)), .bl (decide (n = 4)), .bl (decide (n = 5))]) hb1)).free h1)
  have g1 : upd (upd G0 b1 (.lst [V.bl (decide (n = 3)), .bl (decide (n = 4)), .bl (decide (n = 5))])) l1 (.lst (row n 3 ++ [V.bl (decide (n = 3)), .bl (decide (n = 4)), .bl (decide (n = 5))])) l1 = some (.lst (row n 6)) := by rw [upd_same, row3]
  generalize upd (upd G0 b1 (.lst [V.bl (decide (n = 3)), .bl (decide (n = 4)), .bl (decide (n = 5))])) l1 (.lst (row n 3 ++ [V.bl (decide (n = 3)), .bl (decide (n = 4)), .bl (decide (n = 5))])) = G1 at s1 g1
  refine ⟨_, rfl, _, rfl, a, cs n, fs, .ref (cs 6), .ref (cs 6), decide (n = 6), rfl, (T.x n hn).1, ea.same s1, (fun u h => h), T.kit n 6 hn (by decide), _, rfl, a, cs n, fs, .ref (cs 7), .ref (cs 7), decide (n = 7), rfl, (T.x n hn).1, ea.same s1, (fun u h => h), T.kit n 7 hn (by decide), _, rfl, a, cs n, fs, .ref (cs 8), .ref (cs 8), decide (n = 8), rfl, (T.x n hn).1, ea.same s1, (fun u h => h), T.kit n 8 hn (by decide), (by show 3 ≤ sizeLine; omega), fun b2 hb2 => ?_⟩
  refine ⟨l1, b2, _, _, rfl, rfl, keepO g1 hb2, upd_same, (by rw [row_len]; show 6 + 3 ≤ sizeLine; omega), fun l2 h2 => ?_⟩
  have s2 := s1.trans ((same_new (o := .lst [V.bl (decide (n = 6)), .bl (decide (n = 7)), .bl (decide (n = 8))]) hb2).trans (same_new (o := .lst (row n 6 ++ [V.bl (decide (n = 6)), .bl (decide (n = 7)), .bl (decide (n = 8))])) h2))
  have f2 : H l2 = none := s1.free (((same_new (o := .lst [V.bl (decide (n = 6)), .bl (decide (n = 7)), .bl (decide (n = 8))]) hb2)).free h2)
  have g2 : upd (upd G1 b2 (.lst [V.bl (decide (n = 6)), .bl (decide (n = 7)), .bl (decide (n = 8))])) l2 (.lst (row n 6 ++ [V.bl (decide (n = 6)), .bl (decide (n = 7)), .bl (decide (n = 8))])) l2 = some (.lst (row n 9)) := by rw [upd_same, row3]
  generalize upd (upd G1 b2 (.lst [V.bl (decide (n = 6)), .bl (decide (n = 7)), .bl (decide (n = 8))])) l2 (.lst (row n 6 ++ [V.bl (decide (n = 6)), .bl (decide (n = 7)), .bl (decide (n = 8))])) = G2 at s2 g2
  refine ⟨_, rfl, _, rfl, a, cs n, fs, .ref (cs 9), .ref (cs 9), decide (n = 9), rfl, (T.x n hn).1, ea.same s2, (fun u h => h), T.kit n 9 hn (by decide), _, rfl, a, cs n, fs, .ref (cs 10), .ref (cs 10), decide (n = 10), rfl, (T.x n hn).1, ea.same s2, (fun u h => h), T.kit n 10 hn (by decide), _, rfl, a, cs n, fs, .ref (cs 11), .ref (cs 11), decide (n = 11), rfl, (T.x n hn).1, ea.same s2, (fun u h => h), T.kit n 11 hn (by decide), (by show 3 ≤ sizeLine; omega), fun b3 hb3 => ?_⟩
  refine ⟨l2, b3, _, _, rfl, rfl, keepO g2 hb3, upd_same, (by rw [row_len]; show 9 + 3 ≤ sizeLine; omega), fun l3 h3 => ?_⟩
  have s3 := s2.trans ((same_new (o := .lst [V.bl (decide (n = 9)), .bl (decide (n = 10)), .bl (decide (n = 11))]) hb3).trans (same_new (o := .lst (row n 9 ++ [V.bl (decide (n = 9)), .bl (decide (n = 10)), .bl (decide (n = 11))])) h3))
  have f3 : H l3 = none := s2.free (((same_new (o := .lst [V.bl (decide (n = 9)), .bl (decide (n = 10)), .bl (decide (n = 11))]) hb3)).free h3)
  have g3 : upd (upd G2 b3 (.lst [V.bl (decide (n = 9)), .bl (decide (n = 10)), .bl (decide (n = 11))])) l3 (.lst (row n 9 ++ [V.bl (decide (n = 9)), .bl (decide (n = 10)), .bl (decide (n = 11))])) l3 = some (.lst (row n 12)) := by rw [upd_same, row3]
  generalize upd (upd G2 b3 (.lst [V.bl (decide (n = 9)), .bl (decide (n = 10)), .bl (decide (n = 11))])) l3 (.lst (row n 9 ++ [V.bl (decide (n = 9)), .bl (decide (n = 10)), .bl (decide (n = 11))])) = G3 at s3 g3
  refine ⟨_, rfl, _, rfl, a, cs n, fs, .ref (cs 12), .ref (cs 12), decide (n = 12), rfl, (T.x n hn).1, ea.same s3, (fun u h => h), T.kit n 12 hn (by decide), _, rfl, a, cs n, fs, .ref (cs 13), .ref (cs 13), decide (n = 13), rfl, (T.x n hn).1, ea.same s3, (fun u h => h), T.kit n 13 hn (by decide), _, rfl, a, cs n, fs, .ref (cs 14), .ref (cs 14), decide (n = 14), rfl, (T.x n hn).1, ea.same s3, (fun u h => h), T.kit n 14 hn (by decide), (by show 3 ≤ sizeLine; omega), fun b4 hb4 => ?_⟩
  refine ⟨l3, b4, _, _, rfl, rfl, keepO g3 hb4, upd_same, (by rw [row_len]; show 12 + 3 ≤ sizeLine; omega), fun l4 h4 => ?_⟩
  have s4 := s3.trans ((same_new (o := .lst [V.bl (decide (n = 12)), .bl (decide (n = 13)), .bl (decide (n = 14))]) hb4).trans (same_new (o := .lst (row n 12 ++ [V.bl (decide (n = 12)), .bl (decide (n = 13)), .bl (decide (n = 14))])) h4))
  have f4 : H l4 = none := s3.free (((same_new (o := .lst [V.bl (decide (n = 12)), .bl (decide (n = 13)), .bl (decide (n = 14))]) hb4)).free h4)
  have g4 : upd (upd G3 b4 (.lst [V.bl (decide (n = 12)), .bl (decide (n = 13)), .bl (decide (n = 14))])) l4 (.lst (row n 12 ++ [V.bl (decide (n = 12)), .bl (decide (n = 13)), .bl (decide (n = 14))])) l4 = some (.lst (row n 15)) := by rw [upd_same, row3]
  generalize upd (upd G3 b4 (.lst [V.bl (decide (n = 12)), .bl (decide (n = 13)), .bl (decide (n = 14))])) l4 (.lst (row n 12 ++ [V.bl (decide (n = 12)), .bl (decide (n = 13)), .bl (decide (n = 14))])) = G4 at s4 g4
  refine ⟨_, rfl, _, rfl, a, cs n, fs, .ref (cs 15), .ref (cs 15), decide (n = 15), rfl, (T.x n hn).1, ea.same s4, (fun u h => h), T.kit n 15 hn (by decide), _, rfl, a, cs n, fs, .ref (cs 16), .ref (cs 16), decide (n = 16), rfl, (T.x n hn).1, ea.same s4, (fun u h => h), T.kit n 16 hn (by decide), _, rfl, a, cs n, fs, .ref (cs 17), .ref (cs 17), decide (n = 17), rfl, (T.x n hn).1, ea.same s4, (fun u h => h), T.kit n 17 hn (by decide), (by show 3 ≤ sizeLine; omega), fun b5 hb5 => ?_⟩
  refine ⟨l4, b5, _, _, rfl, rfl, keepO g4 hb5, upd_same, (by rw [row_len]; show 15 + 3 ≤ sizeLine; omega), fun l5 h5 => ?_⟩
  have s5 := s4.trans ((same_new (o := .lst [V.bl (decide (n = 15)), .bl (decide (n = 16)), .bl (decide (n = 17))]) hb5).trans (same_new (o := .lst (row n 15 ++ [V.bl (decide (n = 15)), .bl (decide (n = 16)), .bl (decide (n = 17))])) h5))
  have f5 : H l5 = none := s4.free (((same_new (o := .lst [V.bl (decide (n = 15)), .bl (decide (n = 16)), .bl (decide (n = 17))]) hb5)).free h5)
  have g5 : upd (upd G4 b5 (.lst [V.bl (decide (n = 15)), .bl (decide (n = 16)), .bl (decide (n = 17))])) l5 (.lst (row n 15 ++ [V.bl (decide (n = 15)), .bl (decide (n = 16)), .bl (decide (n = 17))])) l5 = some (.lst (row n 18)) := by rw [upd_same, row3]
  generalize upd (upd G4 b5 (.lst [V.bl (decide (n = 15)), .bl (decide (n = 16)), .bl (decide (n = 17))])) l5 (.lst (row n 15 ++ [V.bl (decide (n = 15)), .bl (decide (n = 16)), .bl (decide (n = 17))])) = G5 at s5 g5
  refine ⟨_, rfl, _, rfl, a, cs n, fs, .ref (cs 18), .ref (cs 18), decide (n = 18), rfl, (T.x n hn).1, ea.same s5, (fun u h => h), T.kit n 18 hn (by decide), _, rfl, a, cs n, fs, .ref (cs 19), .ref (cs 19), decide (n = 19), rfl, (T.x n hn).1, ea.same s5, (fun u h => h), T.kit n 19 hn (by decide), _, rfl, a, cs n, fs, .ref (cs 20), .ref (cs 20), decide (n = 20), rfl, (T.x n hn).1, ea.same s5, (fun u h => h), T.kit n 20 hn (by decide), (by show 3 ≤ sizeLine; omega), fun b6 hb6 => ?_⟩
  refine ⟨l5, b6, _, _, rfl, rfl, keepO g5 hb6, upd_same, (by rw [row_len]; show 18 + 3 ≤ sizeLine; omega), fun l6 h6 => ?_⟩
  have s6 := s5.trans ((same_new (o := .lst [V.bl (decide (n = 18)), .bl (decide (n = 19)), .bl (decide (n = 20))]) hb6).trans (same_new (o := .lst (row n 18 ++ [V.bl (decide (n = 18)), .bl (decide (n = 19)), .bl (decide (n = 20))])) h6))
  have f6 : H l6 = none := s5.free (((same_new (o := .lst [V.bl (decide (n = 18)), .bl (decide (n = 19)), .bl (decide (n = 20))]) hb6)).free h6)
  have g6 : upd (upd G5 b6 (.lst [V.bl (decide (n = 18)), .bl (decide (n = 19)), .bl (decide (n = 20))])) l6 (.lst (row n 18 ++ [V.bl (decide (n = 18)), .bl (decide (n = 19)), .bl (decide (n = 20))])) l6 = some (.lst (row n 21)) := by rw [upd_same, row3]
  generalize upd (upd G5 b6 (.lst [V.bl (decide (n = 18)), .bl (decide (n = 19)), .bl (decide (n = 20))])) l6 (.lst (row n 18 ++ [V.bl (decide (n = 18)), .bl (decide (n = 19)), .bl (decide (n = 20))])) = G6 at s6 g6
  refine ⟨_, rfl, _, rfl, a, cs n, fs, .ref (cs 21), .ref (cs 21), decide (n = 21), rfl, (T.x n hn).1, ea.same s6, (fun u h => h), T.kit n 21 hn (by decide), _, rfl, a, cs n, fs, .ref (cs 22), .ref (cs 22), decide (n = 22), rfl, (T.x n hn).1, ea.same s6, (fun u h => h), T.kit n 22 hn (by decide), _, rfl, a, cs n, fs, .ref (cs 23), .ref (cs 23), decide (n = 23), rfl, (T.x n hn).1, ea.same s6, (fun u h => h), T.kit n 23 hn (by decide), (by show 3 ≤ sizeLine; omega), fun b7 hb7 => ?_⟩
  refine ⟨l6, b7, _, _, rfl, rfl, keepO g6 hb7, upd_same, (by rw [row_len]; show 21 + 3 ≤ sizeLine; omega), fun l7 h7 => ?_⟩
  have s7 := s6.trans ((same_new (o := .lst [V.bl (decide (n = 21)), .bl (decide (n = 22)), .bl (decide (n = 23))]) hb7).trans (same_new (o := .lst (row n 21 ++ [V.bl (decide (n = 21)), .bl (decide (n = 22)), .bl (decide (n = 23))])) h7))
  have f7 : H l7 = none := s6.free (((same_new (o := .lst [V.bl (decide (n = 21)), .bl (decide (n = 22)), .bl (decide (n = 23))]) hb7)).free h7)
  have g7 : upd (upd G6 b7 (.lst [V.bl (decide (n = 21)), .bl (decide (n = 22)), .bl (decide (n = 23))])) l7 (.lst (row n 21 ++ [V.bl (decide (n = 21)), .bl (decide (n = 22)), .bl (decide (n = 23))])) l7 = some (.lst (row n 24)) := by rw [upd_same, row3]
  generalize upd (upd G6 b7 (.lst [V.bl (decide (n = 21)), .bl (decide (n = 22)), .bl (decide (n = 23))])) l7 (.lst (row n 21 ++ [V.bl (decide (n = 21)), .bl (decide (n = 22)), .bl (decide (n = 23))])) = G7 at s7 g7
  refine ⟨_, rfl, _, rfl, a, cs n, fs, .ref (cs 24), .ref (cs 24), decide (n = 24), rfl, (T.x n hn).1, ea.same s7, (fun u h => h), T.kit n 24 hn (by decide), _, rfl, a, cs n, fs, .ref (cs 25), .ref (cs 25), decide (n = 25), rfl, (T.x n hn).1, ea.same s7, (fun u h => h), T.kit n 25 hn (by decide), _, rfl, a, cs n, fs, .ref (cs 26), .ref (cs 26), decide (n = 26), rfl, (T.x n hn).1, ea.same s7, (fun u h => h), T.kit n 26 hn (by decide), (by show 3 ≤ sizeLine; omega), fun b8 hb8 => ?_⟩
  refine ⟨l7, b8, _, _, rfl, rfl, keepO g7 hb8, upd_same, (by rw [row_len]; show 24 + 3 ≤ sizeLine; omega), fun l8 h8 => ?_⟩
  have s8 := s7.trans ((same_new (o := .lst [V.bl (decide (n = 24)), .bl (decide (n = 25)), .bl (decide (n = 26))]) hb8).trans (same_new (o := .lst (row n 24 ++ [V.bl (decide (n = 24)), .bl (decide (n = 25)), .bl (decide (n = 26))])) h8))
  have f8 : H l8 = none := s7.free (((same_new (o := .lst [V.bl (decide (n = 24)), .bl (decide (n = 25)), .bl (decide (n = 26))]) hb8)).free h8)
  have g8 : upd (upd G7 b8 (.lst [V.bl (decide (n = 24)), .bl (decide (n = 25)), .bl (decide (n = 26))])) l8 (.lst (row n 24 ++ [V.bl (decide (n = 24)), .bl (decide (n = 25)), .bl (decide (n = 26))])) l8 = some (.lst (row n 27)) := by rw [upd_same, row3]
  generalize upd (upd G7 b8 (.lst [V.bl (decide (n = 24)), .bl (decide (n = 25)), .bl (decide (n = 26))])) l8 (.lst (row n 24 ++ [V.bl (decide (n = 24)), .bl (decide (n = 25)), .bl (decide (n = 26))])) = G8 at s8 g8
  refine ⟨_, rfl, _, rfl, a, cs n, fs, .ref (cs 27), .ref (cs 27), decide (n = 27), rfl, (T.x n hn).1, ea.same s8, (fun u h => h), T.kit n 27 hn (by decide), _, rfl, a, cs n, fs, .ref (cs 28), .ref (cs 28), decide (n = 28), rfl, (T.x n hn).1, ea.same s8, (fun u h => h), T.kit n 28 hn (by decide), _, rfl, a, cs n, fs, .ref (cs 29), .ref (cs 29), decide (n = 29), rfl, (T.x n hn).1, ea.same s8, (fun u h => h), T.kit n 29 hn (by decide), (by show 3 ≤ sizeLine; omega), fun b9 hb9 => ?_⟩
  refine ⟨l8, b9, _, _, rfl, rfl, keepO g8 hb9, upd_same, (by rw [row_len]; show 27 + 3 ≤ sizeLine; omega), fun l9 h9 => ?_⟩
  have s9 := s8.trans ((same_new (o := .lst [V.bl (decide (n = 27)), .bl (decide (n = 28)), .bl (decide (n = 29))]) hb9).trans (same_new (o := .lst (row n 27 ++ [V.bl (decide (n = 27)), .bl (decide (n = 28)), .bl (decide (n = 29))])) h9))
  have f9 : H l9 = none := s8.free (((same_new (o := .lst [V.bl (decide (n = 27)), .bl (decide (n = 28)), .bl (decide (n = 29))]) hb9)).free h9)
  have g9 : upd (upd G8 b9 (.lst [V.bl (decide (n = 27)), .bl (decide (n = 28)), .bl (decide (n = 29))])) l9 (.lst (row n 27 ++ [V.bl (decide (n = 27)), .bl (decide (n = 28)), .bl (decide (n = 29))])) l9 = some (.lst (row n 30)) := by rw [upd_same, row3]
  generalize upd (upd G8 b9 (.lst [V.bl (decide (n = 27)), .bl (decide (n = 28)), .bl (decide (n = 29))])) l9 (.lst (row n 27 ++ [V.bl (decide (n = 27)), .bl (decide (n = 28)), .bl (decide (n = 29))])) = G9 at s9 g9
  refine ⟨_, rfl, _, rfl, a, cs n, fs, .ref (cs 30), .ref (cs 30), decide (n = 30), rfl, (T.x n hn).1, ea.same s9, (fun u h => h), T.kit n 30 hn (by decide), _, rfl, a, cs n, fs, .ref (cs 31), .ref (cs 31), decide (n = 31), rfl, (T.x n hn).1, ea.same s9, (fun u h => h), T.kit n 31 hn (by decide), _, rfl, a, cs n, fs, .ref (cs 32), .ref (cs 32), decide (n = 32), rfl, (T.x n hn).1, ea.same s9, (fun u h => h), T.kit n 32 hn (by decide), (by show 3 ≤ sizeLine; omega), fun b10 hb10 => ?_⟩
  refine ⟨l9, b10, _, _, rfl, rfl, keepO g9 hb10, upd_same, (by rw [row_len]; show 30 + 3 ≤ sizeLine; omega), fun l10 h10 => ?_⟩
  have s10 := s9.trans ((same_new (o := .lst [V.bl (decide (n = 30)), .bl (decide (n = 31)), .bl (decide (n = 32))]) hb10).trans (same_new (o := .lst (row n 30 ++ [V.bl (decide (n = 30)), .bl (decide (n = 31)), .bl (decide (n = 32))])) h10))
  have f10 : H l10 = none := s9.free (((same_new (o := .lst [V.bl (decide (n = 30)), .bl (decide (n = 31)), .bl (decide (n = 32))]) hb10)).free h10)
  have g10 : upd (upd G9 b10 (.lst [V.bl (decide (n = 30)), .bl (decide (n = 31)), .bl (decide (n = 32))])) l10 (.lst (row n 30 ++ [V.bl (decide (n = 30)), .bl (decide (n = 31)), .bl (decide (n = 32))])) l10 = some (.lst (row n 33)) := by rw [upd_same, row3]
  generalize upd (upd G9 b10 (.lst [V.bl (decide (n = 30)), .bl (decide (n = 31)), .bl (decide (n = 32))])) l10 (.lst (row n 30 ++ [V.bl (decide (n = 30)), .bl (decide (n = 31)), .bl (decide (n = 32))])) = G10 at s10 g10
  refine ⟨_, rfl, _, rfl, a, cs n, fs, .ref (cs 33), .ref (cs 33), decide (n = 33), rfl, (T.x n hn).1, ea.same s10, (fun u h => h), T.kit n 33 hn (by decide), _, rfl, a, cs n, fs, .ref (cs 34), .ref (cs 34), decide (n = 34), rfl, (T.x n hn).1, ea.same s10, (fun u h => h), T.kit n 34 hn (by decide), _, rfl, a, cs n, fs, .ref (cs 35), .ref (cs 35), decide (n = 35), rfl, (T.x n hn).1, ea.same s10, (fun u h => h), T.kit n 35 hn (by decide), (by show 3 ≤ sizeLine; omega), fun b11 hb11 => ?_⟩
  refine ⟨l10, b11, _, _, rfl, rfl, keepO g10 hb11, upd_same, (by rw [row_len]; show 33 + 3 ≤ sizeLine; omega), fun l11 h11 => ?_⟩
  have s11 := s10.trans ((same_new (o := .lst [V.bl (decide (n = 33)), .bl (decide (n = 34)), .bl (decide (n = 35))]) hb11).trans (same_new (o := .lst (row n 33 ++ [V.bl (decide (n = 33)), .bl (decide (n = 34)), .bl (decide (n = 35))])) h11))
  have f11 : H l11 = none := s10.free (((same_new (o := .lst [V.bl (decide (n = 33)), .bl (decide (n = 34)), .bl (decide (n = 35))]) hb11)).free h11)
  have g11 : upd (upd G10 b11 (.lst [V.bl (decide (n = 33)), .bl (decide (n = 34)), .bl (decide (n = 35))])) l11 (.lst (row n 33 ++ [V.bl (decide (n = 33)), .bl (decide (n = 34)), .bl (decide (n = 35))])) l11 = some (.lst (row n 36)) := by rw [upd_same, row3]
  generalize upd (upd G10 b11 (.lst [V.bl (decide (n = 33)), .bl (decide (n = 34)), .bl (decide (n = 35))])) l11 (.lst (row n 33 ++ [V.bl (decide (n = 33)), .bl (decide (n = 34)), .bl (decide (n = 35))])) = G11 at s11 g11
  refine ⟨_, rfl, _, rfl, a, cs n, fs, .ref (cs 36), .ref (cs 36), decide (n = 36), rfl, (T.x n hn).1, ea.same s11, (fun u h => h), T.kit n 36 hn (by decide), _, rfl, a, cs n, fs, .ref (cs 37), .ref (cs 37), decide (n = 37), rfl, (T.x n hn).1, ea.same s11, (fun u h => h), T.kit n 37 hn (by decide), _, rfl, a, cs n, fs, .ref (cs 38), .ref (cs 38), decide (n = 38), rfl, (T.x n hn).1, ea.same s11, (fun u h => h), T.kit n 38 hn (by decide), (by show 3 ≤ sizeLine; omega), fun b12 hb12 => ?_⟩
  refine ⟨l11, b12, _, _, rfl, rfl, keepO g11 hb12, upd_same, (by rw [row_len]; show 36 + 3 ≤ sizeLine; omega), fun l12 h12 => ?_⟩
  have s12 := s11.trans ((same_new (o := .lst [V.bl (decide (n = 36)), .bl (decide (n = 37)), .bl (decide (n = 38))]) hb12).trans (same_new (o := .lst (row n 36 ++ [V.bl (decide (n = 36)), .bl (decide (n = 37)), .bl (decide (n = 38))])) h12))
  have f12 : H l12 = none := s11.free (((same_new (o := .lst [V.bl (decide (n = 36)), .bl (decide (n = 37)), .bl (decide (n = 38))]) hb12)).free h12)
  have g12 : upd (upd G11 b12 (.lst [V.bl (decide (n = 36)), .bl (decide (n = 37)), .bl (decide (n = 38))])) l12 (.lst (row n 36 ++ [V.bl (decide (n = 36)), .bl (decide (n = 37)), .bl (decide (n = 38))])) l12 = some (.lst (row n 39)) := by rw [upd_same, row3]
  exact q l12 _ s12 f12 g12
end
end K4

namespace K4
open PySem L2 Gd
/-- the row of the bases that are due -/
def brow (n : Nat) : List V := [.bl (decide (grp n = 0)), .bl (decide (grp n = 1)), .bl (decide (grp n = 2)), .bl (decide (grp n = 0)), .bl (decide (grp n = 1)), .bl (!decide (grp n = 0))]
def spBases (cs : Nat → Addr) : Sp := fun vs H Q _ => ∃ (a : Addr) (n : Nat) (fs : List (Str × V)), vs = [.ref a] ∧ n < 42 ∧ ExA H a (cs n) fs ∧ ∀ D G, Same H G → H D = none → G D = some (.lst (brow n)) → Q (.ref D) G
def spFields (cs : Nat → Addr) : Sp := fun vs H Q _ => ∃ (a : Addr) (n : Nat) (v : V), vs = [.int (n : Nat), .ref a] ∧ n < 39 ∧ ExA H a (cs n) (fds n v) ∧ ∀ D G, Same H G → H D = none → G D = some (.lst ((fds n v).map (·.2))) → Q (.ref D) G
theorem fds_some {n : Nat} {v : V} {f : Str} (hf : fld n = some f) : fds n v = [(f, v)] := by unfold fds; rw [hf]
theorem one_of {H : Hp} {a C : Addr} {n : Nat} {v : V} {f : Str} (hf : fld n = some f) (h : ExA H a C (fds n v)) : ∃ d, H a = some (exa a C (some d)) ∧ H d = some (.xd [(f, v)]) := by
  rw [fds_some hf] at h
  cases h with
  | one e d => exact ⟨_, e, d⟩
theorem in3 {n a b c : Nat} : inV (.int (n : Nat)) [.int (a : Nat), .int (b : Nat), .int (c : Nat)] = decide (n = a ∨ n = b ∨ n = c) := by
  unfold inV
  simp only [List.any, eqV, Bool.or_false]
  rw [Bool.eq_iff_iff]
  simp
  omega
theorem in2 {n a b : Nat} : inV (.int (n : Nat)) [.int (a : Nat), .int (b : Nat)] = decide (n = a ∨ n = b) := by
  unfold inV
  simp only [List.any, eqV, Bool.or_false]
  rw [Bool.eq_iff_iff]
  simp
  omega
theorem fds_none {n : Nat} {v : V} (h : n = 26 ∨ n ≥ 34) (h' : n ≠ 30) : fds n v = [] := by
  have : fld n = none := by
    unfold fld
    rw [if_neg (by omega), if_neg (by omega), if_neg (by omega), if_neg (by omega), if_neg (by omega), if_neg (by omega), if_neg (by omega)]
  unfold fds
  rw [this]
section
variable {P : Program} {w : World} {K : PySem.W.Frag} {mg : Str → Option Value} {base : Heap} {cs : Nat → Addr}
abbrev s_law_bases : Stmt := top 55
theorem sc_law_bases : FnScope ["_law_e", "_law_found"] ["_law_e"] (defScope s_law_bases) := ⟨rfl, rfl, rfl, by decide +kernel, rfl, by decide +kernel, by decide +kernel⟩
theorem ok_bases {f : Addr} {fd : FuncData} (F : Fun K "_law_bases" "_law_bases" s_law_bases f fd) (T : Txt K mg base cs) : FnG P w K mg base CX0 1 f fd ["_law_e"] (spBases cs) := by
  refine okG F sc_law_bases (fun vs H Q E h => ?_) (fun cdv A outer s H vs Q E hc hr h => ?_)
  · obtain ⟨a, n, fs, rfl, _⟩ := h
    rfl
  obtain ⟨a, n, fs, rfl, hn, ea, q⟩ := h
  refine ⟨_, (pss_cons (ps_set (i := 1) sc_law_bases.nd rfl (Or.inl rfl) (pe_lst (pa_cons (pe_callB call_isA (by rfl) T.z_isinstance (by decide +kernel) (pa_cons (pv 0) (pa_cons (pe_cls (by rfl) T.m_FormatError.gC) pa_nil))) (pa_cons (pe_callB call_isA (by rfl) T.z_isinstance (by decide +kernel) (pa_cons (pv 0) (pa_cons (pe_cls (by rfl) T.m_MissingError.gC) pa_nil))) (pa_cons (pe_callB call_isA (by rfl) T.z_isinstance (by decide +kernel) (pa_cons (pv 0) (pa_cons (pe_cls (by rfl) T.m_StateError.gC) pa_nil))) pa_nil)))))
 (pss_cons (ps_set (i := 1) sc_law_bases.nd rfl (Or.inl rfl) (pe_op op_cat (pv 1) (pe_lst (pa_cons (pe_callB call_isA (by rfl) T.z_isinstance (by decide +kernel) (pa_cons (pv 0) (pa_cons (pe_bltn (v := .ty "ValueError") (by rfl) T.z_ValueError (by decide +kernel) rfl) pa_nil))) (pa_cons (pe_callB call_isA (by rfl) T.z_isinstance (by decide +kernel) (pa_cons (pv 0) (pa_cons (pe_bltn (v := .ty "KeyError") (by rfl) T.z_KeyError (by decide +kernel) rfl) pa_nil))) (pa_cons (pe_callB call_isA (by rfl) T.z_isinstance (by decide +kernel) (pa_cons (pv 0) (pa_cons (pe_bltn (v := .ty "LookupError") (by rfl) T.z_LookupError (by decide +kernel) rfl) pa_nil))) pa_nil))))))
 (pss_one (ps_ret (pe_lst (pa_cons (pe_ix ix_list (pv 1) pe_int (fun _ _ => rfl)) (pa_cons (pe_ix ix_list (pv 1) pe_int (fun _ _ => rfl)) (pa_cons (pe_ix ix_list (pv 1) pe_int (fun _ _ => rfl)) (pa_cons (pe_ix ix_list (pv 1) pe_int (fun _ _ => rfl)) (pa_cons (pe_ix ix_list (pv 1) pe_int (fun _ _ => rfl)) (pa_cons (pe_and (pe_ix ix_list (pv 1) pe_int (fun _ _ => rfl)) (pe_one (pe_not (pe_callB call_isA (by rfl) T.z_isinstance (by decide +kernel) (pa_cons (pv 0) (pa_cons (pe_bltn (v := .ty "IndexError") (by rfl) T.z_IndexError (by decide +kernel) rfl) pa_nil)))))) pa_nil))))))))))), ?_⟩
  have z16 := sizeLine_eq
  have m (i : Nat) (b : Bool) (c : V) (cv : Value) (hc : ∀ u, RelV c u → u = cv) (hk : PySem.W.kitOne K (.ref (cs n)) cv = some b) : True := trivial
  refine ⟨_, rfl, a, cs n, fs, .ref (cs 39), .ref (cs 39), _, rfl, (T.x n hn).1, ea, (fun u h => h), T.kb n 0 hn (by decide), _, rfl, a, cs n, fs, .ref (cs 40), .ref (cs 40), _, rfl, (T.x n hn).1, ea, (fun u h => h), T.kb n 1 hn (by decide), _, rfl, a, cs n, fs, .ref (cs 41), .ref (cs 41), _, rfl, (T.x n hn).1, ea, (fun u h => h), T.kb n 2 hn (by decide), (by show 3 ≤ sizeLine; omega), fun l0 h0 => ?_⟩
  have s0 := same_new (o := .lst [.bl (decide (grp n = 0)), .bl (decide (grp n = 1)), .bl (decide (grp n = 2))]) h0
  have g0 : upd H l0 (.lst [.bl (decide (grp n = 0)), .bl (decide (grp n = 1)), .bl (decide (grp n = 2))]) l0 = some (.lst [.bl (decide (grp n = 0)), .bl (decide (grp n = 1)), .bl (decide (grp n = 2))]) := upd_same
  generalize upd H l0 (.lst [.bl (decide (grp n = 0)), .bl (decide (grp n = 1)), .bl (decide (grp n = 2))]) = G0 at s0 g0
  refine ⟨_, rfl, _, rfl, a, cs n, fs, .ty "ValueError", .type "ValueError", _, rfl, (T.x n hn).1, ea.same s0, (fun u h => h), T.kv n hn, _, rfl, a, cs n, fs, .ty "KeyError", .type "KeyError", _, rfl, (T.x n hn).1, ea.same s0, (fun u h => h), T.kk n hn, _, rfl, a, cs n, fs, .ty "LookupError", .type "LookupError", _, rfl, (T.x n hn).1, ea.same s0, (fun u h => h), T.kl n hn, (by show 3 ≤ sizeLine; omega), fun b1 hb1 => ?_⟩
  refine ⟨l0, b1, _, _, rfl, rfl, keepO g0 hb1, upd_same, (by show 3 + 3 ≤ sizeLine; omega), fun l1 h1 => ?_⟩
  have s1 := s0.trans ((same_new (o := .lst [V.bl (decide (grp n = 0)), .bl (decide (grp n = 1)), .bl (!decide (grp n = 0))]) hb1).trans (same_new (o := .lst ([V.bl (decide (grp n = 0)), .bl (decide (grp n = 1)), .bl (decide (grp n = 2))] ++ [V.bl (decide (grp n = 0)), .bl (decide (grp n = 1)), .bl (!decide (grp n = 0))])) h1))
  have g1 : upd (upd G0 b1 (.lst [V.bl (decide (grp n = 0)), .bl (decide (grp n = 1)), .bl (!decide (grp n = 0))])) l1 (.lst ([V.bl (decide (grp n = 0)), .bl (decide (grp n = 1)), .bl (decide (grp n = 2))] ++ [V.bl (decide (grp n = 0)), .bl (decide (grp n = 1)), .bl (!decide (grp n = 0))])) l1 = some (.lst (brow n)) := upd_same
  generalize upd (upd G0 b1 (.lst [V.bl (decide (grp n = 0)), .bl (decide (grp n = 1)), .bl (!decide (grp n = 0))])) l1 (.lst ([V.bl (decide (grp n = 0)), .bl (decide (grp n = 1)), .bl (decide (grp n = 2))] ++ [V.bl (decide (grp n = 0)), .bl (decide (grp n = 1)), .bl (!decide (grp n = 0))])) = G1 at s1 g1
  refine ⟨_, rfl, l1, _, _, _, rfl, rfl, SqL.of g1, atI_nat (j := 0) rfl, _, rfl, l1, _, _, _, rfl, rfl, SqL.of g1, atI_nat (j := 1) rfl, _, rfl, l1, _, _, _, rfl, rfl, SqL.of g1, atI_nat (j := 2) rfl, _, rfl, l1, _, _, _, rfl, rfl, SqL.of g1, atI_nat (j := 3) rfl, _, rfl, l1, _, _, _, rfl, rfl, SqL.of g1, atI_nat (j := 4) rfl, _, rfl, l1, _, _, _, rfl, rfl, SqL.of g1, atI_nat (j := 5) rfl, _, rfl, ?_⟩
  have fin : ∀ D, G1 D = none → Q (.ref D) (upd G1 D (.lst (brow n))) := fun D hd => q D _ (s1.trans (same_new hd)) (s1.free hd) upd_same
  refine iteB (fun c => ?_) (fun c => ?_)
  · refine ⟨_, rfl, a, cs n, fs, .ty "IndexError", .type "IndexError", _, rfl, (T.x n hn).1, ea.same s1, (fun u h => h), T.ki n hn, _, rfl, (by show 6 ≤ sizeLine; omega), fun D hd => ?_⟩
    have := fin D hd
    unfold brow at this
    rw [c] at this
    exact this
  · refine ⟨(by show 6 ≤ sizeLine; omega), fun D hd => ?_⟩
    have := fin D hd
    unfold brow at this
    rw [c] at this
    exact this
abbrev s_law_fields : Stmt := top 56
theorem sc_law_fields : FnScope ["_law_way", "_law_e"] ["_law_way", "_law_e"] (defScope s_law_fields) := ⟨rfl, rfl, rfl, by decide +kernel, rfl, by decide +kernel, by decide +kernel⟩
theorem ok_fields {f : Addr} {fd : FuncData} (F : Fun K "_law_fields" "_law_fields" s_law_fields f fd) (T : Txt K mg base cs) : FnG P w K mg base CX0 1 f fd ["_law_way", "_law_e"] (spFields cs) := by
  refine okG F sc_law_fields (fun vs H Q E h => ?_) (fun cdv A outer s H vs Q E hc hr h => ?_)
  · obtain ⟨a, n, v, rfl, _⟩ := h
    rfl
  obtain ⟨a, n, v, rfl, hn, ea, q⟩ := h
  refine ⟨_, (pss_cons (ps_if (pt_cmpR op_lt (pv 0) pe_int (nomark _))
  (pss_one (ps_ret (pe_lst (pa_cons (pe_exf (pv 1)) pa_nil)))) pss_nil)
 (pss_cons (ps_if (pt_cmpR op_in_seq (pv 0) (pe_tup (pa_cons pe_int (pa_cons pe_int (pa_cons pe_int pa_nil)))) (by rfl))
  (pss_one (ps_ret (pe_lst (pa_cons (pe_ifExp (pt_cmpR op_eq (pv 0) pe_int (nomark _)) (pe_exf (pv 1)) (pe_exf (pv 1))) pa_nil)))) pss_nil)
 (pss_cons (ps_if (pt_cmpR op_in_seq (pv 0) (pe_tup (pa_cons pe_int (pa_cons pe_int (pa_cons pe_int pa_nil)))) (by rfl))
  (pss_one (ps_ret (pe_lst (pa_cons (pe_exf (pv 1)) pa_nil)))) pss_nil)
 (pss_cons (ps_if (pt_cmpR op_eq (pv 0) pe_int (nomark _))
  (pss_one (ps_ret (pe_lst (pa_cons (pe_exf (pv 1)) pa_nil)))) pss_nil)
 (pss_cons (ps_if (pt_cmpR op_in_seq (pv 0) (pe_tup (pa_cons pe_int (pa_cons pe_int pa_nil))) (by rfl))
  (pss_one (ps_ret (pe_lst (pa_cons (pe_exf (pv 1)) pa_nil)))) pss_nil)
 (pss_cons (ps_if (pt_cmpR op_in_seq (pv 0) (pe_tup (pa_cons pe_int (pa_cons pe_int pa_nil))) (by rfl))
  (pss_one (ps_ret (pe_lst (pa_cons (pe_exf (pv 1)) pa_nil)))) pss_nil)
 (pss_one (ps_ret (pe_ifExp (pt_cmpR op_eq (pv 0) pe_int (nomark _)) (pe_lst (pa_cons (pe_exf (pv 1)) pa_nil)) (pe_lst pa_nil)))))))))), ?_⟩
  have z16 := sizeLine_eq
  have fin : ∀ f, fld n = some f → ∀ G, Same H G → ∀ D, G D = none → Q (.ref D) (upd G D (.lst [v])) := fun f hf G sg D hd => q D _ (sg.trans (same_new hd)) (sg.free hd) (by rw [upd_same, fds_some hf]; rfl)
  have s00 : Same H H := fun _ _ z => z
  refine ⟨_, rfl, _, _, rfl, rfl, _, rfl, ?_⟩
  refine iteB (fun c => ?_) (fun c => ?_)
  · have c1 := of_decide_eq_true c
    have hf : fld n = some "value" := by unfold fld; rw [if_pos (by omega)]; rfl
    obtain ⟨d, e1, e2⟩ := one_of hf ea
    exact ⟨_, rfl, a, cs n, d, _, v, rfl, (T.xf n _ hn hf).1, (T.xf n _ hn hf).2, e1, e2, rfl, (by show 1 ≤ sizeLine; omega), fin _ hf _ s00⟩
  have n1 := of_decide_eq_false c
  refine ⟨_, rfl, (by show 3 ≤ sizeLine; omega), fun p1 h1 => ?_⟩
  refine ⟨p1, _, rfl, .inr (SqT.of upd_same), rfl, rfl, _, rfl, ?_⟩
  have s1 := same_new (o := .tup [.int 21, .int 22, .int 23]) h1
  have ea1 := ea.same s1
  have k1 := in3 (n := n) (a := 21) (b := 22) (c := 23)
  generalize upd H p1 (.tup [.int 21, .int 22, .int 23]) = H1 at s1 ea1
  refine iteB (fun c => ?_) (fun c => ?_)
  · have c1 := of_decide_eq_true (k1.symm.trans c)
    refine ⟨_, rfl, rfl, _, rfl, ?_⟩
    refine iteB (fun c => ?_) (fun c => ?_)
    · have e : n = 23 := int_is (n := 23) c
      have hf : fld n = some "count" := by subst e; rfl
      obtain ⟨d, e1, e2⟩ := one_of hf ea1
      exact ⟨_, rfl, a, cs n, d, _, v, rfl, (T.xf n _ hn hf).1, (T.xf n _ hn hf).2, e1, e2, rfl, (by show 1 ≤ sizeLine; omega), fin _ hf _ s1⟩
    · have e : n ≠ 23 := int_no (n := 23) c
      have hf : fld n = some "index" := by
        rcases c1 with e | e | e
        · subst e; rfl
        · subst e; rfl
        · exact absurd e ‹_›
      obtain ⟨d, e1, e2⟩ := one_of hf ea1
      exact ⟨_, rfl, a, cs n, d, _, v, rfl, (T.xf n _ hn hf).1, (T.xf n _ hn hf).2, e1, e2, rfl, (by show 1 ≤ sizeLine; omega), fin _ hf _ s1⟩
  have n2 := of_decide_eq_false (k1.symm.trans c)
  refine ⟨_, rfl, (by show 3 ≤ sizeLine; omega), fun p2 h2 => ?_⟩
  refine ⟨p2, _, rfl, .inr (SqT.of upd_same), rfl, rfl, _, rfl, ?_⟩
  have s2 := s1.trans (same_new (o := .tup [.int 24, .int 27, .int 33]) h2)
  have ea2 := ea.same s2
  have k2 := in3 (n := n) (a := 24) (b := 27) (c := 33)
  generalize upd H1 p2 (.tup [.int 24, .int 27, .int 33]) = H2 at s2 ea2
  refine iteB (fun c => ?_) (fun c => ?_)
  · have c1 := of_decide_eq_true (k2.symm.trans c)
    have hf : fld n = some "name" := by
      rcases c1 with e | e | e
      · subst e; rfl
      · subst e; rfl
      · subst e; rfl
    obtain ⟨d, e1, e2⟩ := one_of hf ea2
    exact ⟨_, rfl, a, cs n, d, _, v, rfl, (T.xf n _ hn hf).1, (T.xf n _ hn hf).2, e1, e2, rfl, (by show 1 ≤ sizeLine; omega), fin _ hf _ s2⟩
  have n3 := of_decide_eq_false (k2.symm.trans c)
  refine ⟨_, rfl, rfl, _, rfl, ?_⟩
  refine iteB (fun c => ?_) (fun c => ?_)
  · have e : n = 25 := int_is (n := 25) c
    have hf : fld n = some "circle" := by subst e; rfl
    obtain ⟨d, e1, e2⟩ := one_of hf ea2
    exact ⟨_, rfl, a, cs n, d, _, v, rfl, (T.xf n _ hn hf).1, (T.xf n _ hn hf).2, e1, e2, rfl, (by show 1 ≤ sizeLine; omega), fin _ hf _ s2⟩
  have n4 : n ≠ 25 := int_no (n := 25) c
  refine ⟨_, rfl, (by show 2 ≤ sizeLine; omega), fun p3 h3 => ?_⟩
  refine ⟨p3, _, rfl, .inr (SqT.of upd_same), rfl, rfl, _, rfl, ?_⟩
  have s3 := s2.trans (same_new (o := .tup [.int 28, .int 32]) h3)
  have ea3 := ea.same s3
  have k3 := in2 (n := n) (a := 28) (b := 32)
  generalize upd H2 p3 (.tup [.int 28, .int 32]) = H3 at s3 ea3
  refine iteB (fun c => ?_) (fun c => ?_)
  · have c1 := of_decide_eq_true (k3.symm.trans c)
    have hf : fld n = some "letter" := by
      rcases c1 with e | e
      · subst e; rfl
      · subst e; rfl
    obtain ⟨d, e1, e2⟩ := one_of hf ea3
    exact ⟨_, rfl, a, cs n, d, _, v, rfl, (T.xf n _ hn hf).1, (T.xf n _ hn hf).2, e1, e2, rfl, (by show 1 ≤ sizeLine; omega), fin _ hf _ s3⟩
  have n5 := of_decide_eq_false (k3.symm.trans c)
  refine ⟨_, rfl, (by show 2 ≤ sizeLine; omega), fun p4 h4 => ?_⟩
  refine ⟨p4, _, rfl, .inr (SqT.of upd_same), rfl, rfl, _, rfl, ?_⟩
  have s4 := s3.trans (same_new (o := .tup [.int 29, .int 31]) h4)
  have ea4 := ea.same s4
  have k4 := in2 (n := n) (a := 29) (b := 31)
  generalize upd H3 p4 (.tup [.int 29, .int 31]) = H4 at s4 ea4
  refine iteB (fun c => ?_) (fun c => ?_)
  · have c1 := of_decide_eq_true (k4.symm.trans c)
    have hf : fld n = some "number" := by
      rcases c1 with e | e
      · subst e; rfl
      · subst e; rfl
    obtain ⟨d, e1, e2⟩ := one_of hf ea4
    exact ⟨_, rfl, a, cs n, d, _, v, rfl, (T.xf n _ hn hf).1, (T.xf n _ hn hf).2, e1, e2, rfl, (by show 1 ≤ sizeLine; omega), fin _ hf _ s4⟩
  have n6 := of_decide_eq_false (k4.symm.trans c)
  refine ⟨_, rfl, rfl, _, rfl, ?_⟩
  refine iteB (fun c => ?_) (fun c => ?_)
  · have e : n = 30 := int_is (n := 30) c
    have hf : fld n = some "value" := by subst e; rfl
    obtain ⟨d, e1, e2⟩ := one_of hf ea4
    exact ⟨_, rfl, a, cs n, d, _, v, rfl, (T.xf n _ hn hf).1, (T.xf n _ hn hf).2, e1, e2, rfl, (by show 1 ≤ sizeLine; omega), fin _ hf _ s4⟩
  · have n7 : n ≠ 30 := int_no (n := 30) c
    have hf : fds n v = [] := fds_none (by omega) (by omega)
    refine ⟨(by show 0 ≤ sizeLine; omega), fun D hd => q D _ (s4.trans (same_new hd)) (s4.free hd) (by rw [upd_same, hf]; rfl)⟩
end
end K4

namespace K4
open PySem L2 Gd
theorem sz_of {n : Nat} (h : n ≤ 16777216 := by decide) : n ≤ sizeLine := by rw [sizeLine_eq]; exact h
/-- the values of the cell that are flat -/
inductive Sm : V → PyData → Prop
  | non : Sm .non .none
  | tt : Sm (.bl true) (.bool true)
  | ff : Sm (.bl false) (.bool false)
  | i0 : Sm (.int 0) (.int 0)
  | i7 : Sm (.int (-7)) (.int (-7))
  | ib : Sm (.int (10 ^ 29)) (.int (10 ^ 29))
  | s0 : Sm (.str "") (.str "")
  | s3 : Sm (.str "abc") (.str "abc")
/-- a value drawn, and the places of its own -/
inductive Th (G : Hp) : V → List Addr → Prop
  | sc {v : V} {d : PyData} : Sm v d → Th G v []
  | l1 {a : Addr} : G a = some (.lst [.int 1]) → Th G (.ref a) [a]
  | l2 {a b : Addr} : b ≠ a → G a = some (.lst [.ref b, .str "x"]) → G b = some (.lst [.int 2]) → Th G (.ref a) [a, b]
  | t2 {a b : Addr} : b ≠ a → G a = some (.tup [.int 1, .ref b]) → G b = some (.lst [.int 2]) → Th G (.ref a) [a, b]
  | d0 {a : Addr} : G a = some (.dK []) → Th G (.ref a) [a]
  | d1 {a b : Addr} : b ≠ a → G a = some (.dK [((Sum.inr "a" : Key), .ref b)]) → G b = some (.lst [.int 3]) → Th G (.ref a) [a, b]
theorem Th.move {G G' : Hp} {v : V} {own : List Addr} (h : Th G v own) (k : ∀ q o, q ∈ own → G q = some o → G' q = some o) : Th G' v own := by
  cases h with
  | sc s => exact .sc s
  | l1 e => exact .l1 (k _ _ (by simp) e)
  | l2 n e f => exact .l2 n (k _ _ (by simp) e) (k _ _ (by simp) f)
  | t2 n e f => exact .t2 n (k _ _ (by simp) e) (k _ _ (by simp) f)
  | d0 e => exact .d0 (k _ _ (by simp) e)
  | d1 n e f => exact .d1 n (k _ _ (by simp) e) (k _ _ (by simp) f)
/-- data that may be written -/
def Dd (K : PySem.W.Frag) (G : Hp) (v : V) : Prop := ∃ d, Da K G v d ∧ Ok1 d ∧ wid d ≤ 1000 ∧ d.depth ≤ 5
theorem tx_ok {z : Str} (h : (z.cps.toList.all fun c => decide (c < 16 ^ 8)) = true) : Ok1 (.str z) := fun c hc => of_decide_eq_true (List.all_eq_true.mp h c hc)
theorem ok_more : Ok1 (.str "more") := tx_ok (by decide +kernel)
theorem ok_int {i : Int} (h : i.natAbs.log2 < 1920 := by decide +kernel) : Ok1 (.int i) := h
theorem Th.dd {K : PySem.W.Frag} {G : Hp} {v : V} {own : List Addr} (h : Th G v own) : Dd K G v := by
  cases h with
  | sc s =>
    cases s with
    | non => exact ⟨_, .non, trivial, by decide +kernel, by decide +kernel⟩
    | tt => exact ⟨_, .bl _, trivial, by decide +kernel, by decide +kernel⟩
    | ff => exact ⟨_, .bl _, trivial, by decide +kernel, by decide +kernel⟩
    | i0 => exact ⟨_, .int _, (by show (_ : Int).natAbs.log2 < 1920; decide +kernel), by decide +kernel, by decide +kernel⟩
    | i7 => exact ⟨_, .int _, (by show (_ : Int).natAbs.log2 < 1920; decide +kernel), by decide +kernel, by decide +kernel⟩
    | ib => exact ⟨_, .int _, (by show (_ : Int).natAbs.log2 < 1920; decide +kernel), by decide +kernel, by decide +kernel⟩
    | s0 => exact ⟨_, .str _, tx_ok (by decide +kernel), by decide +kernel, by decide +kernel⟩
    | s3 => exact ⟨_, .str _, tx_ok (by decide +kernel), by decide +kernel, by decide +kernel⟩
  | l1 e => exact ⟨_, .lst e (.cons (.int _) .nil), ⟨ok_int, trivial⟩, by decide +kernel, by decide +kernel⟩
  | l2 n e f => exact ⟨_, .lst e (.cons (.lst f (.cons (.int _) .nil)) (.cons (.str _) .nil)), ⟨⟨ok_int, trivial⟩, tx_ok (by decide +kernel), trivial⟩, by decide +kernel, by decide +kernel⟩
  | t2 n e f => exact ⟨_, .tup (SqT.of e) (.cons (.int _) (.cons (.lst f (.cons (.int _) .nil)) .nil)), ⟨ok_int, ⟨ok_int, trivial⟩, trivial⟩, by decide +kernel, by decide +kernel⟩
  | d0 e => exact ⟨_, .dct e .nil, trivial, by decide +kernel, by decide +kernel⟩
  | d1 n e f => exact ⟨.dict [(.str "a", .list [.int 3])], .dct e (.cons (.lst f (.cons (.int _) .nil)) .nil), ⟨tx_ok (by decide +kernel), ⟨ok_int, trivial⟩, trivial⟩, by decide +kernel, by decide +kernel⟩
/-- all but the places of a value's own is as it was -/
def ButO (H H' : Hp) (own : List Addr) : Prop := ∀ q o, q ∉ own → H q = some o → H' q = some o
def spGrown (K : PySem.W.Frag) : Sp := fun vs H Q _ => ∃ v own, vs = [v] ∧ Th H v own ∧ ∀ H', ButO H H' own → Dd K H' v → Q .non H'
def spValue : Sp := fun vs H Q _ => ∃ p, vs = [.ref p] ∧ BoxAt H p ∧ ∀ v own H', Kept H H' p → Th H' v own → (∀ q ∈ own, H q = none) → Q v H'
theorem Th.pv {G : Hp} {v : V} {own : List Addr} (h : Th G v own) : Pv G v := by
  cases h with
  | sc s => cases s <;> (intro z; exact nomatch z)
  | l1 e => exact (by unfold Pv; show kindO (G _) ≠ _; rw [e]; intro z; exact nomatch z)
  | l2 n e f => exact (by unfold Pv; show kindO (G _) ≠ _; rw [e]; intro z; exact nomatch z)
  | t2 n e f => exact (by unfold Pv; show kindO (G _) ≠ _; rw [e]; intro z; exact nomatch z)
  | d0 e => exact (by unfold Pv; show kindO (G _) ≠ _; rw [e]; intro z; exact nomatch z)
  | d1 n e f => exact (by unfold Pv; show kindO (G _) ≠ _; rw [e]; intro z; exact nomatch z)
theorem but1 {H : Hp} {a : Addr} {o : HO} {own : List Addr} (h : a ∈ own) : ButO H (upd H a o) own := fun q u hq hu => by
  rw [upd_ne (fun z => hq (by rw [z]; exact h))]
  exact hu
section
variable {P : Program} {w : World} {K : PySem.W.Frag} {mg : Str → Option Value} {base : Heap} {cs : Nat → Addr}
abbrev s_law_value : Stmt := top 47
theorem sc_law_value : FnScope ["_law_box_here", "_law_some"] ["_law_box_here"] (defScope s_law_value) := ⟨rfl, rfl, rfl, by decide +kernel, rfl, by decide +kernel, by decide +kernel⟩
theorem ok_value {f f1 : Addr} {fd fd1 : FuncData} (F : Fun K "_law_value" "_law_value" s_law_value f fd) (T : Txt K mg base cs) (D__law_take : Df P w K mg base CX0 1 "_law_take" f1 fd1 ["_law_box_here", "_law_size"] spTake) : FnG P w K mg base CX0 2 f fd ["_law_box_here"] spValue := by
  refine okG F sc_law_value (fun vs H Q E h => ?_) (fun cdv A outer s H vs Q E hc hr h => ?_)
  · obtain ⟨p, rfl, _⟩ := h
    rfl
  obtain ⟨p, rfl, hb, q⟩ := h
  refine ⟨_, (pss_cons (ps_set (i := 1) sc_law_value.nd rfl (Or.inl rfl) (pe_lst (pa_cons pe_non (pa_cons pe_bl (pa_cons pe_bl (pa_cons pe_int (pa_cons (pe_un un_neg pe_int) (pa_cons (pe_op op_pow pe_int pe_int) (pa_cons pe_str (pa_cons pe_str (pa_cons (pe_lst (pa_cons pe_int pa_nil)) (pa_cons (pe_lst (pa_cons (pe_lst (pa_cons pe_int pa_nil)) (pa_cons pe_str pa_nil))) (pa_cons (pe_tup (pa_cons pe_int (pa_cons (pe_lst (pa_cons pe_int pa_nil)) pa_nil))) (pa_cons pe_dnewK (pa_cons (pe_disp (pps_cons pe_str (pe_lst (pa_cons pe_int pa_nil)) pps_nil) (by rfl) (by rfl) (fun z => by cases z) (by decide)) pa_nil)))))))))))))))
 (pss_one (ps_ret (pe_ix ix_list (pv 1) (pe_d D__law_take hc (hr.mono (by omega)) (by rfl) (fun _ => passN) (pa_cons (pv 0) (pa_cons pe_int pa_nil))) (fun _ _ => rfl))))), ?_⟩
  have z16 := sizeLine_eq
  refine ⟨_, rfl, _, _, rfl, rfl, ⟨by decide, by decide, by decide⟩, sz_of, fun a1 h0 => ?_⟩
  have s0 := same_new (o := .lst [.int 1]) h0
  have ea1 : upd H a1 (.lst [.int 1]) a1 = some (.lst [.int 1]) := upd_same
  generalize upd H a1 (.lst [.int 1]) = G1 at s0 ea1 ⊢
  have t0 := s0
  have na1 : H a1 = none := h0
  refine ⟨sz_of, fun b2 h1 => ?_⟩
  have s1 := same_new (o := .lst [.int 2]) h1
  have eb2 : upd G1 b2 (.lst [.int 2]) b2 = some (.lst [.int 2]) := upd_same
  generalize upd G1 b2 (.lst [.int 2]) = G2 at s1 eb2 ⊢
  have ea1 := s1 _ _ ea1
  have nb2 : H b2 = none := t0.free h1
  have t1 := t0.trans s1
  refine ⟨(by show 2 ≤ sizeLine; omega), fun a2 h2 => ?_⟩
  have s2 := same_new (o := .lst [.ref b2, .str "x"]) h2
  have ea2 : upd G2 a2 (.lst [.ref b2, .str "x"]) a2 = some (.lst [.ref b2, .str "x"]) := upd_same
  have dn2 : b2 ≠ a2 := ne_of_none eb2 h2
  generalize upd G2 a2 (.lst [.ref b2, .str "x"]) = G3 at s2 ea2 ⊢
  have ea1 := s2 _ _ ea1
  have eb2 := s2 _ _ eb2
  have na2 : H a2 = none := t1.free h2
  have t2 := t1.trans s2
  refine ⟨sz_of, fun b3 h3 => ?_⟩
  have s3 := same_new (o := .lst [.int 2]) h3
  have eb3 : upd G3 b3 (.lst [.int 2]) b3 = some (.lst [.int 2]) := upd_same
  generalize upd G3 b3 (.lst [.int 2]) = G4 at s3 eb3 ⊢
  have ea1 := s3 _ _ ea1
  have eb2 := s3 _ _ eb2
  have ea2 := s3 _ _ ea2
  have nb3 : H b3 = none := t2.free h3
  have t3 := t2.trans s3
  refine ⟨(by show 2 ≤ sizeLine; omega), fun a3 h4 => ?_⟩
  have s4 := same_new (o := .tup [.int 1, .ref b3]) h4
  have ea3 : upd G4 a3 (.tup [.int 1, .ref b3]) a3 = some (.tup [.int 1, .ref b3]) := upd_same
  have dn3 : b3 ≠ a3 := ne_of_none eb3 h4
  generalize upd G4 a3 (.tup [.int 1, .ref b3]) = G5 at s4 ea3 ⊢
  have ea1 := s4 _ _ ea1
  have eb2 := s4 _ _ eb2
  have ea2 := s4 _ _ ea2
  have eb3 := s4 _ _ eb3
  have na3 : H a3 = none := t3.free h4
  have t4 := t3.trans s4
  intro a4 h5
  have s5 := same_new (o := .dK []) h5
  have ea4 : upd G5 a4 (.dK []) a4 = some (.dK []) := upd_same
  generalize upd G5 a4 (.dK []) = G6 at s5 ea4 ⊢
  have ea1 := s5 _ _ ea1
  have eb2 := s5 _ _ eb2
  have ea2 := s5 _ _ ea2
  have eb3 := s5 _ _ eb3
  have ea3 := s5 _ _ ea3
  have na4 : H a4 = none := t4.free h5
  have t5 := t4.trans s5
  intro a5 h6
  have s6 := same_new (o := .dK []) h6
  have ea5 : upd G6 a5 (.dK []) a5 = some (.dK []) := upd_same
  generalize upd G6 a5 (.dK []) = G7 at s6 ea5 ⊢
  have ea1 := s6 _ _ ea1
  have eb2 := s6 _ _ eb2
  have ea2 := s6 _ _ ea2
  have eb3 := s6 _ _ eb3
  have ea3 := s6 _ _ ea3
  have ea4 := s6 _ _ ea4
  have na5 : H a5 = none := t5.free h6
  have t6 := t5.trans s6
  refine ⟨sz_of, fun b5 h7 => ?_⟩
  have s7 := same_new (o := .lst [.int 3]) h7
  have eb5 : upd G7 b5 (.lst [.int 3]) b5 = some (.lst [.int 3]) := upd_same
  generalize upd G7 b5 (.lst [.int 3]) = G8 at s7 eb5 ⊢
  have ea1 := s7 _ _ ea1
  have eb2 := s7 _ _ eb2
  have ea2 := s7 _ _ ea2
  have eb3 := s7 _ _ eb3
  have ea3 := s7 _ _ ea3
  have ea4 := s7 _ _ ea4
  have ea5 := s7 _ _ ea5
  have nb5 : H b5 = none := t6.free h7
  have t7 := t6.trans s7
  have mk : mergeK [] [((Sum.inr "a" : Key), V.ref b5)] = [((Sum.inr "a" : Key), V.ref b5)] := rfl
  refine ⟨ea5, [((Sum.inr "a" : Key), V.ref b5)], rfl, by show 1 ≤ 15; decide, (by show 13 ≤ sizeLine; omega), fun L hL => ?_⟩
  rw [mk] at hL ⊢
  have ne : ∀ {q : Addr} {o : HO}, G6 q = some o → upd G8 a5 (.dK [((Sum.inr "a" : Key), V.ref b5)]) q = some o := fun {q o} e => by
    rw [upd_ne (ne_of_none e h6)]
    exact s7 _ _ (s6 _ _ e)
  have nb : b5 ≠ a5 := fun z => by
    have e := ‹G7 a5 = some (.dK [])›
    rw [← z, h7] at e
    exact nomatch e
  have fb : upd G8 a5 (.dK [((Sum.inr "a" : Key), V.ref b5)]) b5 = some (.lst [.int 3]) := by rw [upd_ne nb]; exact eb5
  have fa : upd G8 a5 (.dK [((Sum.inr "a" : Key), V.ref b5)]) a5 = some (.dK [((Sum.inr "a" : Key), V.ref b5)]) := upd_same
  have na5 : H a5 = none := t5.free h6
  generalize upd G8 a5 (.dK [((Sum.inr "a" : Key), V.ref b5)]) = G9 at hL ne fb fa ⊢
  have t9 : Same H G9 := fun q o e => ne (t5 _ _ e)
  have nL : H L = none := t9.free hL
  have eL : upd G9 L (.lst [.non, .bl true, .bl false, .int 0, .int (-7), .int (10 ^ 29), .str "", .str "abc", .ref a1, .ref a2, .ref a3, .ref a4, .ref a5]) L = some (.lst [.non, .bl true, .bl false, .int 0, .int (-7), .int (10 ^ 29), .str "", .str "abc", .ref a1, .ref a2, .ref a3, .ref a4, .ref a5]) := upd_same
  have s10 := same_new (o := .lst [.non, .bl true, .bl false, .int 0, .int (-7), .int (10 ^ 29), .str "", .str "abc", .ref a1, .ref a2, .ref a3, .ref a4, .ref a5]) hL
  have t10 := t9.trans s10
  refine ⟨_, rfl, _, rfl, p, 13, rfl, ?_⟩
  show BoxAt (upd G9 L (.lst [.non, .bl true, .bl false, .int 0, .int (-7), .int (10 ^ 29), .str "", .str "abc", .ref a1, .ref a2, .ref a3, .ref a4, .ref a5])) p ∧ 0 < (13 : Int) ∧ _
  have kp : Kept H (upd G9 L (.lst [.non, .bl true, .bl false, .int 0, .int (-7), .int (10 ^ 29), .str "", .str "abc", .ref a1, .ref a2, .ref a3, .ref a4, .ref a5])) p := (Kept.refl hb).same t10
  refine ⟨kp.box, by decide, by decide, fun d G d0 d1 tn => ?_⟩
  have itm : ∀ v ∈ ([.non, .bl true, .bl false, .int 0, .int (-7), .int (10 ^ 29), .str "", .str "abc", .ref a1, .ref a2, .ref a3, .ref a4, .ref a5] : List V), ∃ own, Th (upd G9 L (.lst [.non, .bl true, .bl false, .int 0, .int (-7), .int (10 ^ 29), .str "", .str "abc", .ref a1, .ref a2, .ref a3, .ref a4, .ref a5])) v own ∧ ∀ q ∈ own, H q = none := by
    intro v hv
    simp only [List.mem_cons, List.not_mem_nil, or_false] at hv
    rcases hv with rfl | rfl | rfl | rfl | rfl | rfl | rfl | rfl | rfl | rfl | rfl | rfl | rfl
    · exact ⟨[], .sc .non, fun q h => nomatch h⟩
    · exact ⟨[], .sc .tt, fun q h => nomatch h⟩
    · exact ⟨[], .sc .ff, fun q h => nomatch h⟩
    · exact ⟨[], .sc .i0, fun q h => nomatch h⟩
    · exact ⟨[], .sc .i7, fun q h => nomatch h⟩
    · exact ⟨[], .sc .ib, fun q h => nomatch h⟩
    · exact ⟨[], .sc .s0, fun q h => nomatch h⟩
    · exact ⟨[], .sc .s3, fun q h => nomatch h⟩
    · exact ⟨_, .l1 (s10 _ _ (ne ‹G6 a1 = some (.lst [.int 1])›)), by simpa using na1⟩
    · exact ⟨_, .l2 dn2 (s10 _ _ (ne ‹G6 a2 = some (.lst [.ref b2, .str "x"])›)) (s10 _ _ (ne ‹G6 b2 = some (.lst [.int 2])›)), by simpa using ⟨na2, nb2⟩⟩
    · exact ⟨_, .t2 dn3 (s10 _ _ (ne ‹G6 a3 = some (.tup [.int 1, .ref b3])›)) (s10 _ _ (ne ‹G6 b3 = some (.lst [.int 2])›)), by simpa using ⟨na3, nb3⟩⟩
    · exact ⟨_, .d0 (s10 _ _ (ne ‹G6 a4 = some (.dK [])›)), by simpa using na4⟩
    · exact ⟨_, .d1 nb (s10 _ _ fa) (s10 _ _ fb), by simpa using ⟨na5, nb5⟩⟩
  obtain ⟨v, hat, own, hth, hown⟩ := atI_all (l := ([.non, .bl true, .bl false, .int 0, .int (-7), .int (10 ^ 29), .str "", .str "abc", .ref a1, .ref a2, .ref a3, .ref a4, .ref a5] : List V)) itm d0 (by show d < 13; exact d1)
  have hpL : L ≠ p := fun z => by rw [z] at nL; obtain ⟨o, e⟩ := hb.some; rw [e] at nL; exact nomatch nL
  refine ⟨L, _, _, _, rfl, rfl, SqL.of (tn.at hpL eL), hat, ?_⟩
  refine q v own G (kp.turn tn) (hth.move fun x o hx e => tn.at (fun z => ?_) e) hown
  have := hown x hx
  rw [z] at this
  obtain ⟨o, e⟩ := hb.some
  rw [e] at this
  exact nomatch this
abbrev s_law_grown : Stmt := top 48
theorem sc_law_grown : FnScope ["_law_thing"] ["_law_thing"] (defScope s_law_grown) := ⟨rfl, rfl, rfl, by decide +kernel, rfl, by decide +kernel, by decide +kernel⟩
theorem ok_grown {f : Addr} {fd : FuncData} (F : Fun K "_law_grown" "_law_grown" s_law_grown f fd) (T : Txt K mg base cs) : FnG P w K mg base CX0 1 f fd ["_law_thing"] (spGrown K) := by
  refine okG F sc_law_grown (fun vs H Q E h => ?_) (fun cdv A outer s H vs Q E hc hr h => ?_)
  · obtain ⟨v, own, rfl, _⟩ := h
    rfl
  obtain ⟨v, own, rfl, ht, q⟩ := h
  refine ⟨_, (pss_cons (ps_if (pt_val (pe_callB call_isk (by rfl) T.z_isinstance (by decide +kernel) (pa_cons (pv 0) (pa_cons (pe_bltn (v := .ty "list") (by rfl) T.z_list (by decide +kernel) rfl) pa_nil))))
  (pss_one (ps_expr (pe_bm PySem.F.plainAttrs_list PySem.F.slot_list_append PySem.F.type_list_append mt_append (pv 0) (pa_cons pe_str pa_nil)))) pss_nil)
 (pss_cons (ps_if (pt_val (pe_callB call_isk (by rfl) T.z_isinstance (by decide +kernel) (pa_cons (pv 0) (pa_cons (pe_bltn (v := .ty "dict") (by rfl) T.z_dict (by decide +kernel) rfl) pa_nil))))
  (pss_one (ps_dput (hu_of hr) (pv 0) pe_str pe_int rfl)) pss_nil)
 (pss_one (ps_if (pt_val (pe_callB call_isk (by rfl) T.z_isinstance (by decide +kernel) (pa_cons (pv 0) (pa_cons (pe_bltn (v := .ty "tuple") (by rfl) T.z_tuple (by decide +kernel) rfl) pa_nil))))
  (pss_one (ps_expr (pe_bm PySem.F.plainAttrs_list PySem.F.slot_list_append PySem.F.type_list_append mt_append (pe_ix ix_tup (pv 0) pe_int (fun _ _ => rfl)) (pa_cons pe_str pa_nil)))) pss_nil)))), ?_⟩
  have z16 := sizeLine_eq
  have stay := q H (fun _ _ _ h => h) ht.dd
  refine ⟨_, rfl, v, _, rfl, .inr (.inr (.inr (.inl rfl))), ht.pv, _, rfl, ?_⟩
  cases ht with
  | sc s =>
    have nl : inst "list" (kind H v) = false := by cases s <;> first | exact (by decide +kernel : inst "list" Kind.non = false) | exact (by decide +kernel : inst "list" Kind.bl = false) | exact (by decide +kernel : inst "list" Kind.int = false) | exact (by decide +kernel : inst "list" Kind.str = false)
    have nd : inst "dict" (kind H v) = false := by cases s <;> first | exact (by decide +kernel : inst "dict" Kind.non = false) | exact (by decide +kernel : inst "dict" Kind.bl = false) | exact (by decide +kernel : inst "dict" Kind.int = false) | exact (by decide +kernel : inst "dict" Kind.str = false)
    have nt : inst "tuple" (kind H v) = false := by cases s <;> first | exact (by decide +kernel : inst "tuple" Kind.non = false) | exact (by decide +kernel : inst "tuple" Kind.bl = false) | exact (by decide +kernel : inst "tuple" Kind.int = false) | exact (by decide +kernel : inst "tuple" Kind.str = false)
    rw [nl]
    refine iteB (fun c => nomatch c) (fun c => ?_)
    refine ⟨_, rfl, v, _, rfl, .inr (.inr (.inr (.inr (.inr rfl)))), (Th.sc (G := H) s).pv, _, rfl, ?_⟩
    rw [nd]
    refine iteB (fun c => nomatch c) (fun c => ?_)
    refine ⟨_, rfl, v, _, rfl, .inr (.inr (.inr (.inr (.inl rfl)))), (Th.sc (G := H) s).pv, _, rfl, ?_⟩
    rw [nt]
    exact iteB (fun c => nomatch c) (fun c => stay)
  | @l1 a e =>
    rw [show kind H (.ref a) = .lst from by show kindO (H a) = _; rw [e]; rfl]
    refine iteB (fun _ => ?_) (fun c => absurd c (by decide +kernel))
    refine ⟨_, rfl, .inl ⟨rfl, _, SqL.of e⟩, a, _, _, rfl, rfl, e, (by show 1 < sizeLine; omega), ?_⟩
    have e1 : kind (upd H a (.lst ([.int 1] ++ [.str "more"]))) (.ref a) = .lst := by
      show kindO (upd H a (.lst ([.int 1] ++ [.str "more"])) a) = .lst
      rw [upd_same]
      rfl
    refine ⟨_, rfl, .ref a, _, rfl, .inr (.inr (.inr (.inr (.inr rfl)))), (by unfold Pv; rw [e1]; intro z; exact nomatch z), _, rfl, ?_⟩
    rw [e1]
    refine iteB (fun c => absurd c (by decide +kernel)) (fun _ => ?_)
    refine ⟨_, rfl, .ref a, _, rfl, .inr (.inr (.inr (.inr (.inl rfl)))), (by unfold Pv; rw [e1]; intro z; exact nomatch z), _, rfl, ?_⟩
    rw [e1]
    refine iteB (fun c => absurd c (by decide +kernel)) (fun _ => ?_)
    exact q _ (but1 (by simp)) ⟨_, .lst upd_same (.cons (.int _) (.cons (.str _) .nil)), ⟨ok_int, ok_more, trivial⟩, by decide +kernel, by decide +kernel⟩
  | @l2 a b n e f =>
    rw [show kind H (.ref a) = .lst from by show kindO (H a) = _; rw [e]; rfl]
    refine iteB (fun _ => ?_) (fun c => absurd c (by decide +kernel))
    refine ⟨_, rfl, .inl ⟨rfl, _, SqL.of e⟩, a, _, _, rfl, rfl, e, (by show 2 < sizeLine; omega), ?_⟩
    have e1 : kind (upd H a (.lst ([.ref b, .str "x"] ++ [.str "more"]))) (.ref a) = .lst := by
      show kindO (upd H a (.lst ([.ref b, .str "x"] ++ [.str "more"])) a) = .lst
      rw [upd_same]
      rfl
    refine ⟨_, rfl, .ref a, _, rfl, .inr (.inr (.inr (.inr (.inr rfl)))), (by unfold Pv; rw [e1]; intro z; exact nomatch z), _, rfl, ?_⟩
    rw [e1]
    refine iteB (fun c => absurd c (by decide +kernel)) (fun _ => ?_)
    refine ⟨_, rfl, .ref a, _, rfl, .inr (.inr (.inr (.inr (.inl rfl)))), (by unfold Pv; rw [e1]; intro z; exact nomatch z), _, rfl, ?_⟩
    rw [e1]
    refine iteB (fun c => absurd c (by decide +kernel)) (fun _ => ?_)
    exact q _ (but1 (by simp)) ⟨_, .lst upd_same (.cons (.lst (by rw [upd_ne n]; exact f) (.cons (.int _) .nil)) (.cons (.str _) (.cons (.str _) .nil))), ⟨⟨ok_int, trivial⟩, tx_ok (by decide +kernel), ok_more, trivial⟩, by decide +kernel, by decide +kernel⟩
  | @t2 a b n e f =>
    have e0 : kind H (.ref a) = .tup := by show kindO (H a) = _; rw [e]; rfl
    rw [e0]
    refine iteB (fun c => absurd c (by decide +kernel)) (fun _ => ?_)
    refine ⟨_, rfl, .ref a, _, rfl, .inr (.inr (.inr (.inr (.inr rfl)))), (by unfold Pv; rw [e0]; intro z; exact nomatch z), _, rfl, ?_⟩
    rw [e0]
    refine iteB (fun c => absurd c (by decide +kernel)) (fun _ => ?_)
    refine ⟨_, rfl, .ref a, _, rfl, .inr (.inr (.inr (.inr (.inl rfl)))), (by unfold Pv; rw [e0]; intro z; exact nomatch z), _, rfl, ?_⟩
    rw [e0]
    refine iteB (fun _ => ?_) (fun c => absurd c (by decide +kernel))
    refine ⟨_, rfl, a, _, _, _, rfl, rfl, SqT.of e, atI_nat (j := 1) rfl, .inl ⟨rfl, _, SqL.of f⟩, b, _, _, rfl, rfl, f, (by show 1 < sizeLine; omega), ?_⟩
    exact q _ (but1 (by simp)) ⟨_, .tup (SqT.of (by rw [upd_ne n.symm]; exact e)) (.cons (.int _) (.cons (.lst upd_same (.cons (.int _) (.cons (.str _) .nil))) .nil)), ⟨ok_int, ⟨ok_int, ok_more, trivial⟩, trivial⟩, by decide +kernel, by decide +kernel⟩
  | @d0 a e =>
    rw [show kind H (.ref a) = .dct from by show kindO (H a) = _; rw [e]; rfl]
    refine iteB (fun c => absurd c (by decide +kernel)) (fun _ => ?_)
    have e0 : kind H (.ref a) = .dct := by show kindO (H a) = _; rw [e]; rfl
    refine ⟨_, rfl, .ref a, _, rfl, .inr (.inr (.inr (.inr (.inr rfl)))), (by unfold Pv; rw [e0]; intro z; exact nomatch z), _, rfl, ?_⟩
    rw [e0]
    refine iteB (fun _ => ?_) (fun c => absurd c (by decide +kernel))
    refine ⟨_, rfl, a, _, rfl, DPut.k (k := Sum.inr "more") e (by show 0 < sizeLine; omega), ?_⟩
    rw [show putK [] (Sum.inr "more" : Key) (.int 1) = [((Sum.inr "more" : Key), V.int 1)] from by first | rfl | decide +kernel]
    have e1 : kind (upd H a (.dK ([((Sum.inr "more" : Key), V.int 1)]))) (.ref a) = .dct := by
      show kindO (upd H a (.dK ([((Sum.inr "more" : Key), V.int 1)])) a) = .dct
      rw [upd_same]
      rfl
    refine ⟨_, rfl, .ref a, _, rfl, .inr (.inr (.inr (.inr (.inl rfl)))), (by unfold Pv; rw [e1]; intro z; exact nomatch z), _, rfl, ?_⟩
    rw [e1]
    refine iteB (fun c => absurd c (by decide +kernel)) (fun _ => ?_)
    exact q _ (but1 (by simp)) ⟨.dict [(.str "more", .int 1)], .dct (kvs := [((Sum.inr "more" : Key), V.int 1)]) (ds := [.int 1]) upd_same (.cons (.int _) .nil), ⟨ok_more, ok_int, trivial⟩, by decide +kernel, by decide +kernel⟩
  | @d1 a b n e f =>
    rw [show kind H (.ref a) = .dct from by show kindO (H a) = _; rw [e]; rfl]
    refine iteB (fun c => absurd c (by decide +kernel)) (fun _ => ?_)
    have e0 : kind H (.ref a) = .dct := by show kindO (H a) = _; rw [e]; rfl
    refine ⟨_, rfl, .ref a, _, rfl, .inr (.inr (.inr (.inr (.inr rfl)))), (by unfold Pv; rw [e0]; intro z; exact nomatch z), _, rfl, ?_⟩
    rw [e0]
    refine iteB (fun _ => ?_) (fun c => absurd c (by decide +kernel))
    refine ⟨_, rfl, a, _, rfl, DPut.k (k := Sum.inr "more") e (by show 1 < sizeLine; omega), ?_⟩
    rw [show putK [((Sum.inr "a" : Key), V.ref b)] (Sum.inr "more" : Key) (.int 1) = [((Sum.inr "a" : Key), V.ref b), ((Sum.inr "more" : Key), V.int 1)] from by first | rfl | decide +kernel]
    have e1 : kind (upd H a (.dK ([((Sum.inr "a" : Key), V.ref b), ((Sum.inr "more" : Key), V.int 1)]))) (.ref a) = .dct := by
      show kindO (upd H a (.dK ([((Sum.inr "a" : Key), V.ref b), ((Sum.inr "more" : Key), V.int 1)])) a) = .dct
      rw [upd_same]
      rfl
    refine ⟨_, rfl, .ref a, _, rfl, .inr (.inr (.inr (.inr (.inl rfl)))), (by unfold Pv; rw [e1]; intro z; exact nomatch z), _, rfl, ?_⟩
    rw [e1]
    refine iteB (fun c => absurd c (by decide +kernel)) (fun _ => ?_)
    exact q _ (but1 (by simp)) ⟨.dict [(.str "a", .list [.int 3]), (.str "more", .int 1)], .dct (kvs := [((Sum.inr "a" : Key), V.ref b), ((Sum.inr "more" : Key), V.int 1)]) (ds := [.list [.int 3], .int 1]) upd_same (.cons (.lst (show upd H a _ b = some (.lst [.int 3]) by rw [upd_ne n]; exact f) (.cons (.int _) .nil)) (.cons (.int _) .nil)), ⟨tx_ok (by decide +kernel), ⟨ok_int, trivial⟩, ok_more, ok_int, trivial⟩, by decide +kernel, by decide +kernel⟩
end
end K4

namespace K4
open PySem L2 Gd
def spRight (cs : Nat → Addr) : Sp := fun vs H Q _ => ∃ (w : Nat) (v : V) (nm : Bool) (own : List Addr), vs = [.int (w : Nat), v, .bl nm] ∧ w < 39 ∧ Th H v own ∧ ∀ H', ButO H H' own → Q (.bl true) H'
def spBasesR : Sp := fun vs H Q _ => vs = [] ∧ ∀ H', Same H H' → Q (.bl true) H'
theorem Th.has {G : Hp} {v : V} {own : List Addr} (h : Th G v own) : ∀ q ∈ own, ∃ o, G q = some o := by
  cases h with
  | sc s => exact fun q h => nomatch h
  | l1 e => intro q hq; obtain rfl : q = _ := by simpa using hq
            exact ⟨_, e⟩
  | l2 n e f => intro q hq; simp only [List.mem_cons, List.not_mem_nil, or_false] at hq
                rcases hq with rfl | rfl <;> exact ⟨_, ‹_›⟩
  | t2 n e f => intro q hq; simp only [List.mem_cons, List.not_mem_nil, or_false] at hq
                rcases hq with rfl | rfl <;> exact ⟨_, ‹_›⟩
  | d0 e => intro q hq; obtain rfl : q = _ := by simpa using hq
            exact ⟨_, e⟩
  | d1 n e f => intro q hq; simp only [List.mem_cons, List.not_mem_nil, or_false] at hq
                rcases hq with rfl | rfl <;> exact ⟨_, ‹_›⟩
theorem Th.same {G G' : Hp} {v : V} {own : List Addr} (h : Th G v own) (s : Same G G') : Th G' v own := h.move fun q o _ e => s q o e
theorem ButO.same {H G G' : Hp} {own : List Addr} (h : ButO H G own) (s : Same G G') : ButO H G' own := fun q o hq e => s _ _ (h q o hq e)
theorem ButO.of {H G : Hp} {own : List Addr} (s : Same H G) : ButO H G own := fun q o _ e => s _ _ e
theorem Dd.same {K : PySem.W.Frag} {G G' : Hp} {v : V} (h : Dd K G v) (s : Same G G') : Dd K G' v := by
  obtain ⟨d, h1, h2⟩ := h
  exact ⟨d, h1.same s, h2⟩
/-- the fields as data -/
theorem fds_da {K : PySem.W.Frag} {G : Hp} {n : Nat} {v : V} (h : Dd K G v) : ∃ ds, DaL K G ((fds n v).map (·.2)) ds ∧ Ok1 (.list ds) ∧ wid (.list ds) ≤ 2000 ∧ (PyData.list ds).depth ≤ 7 := by
  obtain ⟨d, h1, h2, h3, h4⟩ := h
  unfold fds
  cases fld n with
  | none => exact ⟨[], .nil, trivial, by decide +kernel, by decide +kernel⟩
  | some f =>
    refine ⟨[d], .cons h1 .nil, ⟨h2, trivial⟩, ?_, ?_⟩
    · show wid d + 2 + 0 + 2 ≤ 2000
      omega
    · show max d.depth 0 + 1 ≤ 7
      omega
theorem _root_.Gd.ExA.has {H : Hp} {a C : Addr} {fs : List (Str × V)} (h : ExA H a C fs) : ∃ o, H a = some o := by
  cases h with
  | one e _ => exact ⟨_, e⟩
  | none e => exact ⟨_, e⟩
theorem ne_self {x : V} : (!decide (x = x)) = false := by rw [decide_eq_true rfl]; rfl
theorem row_at (n i : Nat) : row n i ++ [.bl (decide (V.int (n : Nat) = V.int (0 + (i : Nat))))] = row n (i + 1) := by
  unfold row
  rw [List.range_succ, List.map_append]
  have : decide (V.int (n : Nat) = V.int (0 + (i : Nat))) = decide (n = i) := by
    refine decide_eq_decide.mpr ⟨fun h => ?_, fun h => ?_⟩
    · injection h with h
      omega
    · rw [h]
      congr 1
      omega
  rw [this]
  rfl
theorem tIf_due {σ : L2.St} {H : Hp} {Q : VK} {n : Nat} {v : V} {r : L2.St} (hσ : σ = some (.int (n : Nat)) :: some v :: r) (hn : n < 39) (h : ∀ D, H D = none → Q (.ref D) (upd H D (.lst ((fds n v).map (·.2))))) : tIf (tOr (tTest (tOp rEq (tVar 0) (tC (V.int 26)))) (tTest (tOp (rI0 fun i j => V.bl (decide (j < i))) (tVar 0) (tC (V.int 33))))) (tLst tNil) (tLst (tCons (tVar 1) tNil)) σ H Q := by
  subst hσ
  refine ⟨_, rfl, rfl, _, rfl, ?_⟩
  refine iteB (fun c => ?_) (fun c => ?_)
  · have e : n = 26 := int_is (n := 26) c
    refine ⟨Nat.zero_le _, fun D hD => ?_⟩
    have := h D hD
    rw [fds_none (by omega) (by omega)] at this
    exact this
  · have e : n ≠ 26 := int_no (n := 26) c
    refine ⟨_, rfl, _, _, rfl, rfl, _, rfl, ?_⟩
    refine iteB (fun c => ?_) (fun c => ?_)
    · have c1 := of_decide_eq_true c
      refine ⟨Nat.zero_le _, fun D hD => ?_⟩
      have := h D hD
      rw [fds_none (by omega) (by omega)] at this
      exact this
    · have c1 := of_decide_eq_false c
      refine ⟨_, rfl, (by rw [sizeLine_eq]; exact Nat.le_of_ble_eq_true rfl : [v].length ≤ sizeLine), fun D hD => ?_⟩
      have := h D hD
      obtain ⟨f, hf⟩ : ∃ f, fld n = some f := by
        have : ∀ k : Fin 34, k.val ≠ 26 → (fld k.val).isSome = true := by decide +kernel
        exact Option.isSome_iff_exists.mp (this ⟨n, by omega⟩ e)
      rw [fds_some hf] at this
      exact this
theorem row_dp {K : PySem.W.Frag} {H : Hp} : ∀ l : List Bool, DpAll K H (l.map V.bl) (l.map PyData.bool)
  | [] => .nil
  | b :: l => .cons (.bl b) (row_dp l)
def rowB (n m : Nat) : List Bool := (List.range m).map fun j => decide (n = j)
theorem row_B (n m : Nat) : row n m = (rowB n m).map V.bl := by
  unfold row rowB
  rw [List.map_map]
  rfl
theorem row_shaped : ∀ n : Fin 39, SeqAt.shaped (.list ((rowB n.val 39).map PyData.bool)) = true ∧ PyData.eqv (.list ((rowB n.val 39).map PyData.bool)) (.list ((rowB n.val 39).map PyData.bool)) = true := by decide +kernel
def browB (n : Nat) : List Bool := [decide (grp n = 0), decide (grp n = 1), decide (grp n = 2), decide (grp n = 0), decide (grp n = 1), !decide (grp n = 0)]
section
variable {P : Program} {w : World} {K : PySem.W.Frag} {mg : Str → Option Value} {base : Heap} {cs : Nat → Addr}
abbrev s_law_right : Stmt := top 57
theorem sc_law_right : FnScope ["_law_way", "_law_one", "_law_named", "_law_e", "_law_due", "_law_at"] ["_law_way", "_law_one", "_law_named"] (defScope s_law_right) := ⟨rfl, rfl, rfl, by decide +kernel, rfl, by decide +kernel, by decide +kernel⟩
theorem ok_right {f f1 f2 f3 f4 f5 : Addr} {fd fd1 fd2 fd3 fd4 fd5 : FuncData} (F : Fun K "_law_right" "_law_right" s_law_right f fd) (T : Txt K mg base cs)
    (D__law_made : Df P w K mg base CX0 3 "_law_made" f1 fd1 ["_law_way", "_law_one", "_law_named"] (spMk cs 0 39))
    (D__law_fields : Df P w K mg base CX0 1 "_law_fields" f2 fd2 ["_law_way", "_law_e"] (spFields cs))
    (D__law_grown : Df P w K mg base CX0 1 "_law_grown" f3 fd3 ["_law_thing"] (spGrown K))
    (D__law_classes : Df P w K mg base CX0 1 "_law_classes" f4 fd4 ["_law_e"] (spClasses cs))
    (D__law_bases : Df P w K mg base CX0 1 "_law_bases" f5 fd5 ["_law_e"] (spBases cs)) :
    FnG P w K mg base CX0 4 f fd ["_law_way", "_law_one", "_law_named"] (spRight cs) := by
  refine okG F sc_law_right (fun vs H Q E h => ?_) (fun cdv A outer s H vs Q E hc hr h => ?_)
  · obtain ⟨n, v, nm, own, rfl, _⟩ := h
    rfl
  obtain ⟨n, v, nm, own, rfl, hn, ht, q⟩ := h
  refine ⟨_, (pss_cons (ps_set (i := 3) sc_law_right.nd rfl (Or.inl rfl) (pe_d D__law_made hc (hr.mono (by omega)) (by rfl) (fun _ => passN) (pa_cons (pv 0) (pa_cons (pv 1) (pa_cons (pv 2) pa_nil)))))
 (pss_cons (ps_if (PW.pt (pw_or (pt_cmpR (op_eqA (Nat.lt_of_succ_lt (hu_of hr))) (pv 3) (pe_d D__law_made hc (hr.mono (by omega)) (by rfl) (fun _ => passN) (pa_cons (pv 0) (pa_cons (pv 1) (pa_cons (pv 2) pa_nil)))) (nomark _)) (pw_or1 (pt_not (pt_cmpR (op_eqA (Nat.lt_of_succ_lt (hu_of hr))) (pv 3) (pv 3) (nomark _))))))
  (pss_one (ps_ret pe_bl)) pss_nil)
 (pss_cons (ps_set (i := 4) sc_law_right.nd rfl (Or.inl rfl) (pe_ifExp (PW.pt (pw_or (pt_cmpR op_eq (pv 0) pe_int (nomark _)) (pw_or1 (pt_cmpR op_gt (pv 0) pe_int (nomark _))))) (pe_lst pa_nil) (pe_lst (pa_cons (pv 1) pa_nil))))
 (pss_cons (ps_if (pt_cmpR op_ne (pe_callB (call_repr hc T.sys (room100 hr)) (by rfl) T.z_repr (by decide +kernel) (pa_cons (pe_d D__law_fields hc (hr.mono (by omega)) (by rfl) (fun _ => passN) (pa_cons (pv 0) (pa_cons (pv 3) pa_nil))) pa_nil)) (pe_callB (call_repr hc T.sys (room100 hr)) (by rfl) T.z_repr (by decide +kernel) (pa_cons (pv 4) pa_nil)) (nomark _))
  (pss_one (ps_ret pe_bl)) pss_nil)
 (pss_cons (ps_expr (pe_d D__law_grown hc (hr.mono (by omega)) (by rfl) (fun _ => passN) (pa_cons (pv 1) pa_nil)))
 (pss_cons (ps_if (PW.pt (pw_or (pt_cmpR op_ne (pe_callB (call_repr hc T.sys (room100 hr)) (by rfl) T.z_repr (by decide +kernel) (pa_cons (pe_d D__law_fields hc (hr.mono (by omega)) (by rfl) (fun _ => passN) (pa_cons (pv 0) (pa_cons (pv 3) pa_nil))) pa_nil)) (pe_callB (call_repr hc T.sys (room100 hr)) (by rfl) T.z_repr (by decide +kernel) (pa_cons (pv 4) pa_nil)) (nomark _)) (pw_or1 (pt_cmpR (op_neD hr.units) (pe_d D__law_classes hc (hr.mono (by omega)) (by rfl) (fun _ => passN) (pa_cons (pv 3) pa_nil)) (pe_lc (own := [("_law_at", 5)]) (g := gName 5) rfl sc_law_right.nd (pi_range1 rfl T.z_range (pa_cons pe_int pa_nil)) (blkOk_by (N := ["_law_way", "_law_one", "_law_named", "_law_e", "_law_due", "_law_at"]) (sc := defScope s_law_right) (by decide +kernel)) (fun _ _ _ _ _ => pg_name (i := 5) sc_law_right.nd rfl (Or.inl rfl)) (fun _ _ _ _ _ => pts_nil) (fun _ _ _ _ _ => (pe_cmpR op_eq (pv 0) (pv 5) (nomark _)))) (nomark _)))))
  (pss_one (ps_ret pe_bl)) pss_nil)
 (pss_cons (ps_if (pt_cmpR op_lt (pv 0) pe_int (nomark _))
  (pss_one (ps_ret (pe_cmpR (op_eqD hr.units) (pe_d D__law_bases hc (hr.mono (by omega)) (by rfl) (fun _ => passN) (pa_cons (pv 3) pa_nil)) (pe_lst (pa_cons pe_bl (pa_cons pe_bl (pa_cons pe_bl (pa_cons pe_bl (pa_cons pe_bl (pa_cons pe_bl pa_nil))))))) (nomark _)))) pss_nil)
 (pss_cons (ps_if (pt_cmpR op_lt (pv 0) pe_int (nomark _))
  (pss_one (ps_ret (pe_cmpR (op_eqD hr.units) (pe_d D__law_bases hc (hr.mono (by omega)) (by rfl) (fun _ => passN) (pa_cons (pv 3) pa_nil)) (pe_lst (pa_cons pe_bl (pa_cons pe_bl (pa_cons pe_bl (pa_cons pe_bl (pa_cons pe_bl (pa_cons pe_bl pa_nil))))))) (nomark _)))) pss_nil)
 (pss_one (ps_ret (pe_cmpR (op_eqD hr.units) (pe_d D__law_bases hc (hr.mono (by omega)) (by rfl) (fun _ => passN) (pa_cons (pv 3) pa_nil)) (pe_lst (pa_cons pe_bl (pa_cons pe_bl (pa_cons pe_bl (pa_cons pe_bl (pa_cons pe_bl (pa_cons pe_bl pa_nil))))))) (nomark _)))))))))))), ?_⟩
  have z16 := sizeLine_eq
  refine ⟨_, rfl, _, rfl, _, rfl, n, v, nm, rfl, Nat.zero_le _, hn, fun G1 a s1 x1 => ?_⟩
  refine ⟨_, rfl, _, rfl, _, rfl, _, rfl, n, v, nm, rfl, Nat.zero_le _, hn, fun G2 a2 s2 x2 => ?_⟩
  have e1 := x1.toA
  have x1' : ExN H G2 a (cs n) (fds n v) := x1.but fun b o _ h => s2 _ _ h
  refine ⟨a, a2, cs n, _, _, rfl, rfl, (T.x n (by omega)).2, e1.same s2, x2.toA, _, rfl, ?_⟩
  have ha2 : a ≠ a2 := fun z => by
    have := x2.new
    rw [← z] at this
    obtain ⟨o, e⟩ := e1.has
    rw [e] at this
    exact nomatch this
  refine iteB (fun c => absurd (of_decide_eq_true c) ha2) (fun _ => ?_)
  refine ⟨_, rfl, _, rfl, a, a, cs n, _, _, rfl, rfl, (T.x n (by omega)).2, e1.same s2, e1.same s2, _, rfl, ?_⟩
  rw [decide_eq_true (p := a = a) rfl]
  refine iteB (fun c => nomatch c) (fun _ => ?_)
  refine tIf_due (n := n) (v := v) rfl hn (fun D hD => ?_)
  have s3 : Same H (upd G2 D (.lst ((fds n v).map (·.2)))) := (s1.trans s2).trans (same_new hD)
  have x3 : ExN H (upd G2 D (.lst ((fds n v).map (·.2)))) a (cs n) (fds n v) := x1'.but fun b o _ h => same_new hD _ _ h
  have nD : H D = none := (s1.trans s2).free hD
  have eD : upd G2 D (.lst ((fds n v).map (·.2))) D = some (.lst ((fds n v).map (·.2))) := upd_same
  generalize upd G2 D (.lst ((fds n v).map (·.2))) = G3 at s3 x3 eD ⊢
  obtain ⟨ds, a1, a2', a3, a4⟩ := fds_da (n := n) (ht.same s3).dd (K := K)
  refine ⟨_, rfl, _, rfl, a, n, v, rfl, hn, x3.toA, fun D1 G4 s4 f4 e4 => ?_⟩
  refine ⟨.ref D1, _, rfl, .lst e4 (a1.same s4), a2', (by omega), (by omega), ?_⟩
  refine ⟨_, rfl, .ref D, _, rfl, .lst (s4 _ _ eD) (a1.same s4), a2', (by omega), (by omega), ?_⟩
  refine ⟨rfl, _, rfl, ?_⟩
  refine iteB (fun c => by rw [ne_self] at c; exact nomatch c) (fun _ => ?_)
  refine ⟨_, rfl, v, own, rfl, ht.same (s3.trans s4), fun G5 b5 d5 => ?_⟩
  have nown : ∀ b, H b = none → b ∉ own := fun b hb z => by
    obtain ⟨o, e⟩ := ht.has b z
    rw [hb] at e
    exact nomatch e
  have x5 : ExN H G5 a (cs n) (fds n v) := x3.but fun b o hb e => b5 b o (nown b hb) (s4 _ _ e)
  have eD5 : G5 D = some (.lst ((fds n v).map (·.2))) := b5 _ _ (nown D nD) (s4 _ _ eD)
  have M5 : ButO H G5 own := fun q o hq e => b5 q o hq (s4 _ _ (s3 _ _ e))
  obtain ⟨es, b1, b2, b3, b4⟩ := fds_da (n := n) d5 (K := K)
  refine ⟨_, rfl, _, rfl, a, n, v, rfl, hn, x5.toA, fun D2 G6 s6 f6 e6 => ?_⟩
  refine ⟨.ref D2, _, rfl, .lst e6 (b1.same s6), b2, (by omega), (by omega), ?_⟩
  refine ⟨_, rfl, .ref D, _, rfl, .lst (s6 _ _ eD5) (b1.same s6), b2, (by omega), (by omega), ?_⟩
  refine ⟨rfl, _, rfl, ?_⟩
  refine iteB (fun c => by rw [ne_self] at c; exact nomatch c) (fun _ => ?_)
  refine ⟨_, rfl, a, n, _, rfl, (by omega), x5.toA.same s6, fun D3 G7 s7 f7 e7 => ?_⟩
  refine ⟨39, rfl, by decide, by decide, fun D4 h4 => ?_⟩
  refine lc_range (lo := 0) (n := 39) (fun i H' => H' D4 = some (.lst (row n i)) ∧ Same G7 H') ⟨upd_same, fun c u h => keepO h h4⟩ ?_ ?_
  · rintro i Hh hi ⟨g1, g2⟩
    refine ⟨wipe1 _ _ _, yes_go ?_⟩
    refine ⟨_, rfl, _, rfl, rfl, _, g1, by rw [row_len]; omega, ?_, fun c u h => ?_⟩
    · rw [upd_same, row_at]
    · rw [upd_ne (ne_of_none h h4)]
      exact g2 c u h
  rintro G8 ⟨e8, s8⟩
  have rb := row_shaped ⟨n, hn⟩
  have r8 : Dp K G8 (.ref D3) (.list ((rowB n 39).map PyData.bool)) := .lst (SqL.of (by rw [← row_B]; exact s8 _ _ e7)) (row_dp _)
  have r9 : Dp K G8 (.ref D4) (.list ((rowB n 39).map PyData.bool)) := .lst (SqL.of (by rw [← row_B]; exact e8)) (row_dp _)
  refine ⟨_, _, r8, r9, rb.1, rb.1, _, rfl, ?_⟩
  rw [rb.2]
  refine iteB (fun c => nomatch c) (fun _ => ?_)
  have M8 : ButO H G8 own := ((M5.same s6).same s7).same s8
  have x8 : ExA G8 a (cs n) (fds n v) := ((x5.toA.same s6).same s7).same s8
  have fin : ∀ D5 G9 D6, Same G8 G9 → G8 D5 = none → G9 D5 = some (.lst (brow n)) → G9 D6 = none → ∀ l : List Bool, brow n = l.map V.bl → SeqAt.shaped (.list (l.map PyData.bool)) = true → PyData.eqv (.list (l.map PyData.bool)) (.list (l.map PyData.bool)) = true → rEqD K (.ref D5) (.ref D6) (upd G9 D6 (.lst (l.map V.bl))) Q := by
    intro D5 G9 D6 s9 f5 e5 h6 l hl hs he
    refine ⟨_, _, .lst (SqL.of (keepO (by rw [← hl]; exact e5) h6)) (row_dp l), .lst (SqL.of upd_same) (row_dp l), hs, hs, ?_⟩
    rw [he]
    exact q _ ((M8.same s9).same (same_new h6))
  refine ⟨_, rfl, _, _, rfl, rfl, _, rfl, ?_⟩
  refine iteB (fun c => ?_) (fun c => ?_)
  · have c1 := of_decide_eq_true c
    have hg : grp n = 0 := by unfold grp; rw [if_pos (by omega)]
    refine ⟨_, rfl, a, n, _, rfl, (by omega), x8, fun D5 G9 s9 f5 e5 => ⟨(by show 6 ≤ sizeLine; omega), fun D6 h6 => ?_⟩⟩
    exact fin D5 G9 D6 s9 f5 e5 h6 [true, false, false, true, false, false] (by unfold brow; rw [hg]; rfl) (by decide +kernel) (by decide +kernel)
  have c1 := of_decide_eq_false c
  refine ⟨_, rfl, _, _, rfl, rfl, _, rfl, ?_⟩
  refine iteB (fun c => ?_) (fun c => ?_)
  · have c2 := of_decide_eq_true c
    have hg : grp n = 1 := by unfold grp; rw [if_neg (by omega), if_pos (by omega)]
    refine ⟨_, rfl, a, n, _, rfl, (by omega), x8, fun D5 G9 s9 f5 e5 => ⟨(by show 6 ≤ sizeLine; omega), fun D6 h6 => ?_⟩⟩
    exact fin D5 G9 D6 s9 f5 e5 h6 [false, true, false, false, true, true] (by unfold brow; rw [hg]; rfl) (by decide +kernel) (by decide +kernel)
  · have c2 := of_decide_eq_false c
    have hg : grp n = 2 := by unfold grp; rw [if_neg (by omega), if_neg (by omega)]
    refine ⟨_, rfl, a, n, _, rfl, (by omega), x8, fun D5 G9 s9 f5 e5 => ⟨(by show 6 ≤ sizeLine; omega), fun D6 h6 => ?_⟩⟩
    exact fin D5 G9 D6 s9 f5 e5 h6 [false, false, true, false, false, true] (by unfold brow; rw [hg]; rfl) (by decide +kernel) (by decide +kernel)
abbrev s_law_bases_right : Stmt := top 58
theorem sc_law_bases_right : FnScope [] [] (defScope s_law_bases_right) := ⟨rfl, rfl, rfl, by decide +kernel, rfl, by decide +kernel, by decide +kernel⟩
theorem ok_bases_right {f f5 : Addr} {fd fd5 : FuncData} (F : Fun K "_law_bases_right" "_law_bases_right" s_law_bases_right f fd) (T : Txt K mg base cs)
    (D__law_bases : Df P w K mg base CX0 1 "_law_bases" f5 fd5 ["_law_e"] (spBases cs)) :
    FnG P w K mg base CX0 2 f fd [] spBasesR := by
  refine okG F sc_law_bases_right (fun vs H Q E h => ?_) (fun cdv A outer s H vs Q E hc hr h => ?_)
  · obtain ⟨rfl, _⟩ := h
    rfl
  obtain ⟨rfl, q⟩ := h
  refine ⟨_, (pss_cons (ps_if (pt_cmpR (op_neD hr.units) (pe_d D__law_bases hc (hr.mono (by omega)) (by rfl) (fun _ => passN) (pa_cons (pe_exv1 T.m_FormatError pe_str) pa_nil)) (pe_lst (pa_cons pe_bl (pa_cons pe_bl (pa_cons pe_bl (pa_cons pe_bl (pa_cons pe_bl (pa_cons pe_bl pa_nil))))))) (nomark _))
  (pss_one (ps_ret pe_bl)) pss_nil)
 (pss_cons (ps_if (pt_cmpR (op_neD hr.units) (pe_d D__law_bases hc (hr.mono (by omega)) (by rfl) (fun _ => passN) (pa_cons (pe_exv1 T.m_MissingError pe_str) pa_nil)) (pe_lst (pa_cons pe_bl (pa_cons pe_bl (pa_cons pe_bl (pa_cons pe_bl (pa_cons pe_bl (pa_cons pe_bl pa_nil))))))) (nomark _))
  (pss_one (ps_ret pe_bl)) pss_nil)
 (pss_one (ps_ret (pe_cmpR (op_eqD hr.units) (pe_d D__law_bases hc (hr.mono (by omega)) (by rfl) (fun _ => passN) (pa_cons (pe_exv1 T.m_StateError pe_str) pa_nil)) (pe_lst (pa_cons pe_bl (pa_cons pe_bl (pa_cons pe_bl (pa_cons pe_bl (pa_cons pe_bl (pa_cons pe_bl pa_nil))))))) (nomark _)))))), ?_⟩
  have z16 := sizeLine_eq
  have dp : ∀ (k : Nat) (l : List Bool) (D D2 : Addr) (G : Hp), G D = some (.lst (brow k)) → brow k = l.map V.bl → G D2 = none → Dp K (upd G D2 (.lst (l.map V.bl))) (.ref D) (.list (l.map PyData.bool)) ∧ Dp K (upd G D2 (.lst (l.map V.bl))) (.ref D2) (.list (l.map PyData.bool)) := fun k l D D2 G e hl h => ⟨.lst (SqL.of (keepO (by rw [← hl]; exact e) h)) (row_dp l), .lst (SqL.of upd_same) (row_dp l)⟩
  intro a1 h1
  refine ⟨a1, 39, [], rfl, by decide, .none upd_same, fun D1 G1 s1 f1 e1 => ⟨(by show 6 ≤ sizeLine; omega), fun D2 h2 => ?_⟩⟩
  have d1 := dp 39 [true, false, false, true, false, false] D1 D2 G1 e1 rfl h2
  refine ⟨_, _, d1.1, d1.2, by decide +kernel, by decide +kernel, _, rfl, ?_⟩
  refine iteB (fun c => absurd c (by decide +kernel)) (fun _ => ?_)
  have t1 := ((same_new h1).trans s1).trans (same_new (o := .lst [.bl true, .bl false, .bl false, .bl true, .bl false, .bl false]) h2)
  generalize upd G1 D2 (.lst [.bl true, .bl false, .bl false, .bl true, .bl false, .bl false]) = G2 at t1 ⊢
  intro a3 h3
  refine ⟨a3, 40, [], rfl, by decide, .none upd_same, fun D3 G3 s3 f3 e3 => ⟨(by show 6 ≤ sizeLine; omega), fun D4 h4 => ?_⟩⟩
  have d3 := dp 40 [false, true, false, false, true, true] D3 D4 G3 e3 rfl h4
  refine ⟨_, _, d3.1, d3.2, by decide +kernel, by decide +kernel, _, rfl, ?_⟩
  refine iteB (fun c => absurd c (by decide +kernel)) (fun _ => ?_)
  have t3 := ((t1.trans (same_new h3)).trans s3).trans (same_new (o := .lst [.bl false, .bl true, .bl false, .bl false, .bl true, .bl true]) h4)
  generalize upd G3 D4 (.lst [.bl false, .bl true, .bl false, .bl false, .bl true, .bl true]) = G4 at t3 ⊢
  intro a5 h5
  refine ⟨a5, 41, [], rfl, by decide, .none upd_same, fun D5 G5 s5 f5 e5 => ⟨(by show 6 ≤ sizeLine; omega), fun D6 h6 => ?_⟩⟩
  have d5 := dp 41 [false, false, true, false, false, true] D5 D6 G5 e5 rfl h6
  refine ⟨_, _, d5.1, d5.2, by decide +kernel, by decide +kernel, ?_⟩
  exact q _ (((t3.trans (same_new h5)).trans s5).trans (same_new h6))
end
end K4

namespace K4
open PySem L2 Gd
def spLaw (K : PySem.W.Frag) : Sp := fun vs H Q _ => ∃ (a : Addr) (ns : List Int), vs = [.ref a] ∧ SqL K H a (ns.map V.int) ∧ ns.length ≤ 63 ∧ ∀ G, Q (.bl true) G
structure Pl (Hs : Hp) (p : Addr) (H : Hp) : Prop where
  f : Hs p = none
  s : Same Hs H
  b : BoxAt H p
theorem Pl.kept {Hs H H' : Hp} {p : Addr} (h : Pl Hs p H) (k : Kept H H' p) : Pl Hs p H' :=
  ⟨h.f, fun q o hq => k.2 q o (fun z => by rw [z, h.f] at hq; exact nomatch hq) (h.s q o hq), k.1⟩
theorem Pl.same {Hs H H' : Hp} {p : Addr} (h : Pl Hs p H) (k : Same H H') : Pl Hs p H' := h.kept ((Kept.refl h.b).same k)
section
variable {P : Program} {w : World} {K : PySem.W.Frag} {mg : Str → Option Value} {base : Heap} {cs : Nat → Addr}
abbrev slaw : Stmt := top 59
theorem sclaw : FnScope ["_law_script", "_law_k", "_law_box_here", "_law_way", "_law_named"] ["_law_script"] (defScope slaw) := ⟨rfl, rfl, rfl, by decide +kernel, rfl, by decide +kernel, by decide +kernel⟩
theorem ok_law {f f1 f2 f3 f4 f5 : Addr} {fd fd1 fd2 fd3 fd4 fd5 : FuncData} (F : Fun K "law" "law" slaw f fd) (T : Txt K mg base cs)
    (D__law_cell : Df P w K mg base CX0 1 "_law_cell" f1 fd1 ["_law_script", "_law_k"] (spScr K))
    (D__law_box : Df P w K mg base CX0 1 "_law_box" f2 fd2 ["_law_cell_here"] spBox)
    (D__law_value : Df P w K mg base CX0 2 "_law_value" f3 fd3 ["_law_box_here"] spValue)
    (D__law_right : Df P w K mg base CX0 4 "_law_right" f4 fd4 ["_law_way", "_law_one", "_law_named"] (spRight cs))
    (D__law_bases_right : Df P w K mg base CX0 2 "_law_bases_right" f5 fd5 [] spBasesR) :
    FnG P w K mg base CX0 5 f fd ["_law_script"] (spLaw K) := by
  refine okG F sclaw (fun vs H Q E h => ?_) (fun cdv A outer s H vs Q E hc hr h => ?_)
  · obtain ⟨a, ns, rfl, _⟩ := h
    rfl
  obtain ⟨a, ns, rfl, ha, hns, q⟩ := h
  refine ⟨_, (pss_cons (ps_for (passes_of rfl) rfl (pi_range1 rfl T.z_range (pa_cons (pe_callB (call_max2 rfl) (by rfl) T.z_max (by decide +kernel) (pa_cons pe_int (pa_cons (pe_callB (call_min2 rfl) (by rfl) T.z_min (by decide +kernel) (pa_cons pe_int (pa_cons (pe_callB call_len_seq (by rfl) T.z_len (by decide +kernel) (pa_cons (pv 0) pa_nil)) pa_nil))) pa_nil))) pa_nil)) (pg_name (i := 1) sclaw.nd rfl (Or.inl rfl))
  (pss_cons (ps_set (i := 2) sclaw.nd rfl (Or.inl rfl) (pe_d D__law_box hc (hr.mono (by omega)) (by rfl) (fun _ => passN) (pa_cons (pe_d D__law_cell hc (hr.mono (by omega)) (by rfl) (fun _ => passN) (pa_cons (pv 0) (pa_cons (pv 1) pa_nil))) pa_nil)))
 (pss_one (ps_for (passes_of rfl) rfl (pi_range1 rfl T.z_range (pa_cons pe_int pa_nil)) (pg_name (i := 3) sclaw.nd rfl (Or.inl rfl))
  (pss_one (ps_for (passes_of rfl) rfl (pi_list (pe_lst (pa_cons pe_bl (pa_cons pe_bl pa_nil)))) (pg_name (i := 4) sclaw.nd rfl (Or.inl rfl))
  (pss_one (ps_if (pt_not (pt_val (pe_d D__law_right hc (hr.mono (by omega)) (by rfl) (fun _ => passN) (pa_cons (pv 3) (pa_cons (pe_d D__law_value hc (hr.mono (by omega)) (by rfl) (fun _ => passN) (pa_cons (pv 2) pa_nil)) (pa_cons (pv 4) pa_nil))))))
  (pss_one (ps_ret pe_bl)) pss_nil))))))))
 (pss_one (ps_ret (pe_d0 D__law_bases_right hc (hr.mono (by omega)) (by rfl) (fun _ => passN))))), ?_⟩
  have z16 := sizeLine_eq
  refine ⟨_, rfl, a, _, rfl, .inl ha, _, _, rfl, _, _, rfl, _, rfl, ?_, ?_, ?_⟩
  · split <;> split <;> omega
  · split <;> split <;> omega
  refine for_range (fun i σ H' => ∃ o1 o2 o3 o4, σ = [some (.ref a), o1, o2, o3, o4] ∧ SqL K H' a (ns.map V.int)) ⟨none, none, none, none, rfl, ha⟩ ?_ (fun _ _ _ => ⟨rfl, fun _ _ => q _⟩)
  rintro i _ H1 hi ⟨o1, o2, o3, o4, rfl, h1⟩
  have hi8 : i < 1000 := by
    refine Nat.lt_of_lt_of_le hi ?_
    split <;> split <;> omega
  refine ⟨_, rfl, _, rfl, a, ns, _, rfl, h1, ?_, ?_, fun z => ⟨z, rfl, fun p o hp hb => ?_⟩⟩
  · omega
  · omega
  have pl1 : Pl H1 p (upd H1 p o) := ⟨hp, fun b u hu => by rw [upd_ne (ne_of_none hu hp)]; exact hu, hb⟩
  refine ⟨39, rfl, by decide, by decide, ?_⟩
  refine for_range (fun i' σ H' => ∃ o3 o4, σ = [some (.ref a), some (.int (0 + (i : Nat))), some (.ref p), o3, o4] ∧ Pl H1 p H') ⟨o3, o4, rfl, pl1⟩ ?_ ?_
  · rintro w _ H2 hw ⟨o3, o4, rfl, pl2⟩
    refine ⟨by show 2 ≤ sizeLine; omega, fun L hL => ⟨L, rfl, ⟨_, SqL.of upd_same⟩, ?_⟩⟩
    have Lp : L ≠ p := fun z => by
      obtain ⟨o, e⟩ := pl2.b.some
      rw [z, e] at hL
      exact nomatch hL
    refine for_list (K := K) (a := L) (xs := [.bl false, .bl true]) (fun m σ H' => ∃ o4, σ = [some (.ref a), some (.int (0 + (i : Nat))), some (.ref p), some (.int (0 + (w : Nat))), o4] ∧ H' L = some (.lst [.bl false, .bl true]) ∧ Pl H1 p H') ⟨o4, rfl, upd_same, pl2.same (same_new hL)⟩ ?_ ?_ ?_
    · rintro m σ H' _ ⟨_, _, g1, _⟩
      exact SqL.of g1
    · rintro m t _ H5 hx ⟨o4, rfl, r5, pl5⟩
      obtain ⟨nm, rfl⟩ : ∃ nm, t = .bl nm := by
        have := List.mem_of_getElem? hx
        simp only [List.mem_cons, List.not_mem_nil, or_false] at this
        rcases this with rfl | rfl <;> exact ⟨_, rfl⟩
      refine ⟨_, rfl, _, rfl, p, rfl, pl5.b, fun v own H6 k6 th fr => ?_⟩
      refine ⟨_, rfl, w, v, nm, own, by show [V.int (0 + (w : Nat)), v, .bl nm] = [.int (w : Nat), v, .bl nm]; rw [Int.zero_add], hw, th, fun H7 b7 => ?_⟩
      refine ⟨_, rfl, ?_⟩
      refine iteF ?_
      have stay : ∀ q o, q ≠ p → H5 q = some o → H7 q = some o := fun q o hq e => b7 q o (fun z => by rw [fr q z] at e; exact nomatch e) (k6.2 q o hq e)
      have pn : p ∉ own := fun z => by
        obtain ⟨o, e⟩ := pl5.b.some
        rw [fr p z] at e
        exact nomatch e
      have bx : BoxAt H7 p := by
        obtain ⟨x, y, z, e, r⟩ := k6.1
        exact ⟨x, y, z, b7 _ _ pn e, r⟩
      exact ⟨_, rfl, stay _ _ Lp r5, pl5.kept ⟨bx, stay⟩⟩
    · rintro _ H5 ⟨o4, rfl, r5, pl5⟩
      exact ⟨_, _, rfl, pl5⟩
  · rintro _ H5 ⟨o3, o4, rfl, pl5⟩
    exact ⟨_, _, _, _, rfl, pl5.s.seq h1⟩
end
end K4

namespace K4
open PySem PySem.Spec PyProof.Rows L2 Gd
theorem exm_selfG {K : PySem.W.Frag} {S : Addr} (h1 : PySem.W.subIn K (.ref S) (.type "BaseException") = some true) (h2 : PySem.W.isClsIn K S = true) (h3 : PySem.W.typeIn K (.ref S) = some (.type "type")) (h4 : PySem.W.subIn K (.ref S) (.ref S) = some true) :
    PySem.W.exmOne K (.ref S) (.ref S) = some true := by
  have e1 : (PySem.W.subIn K (.ref S) (.type "BaseException") == some true) = true := by rw [h1] <;> rfl
  have e2 : ((PySem.W.clsIn K S).isSome && PySem.W.typeIn K (.ref S) == some (.type "type")) = true := by
    have h2' : (PySem.W.clsIn K S).isSome = true := h2
    rw [h2', h3] <;> rfl
  show (if (PySem.W.subIn K (.ref S) (.type "BaseException") == some true) = true then (if ((PySem.W.clsIn K S).isSome && PySem.W.typeIn K (.ref S) == some (.type "type")) = true then PySem.W.subIn K (.ref S) (.ref S) else none) else none) = some true
  rw [if_pos e1, if_pos e2]
  exact h4
/-- what is known of a class of the errors: its bases -/
structure MM (K : PySem.W.Frag) (C : Addr) (bm : List Value) : Prop where
  exc : ExcC K C
  eqc : EqC K C
  cls : PySem.W.isClsIn K C = true
  typ : PySem.W.typeIn K (.ref C) = some (.type "type")
  sub : ∀ c, PySem.W.subIn K (.ref C) c = some ((Value.ref C :: bm).contains c)
structure MF (K : PySem.W.Frag) (mg : Str → Option Value) (nm : Str) (C : Addr) (f : Str) (bm : List Value) : Prop where
  mm : MM K C bm
  mks : Mks K mg nm C f
  xf : XfC K C
  no : PySem.W.findIn K (.ref C) f = some none
structure M0 (K : PySem.W.Frag) (mg : Str → Option Value) (nm : Str) (C : Addr) (bm : List Value) : Prop where
  mm : MM K C bm
  mk0 : Mk0 K mg nm C
theorem sub_of {K : PySem.W.Frag} {C N : Addr} {nm q : Str} {bs bm : List Value} {hd : Bool} {sn : List Str} {sub : List Value} {ab : Bool} {col : Option Bool} {dd : Option Addr} {m0 m1 m2 m3 m5 : Option Value} {nw : String} (l : K.lookup C = some (excClassObj nm q C N bs bm hd sn sub ab col dd m0 m1 m2 m3 m5 nw)) (c : Value) : PySem.W.subIn K (.ref C) c = some ((Value.ref C :: bm).contains c) := by
  show PySem.W.mroIn K C c = _
  unfold PySem.W.mroIn PySem.W.clsIn
  rw [l]
  rfl
theorem kit_ref {K : PySem.W.Frag} {C D : Addr} {bm bn : List Value} (h : MM K C bm) (g : MM K D bn) : PySem.W.kitOne K (.ref C) (.ref D) = some ((Value.ref C :: bm).contains (.ref D)) := by
  unfold PySem.W.kitOne
  by_cases e : (Value.ref C == Value.ref D) = true
  · rw [if_pos e]
    have : Value.ref C = Value.ref D := by simpa using e
    rw [this]
    simp
  · rw [if_neg e]
    have e2 : ((PySem.W.clsIn K D).isSome && PySem.W.typeIn K (.ref D) == some (.type "type")) = true := by
      have h2' : (PySem.W.clsIn K D).isSome = true := g.cls
      rw [h2', g.typ] <;> rfl
    show (if ((PySem.W.clsIn K D).isSome && PySem.W.typeIn K (.ref D) == some (.type "type")) = true then PySem.W.subIn K (.ref C) (.ref D) else none) = _
    rw [if_pos e2]
    exact h.sub _
theorem kit_ty {K : PySem.W.Frag} {C : Addr} {bm : List Value} {T : String} (h : MM K C bm) (g : PySem.W.kitMeta T = true) : PySem.W.kitOne K (.ref C) (.type T) = some ((Value.ref C :: bm).contains (.type T)) := by
  unfold PySem.W.kitOne
  have e : ¬(Value.ref C == Value.type T) = true := by simp
  rw [if_neg e]
  show (if PySem.W.kitMeta T = true then PySem.W.subIn K (.ref C) (.type T) else none) = _
  rw [if_pos g]
  exact h.sub _
theorem in_ke : PySem.Xe.InF "KeyError" "KeyError.__init__" := ⟨PyProof.Rows.excClass_KeyError.init, PyProof.Rows.excClass_KeyError.initEntry, PyProof.Rows.excClass_KeyError.initSplit, PyProof.Rows.excClass_KeyError.initKind, PyProof.Rows.excClass_KeyError.initSig, by decide +kernel⟩
def tabOk (cs : Nat → Addr) (bms : Nat → List Value) : Bool := (List.range 42).all fun i =>
  ((List.range 39).all fun j => (Value.ref (cs i) :: bms i).contains (.ref (cs j)) == decide (i = j)) &&
  ((List.range 3).all fun g => (Value.ref (cs i) :: bms i).contains (.ref (cs (39 + g))) == decide (grp i = g)) &&
  ((Value.ref (cs i) :: bms i).contains (.type "ValueError") == decide (grp i = 0)) &&
  ((Value.ref (cs i) :: bms i).contains (.type "KeyError") == decide (grp i = 1)) &&
  ((Value.ref (cs i) :: bms i).contains (.type "LookupError") == !decide (grp i = 0)) &&
  ((Value.ref (cs i) :: bms i).contains (.type "IndexError") == false)
theorem tab_at {cs : Nat → Addr} {bms : Nat → List Value} (h : tabOk cs bms = true) {i : Nat} (hi : i < 42) :
    (∀ j, j < 39 → (Value.ref (cs i) :: bms i).contains (.ref (cs j)) = decide (i = j)) ∧ (∀ g, g < 3 → (Value.ref (cs i) :: bms i).contains (.ref (cs (39 + g))) = decide (grp i = g)) ∧
    (Value.ref (cs i) :: bms i).contains (.type "ValueError") = decide (grp i = 0) ∧ (Value.ref (cs i) :: bms i).contains (.type "KeyError") = decide (grp i = 1) ∧ (Value.ref (cs i) :: bms i).contains (.type "LookupError") = (!decide (grp i = 0)) ∧ (Value.ref (cs i) :: bms i).contains (.type "IndexError") = false := by
  have h1 := List.all_eq_true.mp h i (List.mem_range.mpr hi)
  simp only [Bool.and_eq_true] at h1
  obtain ⟨⟨⟨⟨⟨a, b⟩, c⟩, d⟩, e⟩, f⟩ := h1
  exact ⟨fun j hj => eq_of_beq (List.all_eq_true.mp a j (List.mem_range.mpr hj)), fun g hg => eq_of_beq (List.all_eq_true.mp b g (List.mem_range.mpr hg)), eq_of_beq c, eq_of_beq d, eq_of_beq e, eq_of_beq f⟩
theorem mf_value0 {K : PySem.W.Frag} {mg : Str → Option Value} {h : Heap} {x : Str} {qn : String} {C N : Addr} {nm q : Str} {bs bm : List Value} {sn : List Str} {sub : List Value} {ab : Bool} {col : Option Bool} {dd : Option Addr} {m0 m1 m2 m3 m5 : Option Value} {g : Addr} {oc dc pm cd ct : Value} {od an : Option Addr} {sl : Array (Option Value)} {p1 p2 q1 q2 q3 q4 : Pos} (X : K.In h) (G : h.Ns mainGlobals mg)
    (aC : PySem.W.nsIn K mainGlobals x = some (some (.ref C)))
    (xL : K.lookup C = some (excClassObj nm q C N bs bm true sn sub ab col dd m0 m1 m2 m3 m5 "ValueError.__new__"))
    (vb : PySem.HandSPX.refsVE bm = true)
    (ga : PySem.W.findIn K (.ref C) "__getattribute__" = some (some (.builtin "BaseException.__getattribute__")))
    (gg : PySem.W.findIn K (.ref C) "__getattr__" = some none)
    (kC : PySem.W.keepIn K (.ref C) = true)
    (eC : PySem.W.subIn K (.ref C) (.type "BaseException") = some true)
    (tC : PySem.W.typeIn K (.ref C) = some (.type "type"))
    (hC : PySem.W.hasDictIn K C = true)
    (jC : PySem.W.isClsIn K C = true)
    (ha : PySem.W.findIn K (.ref C) "__class__" = some (some (.builtin "object.__class__")))
    (hn : PySem.W.specialIn K (.builtin "object.__class__") "__get__" = some (some (.builtin "getset_descriptor.__get__")))
    (ht : PySem.W.takesIn K (.builtin "object.__class__") = some true)
    (hm : PySem.W.mroIn K C (.type "object") = some true)
    (eq : PySem.W.findIn K (.ref C) "__eq__" = some (some (.builtin "object.__eq__")))
    (ob : PySem.W.subIn K (.ref C) (.type "object") = some true)
    (sa : PySem.W.findIn K (.ref C) "__setattr__" = some (some (.builtin "object.__setattr__")))
    (nb : PySem.W.findIn K (.ref C) "value" = some none)
    (iC : PySem.W.findIn K (.ref C) "__init__" = some (some (.ref g)))
    (tf : PySem.W.typeIn K (.ref g) = some (.type "function"))
    (lf : K.lookup g = some ⟨oc, od, .func (PySem.W.fnOf "__init__" qn (PySem.EzValue.iA p1 p2) (PySem.EzValue.iB q1 q2 q3 q4) PySem.EzValue.iS .none .none dc pm an cd ct), sl⟩)
    (cf : PySem.W.codeIn K cd qn = true)
    : MF K mg x C "value" bm := by
  have sC : PySem.W.subIn K (.ref C) (.ref C) = some true := by rw [sub_of xL]; simp
  have low : PySem.EzValue.LowTxt K mg x qn C g := { gC := PySem.W.mg_of X G aC, cls := ⟨nm, q, N, bs, bm, sn, sub, ab, col, dd, m0, m1, m2, m3, m5, xL, vb⟩, sa := sa, ga := ga, gg := gg, noN := nb, iC := iC, tC := tf, kC := kC, exC := eC, tyC := tC, hdC := hC, te := exm_selfG eC jC tC sC, fn := ⟨_, _, _, _, _, _, _, _, _, _, _, _, _, _, lf, cf⟩ }
  exact ⟨⟨⟨ga, gg, eC, hC, ha, hn, ht, hm⟩, ⟨eq, ob⟩, jC, tC, sub_of xL⟩, PySem.EzValue.mks low, ⟨ga, gg, eC, hC⟩, nb⟩
theorem mf_index0 {K : PySem.W.Frag} {mg : Str → Option Value} {h : Heap} {x : Str} {qn : String} {C N : Addr} {nm q : Str} {bs bm : List Value} {sn : List Str} {sub : List Value} {ab : Bool} {col : Option Bool} {dd : Option Addr} {m0 m1 m2 m3 m5 : Option Value} {g : Addr} {oc dc pm cd ct : Value} {od an : Option Addr} {sl : Array (Option Value)} {p1 p2 q1 q2 q3 q4 : Pos} (X : K.In h) (G : h.Ns mainGlobals mg)
    (aC : PySem.W.nsIn K mainGlobals x = some (some (.ref C)))
    (xL : K.lookup C = some (excClassObj nm q C N bs bm true sn sub ab col dd m0 m1 m2 m3 m5 "ValueError.__new__"))
    (vb : PySem.HandSPX.refsVE bm = true)
    (ga : PySem.W.findIn K (.ref C) "__getattribute__" = some (some (.builtin "BaseException.__getattribute__")))
    (gg : PySem.W.findIn K (.ref C) "__getattr__" = some none)
    (kC : PySem.W.keepIn K (.ref C) = true)
    (eC : PySem.W.subIn K (.ref C) (.type "BaseException") = some true)
    (tC : PySem.W.typeIn K (.ref C) = some (.type "type"))
    (hC : PySem.W.hasDictIn K C = true)
    (jC : PySem.W.isClsIn K C = true)
    (ha : PySem.W.findIn K (.ref C) "__class__" = some (some (.builtin "object.__class__")))
    (hn : PySem.W.specialIn K (.builtin "object.__class__") "__get__" = some (some (.builtin "getset_descriptor.__get__")))
    (ht : PySem.W.takesIn K (.builtin "object.__class__") = some true)
    (hm : PySem.W.mroIn K C (.type "object") = some true)
    (eq : PySem.W.findIn K (.ref C) "__eq__" = some (some (.builtin "object.__eq__")))
    (ob : PySem.W.subIn K (.ref C) (.type "object") = some true)
    (sa : PySem.W.findIn K (.ref C) "__setattr__" = some (some (.builtin "object.__setattr__")))
    (nb : PySem.W.findIn K (.ref C) "index" = some none)
    (iC : PySem.W.findIn K (.ref C) "__init__" = some (some (.ref g)))
    (tf : PySem.W.typeIn K (.ref g) = some (.type "function"))
    (lf : K.lookup g = some ⟨oc, od, .func (PySem.W.fnOf "__init__" qn (PySem.EzIndex.iA p1 p2) (PySem.EzIndex.iB q1 q2 q3 q4) PySem.EzIndex.iS .none .none dc pm an cd ct), sl⟩)
    (cf : PySem.W.codeIn K cd qn = true)
    : MF K mg x C "index" bm := by
  have sC : PySem.W.subIn K (.ref C) (.ref C) = some true := by rw [sub_of xL]; simp
  have low : PySem.EzIndex.LowTxt K mg x qn C g := { gC := PySem.W.mg_of X G aC, cls := ⟨nm, q, N, bs, bm, sn, sub, ab, col, dd, m0, m1, m2, m3, m5, xL, vb⟩, sa := sa, ga := ga, gg := gg, noN := nb, iC := iC, tC := tf, kC := kC, exC := eC, tyC := tC, hdC := hC, te := exm_selfG eC jC tC sC, fn := ⟨_, _, _, _, _, _, _, _, _, _, _, _, _, _, lf, cf⟩ }
  exact ⟨⟨⟨ga, gg, eC, hC, ha, hn, ht, hm⟩, ⟨eq, ob⟩, jC, tC, sub_of xL⟩, PySem.EzIndex.mks low, ⟨ga, gg, eC, hC⟩, nb⟩
theorem mf_count0 {K : PySem.W.Frag} {mg : Str → Option Value} {h : Heap} {x : Str} {qn : String} {C N : Addr} {nm q : Str} {bs bm : List Value} {sn : List Str} {sub : List Value} {ab : Bool} {col : Option Bool} {dd : Option Addr} {m0 m1 m2 m3 m5 : Option Value} {g : Addr} {oc dc pm cd ct : Value} {od an : Option Addr} {sl : Array (Option Value)} {p1 p2 q1 q2 q3 q4 : Pos} (X : K.In h) (G : h.Ns mainGlobals mg)
    (aC : PySem.W.nsIn K mainGlobals x = some (some (.ref C)))
    (xL : K.lookup C = some (excClassObj nm q C N bs bm true sn sub ab col dd m0 m1 m2 m3 m5 "ValueError.__new__"))
    (vb : PySem.HandSPX.refsVE bm = true)
    (ga : PySem.W.findIn K (.ref C) "__getattribute__" = some (some (.builtin "BaseException.__getattribute__")))
    (gg : PySem.W.findIn K (.ref C) "__getattr__" = some none)
    (kC : PySem.W.keepIn K (.ref C) = true)
    (eC : PySem.W.subIn K (.ref C) (.type "BaseException") = some true)
    (tC : PySem.W.typeIn K (.ref C) = some (.type "type"))
    (hC : PySem.W.hasDictIn K C = true)
    (jC : PySem.W.isClsIn K C = true)
    (ha : PySem.W.findIn K (.ref C) "__class__" = some (some (.builtin "object.__class__")))
    (hn : PySem.W.specialIn K (.builtin "object.__class__") "__get__" = some (some (.builtin "getset_descriptor.__get__")))
    (ht : PySem.W.takesIn K (.builtin "object.__class__") = some true)
    (hm : PySem.W.mroIn K C (.type "object") = some true)
    (eq : PySem.W.findIn K (.ref C) "__eq__" = some (some (.builtin "object.__eq__")))
    (ob : PySem.W.subIn K (.ref C) (.type "object") = some true)
    (sa : PySem.W.findIn K (.ref C) "__setattr__" = some (some (.builtin "object.__setattr__")))
    (nb : PySem.W.findIn K (.ref C) "count" = some none)
    (iC : PySem.W.findIn K (.ref C) "__init__" = some (some (.ref g)))
    (tf : PySem.W.typeIn K (.ref g) = some (.type "function"))
    (lf : K.lookup g = some ⟨oc, od, .func (PySem.W.fnOf "__init__" qn (PySem.EzCount.iA p1 p2) (PySem.EzCount.iB q1 q2 q3 q4) PySem.EzCount.iS .none .none dc pm an cd ct), sl⟩)
    (cf : PySem.W.codeIn K cd qn = true)
    : MF K mg x C "count" bm := by
  have sC : PySem.W.subIn K (.ref C) (.ref C) = some true := by rw [sub_of xL]; simp
  have low : PySem.EzCount.LowTxt K mg x qn C g := { gC := PySem.W.mg_of X G aC, cls := ⟨nm, q, N, bs, bm, sn, sub, ab, col, dd, m0, m1, m2, m3, m5, xL, vb⟩, sa := sa, ga := ga, gg := gg, noN := nb, iC := iC, tC := tf, kC := kC, exC := eC, tyC := tC, hdC := hC, te := exm_selfG eC jC tC sC, fn := ⟨_, _, _, _, _, _, _, _, _, _, _, _, _, _, lf, cf⟩ }
  exact ⟨⟨⟨ga, gg, eC, hC, ha, hn, ht, hm⟩, ⟨eq, ob⟩, jC, tC, sub_of xL⟩, PySem.EzCount.mks low, ⟨ga, gg, eC, hC⟩, nb⟩
theorem mf_name0 {K : PySem.W.Frag} {mg : Str → Option Value} {h : Heap} {x : Str} {qn : String} {C N : Addr} {nm q : Str} {bs bm : List Value} {sn : List Str} {sub : List Value} {ab : Bool} {col : Option Bool} {dd : Option Addr} {m0 m1 m2 m3 m5 : Option Value} {g : Addr} {oc dc pm cd ct : Value} {od an : Option Addr} {sl : Array (Option Value)} {p1 p2 q1 q2 q3 q4 : Pos} (X : K.In h) (G : h.Ns mainGlobals mg)
    (aC : PySem.W.nsIn K mainGlobals x = some (some (.ref C)))
    (xL : K.lookup C = some (excClassObj nm q C N bs bm true sn sub ab col dd m0 m1 m2 m3 m5 "ValueError.__new__"))
    (vb : PySem.HandSPX.refsVE bm = true)
    (ga : PySem.W.findIn K (.ref C) "__getattribute__" = some (some (.builtin "BaseException.__getattribute__")))
    (gg : PySem.W.findIn K (.ref C) "__getattr__" = some none)
    (kC : PySem.W.keepIn K (.ref C) = true)
    (eC : PySem.W.subIn K (.ref C) (.type "BaseException") = some true)
    (tC : PySem.W.typeIn K (.ref C) = some (.type "type"))
    (hC : PySem.W.hasDictIn K C = true)
    (jC : PySem.W.isClsIn K C = true)
    (ha : PySem.W.findIn K (.ref C) "__class__" = some (some (.builtin "object.__class__")))
    (hn : PySem.W.specialIn K (.builtin "object.__class__") "__get__" = some (some (.builtin "getset_descriptor.__get__")))
    (ht : PySem.W.takesIn K (.builtin "object.__class__") = some true)
    (hm : PySem.W.mroIn K C (.type "object") = some true)
    (eq : PySem.W.findIn K (.ref C) "__eq__" = some (some (.builtin "object.__eq__")))
    (ob : PySem.W.subIn K (.ref C) (.type "object") = some true)
    (sa : PySem.W.findIn K (.ref C) "__setattr__" = some (some (.builtin "object.__setattr__")))
    (nb : PySem.W.findIn K (.ref C) "name" = some none)
    (iC : PySem.W.findIn K (.ref C) "__init__" = some (some (.ref g)))
    (tf : PySem.W.typeIn K (.ref g) = some (.type "function"))
    (lf : K.lookup g = some ⟨oc, od, .func (PySem.W.fnOf "__init__" qn (PySem.EzName.iA p1 p2) (PySem.EzName.iB q1 q2 q3 q4) PySem.EzName.iS .none .none dc pm an cd ct), sl⟩)
    (cf : PySem.W.codeIn K cd qn = true)
    : MF K mg x C "name" bm := by
  have sC : PySem.W.subIn K (.ref C) (.ref C) = some true := by rw [sub_of xL]; simp
  have low : PySem.EzName.LowTxt K mg x qn C g := { gC := PySem.W.mg_of X G aC, cls := ⟨nm, q, N, bs, bm, sn, sub, ab, col, dd, m0, m1, m2, m3, m5, xL, vb⟩, sa := sa, ga := ga, gg := gg, noN := nb, iC := iC, tC := tf, kC := kC, exC := eC, tyC := tC, hdC := hC, te := exm_selfG eC jC tC sC, fn := ⟨_, _, _, _, _, _, _, _, _, _, _, _, _, _, lf, cf⟩ }
  exact ⟨⟨⟨ga, gg, eC, hC, ha, hn, ht, hm⟩, ⟨eq, ob⟩, jC, tC, sub_of xL⟩, PySem.EzName.mks low, ⟨ga, gg, eC, hC⟩, nb⟩
theorem mf_circle0 {K : PySem.W.Frag} {mg : Str → Option Value} {h : Heap} {x : Str} {qn : String} {C N : Addr} {nm q : Str} {bs bm : List Value} {sn : List Str} {sub : List Value} {ab : Bool} {col : Option Bool} {dd : Option Addr} {m0 m1 m2 m3 m5 : Option Value} {g : Addr} {oc dc pm cd ct : Value} {od an : Option Addr} {sl : Array (Option Value)} {p1 p2 q1 q2 q3 q4 : Pos} (X : K.In h) (G : h.Ns mainGlobals mg)
    (aC : PySem.W.nsIn K mainGlobals x = some (some (.ref C)))
    (xL : K.lookup C = some (excClassObj nm q C N bs bm true sn sub ab col dd m0 m1 m2 m3 m5 "ValueError.__new__"))
    (vb : PySem.HandSPX.refsVE bm = true)
    (ga : PySem.W.findIn K (.ref C) "__getattribute__" = some (some (.builtin "BaseException.__getattribute__")))
    (gg : PySem.W.findIn K (.ref C) "__getattr__" = some none)
    (kC : PySem.W.keepIn K (.ref C) = true)
    (eC : PySem.W.subIn K (.ref C) (.type "BaseException") = some true)
    (tC : PySem.W.typeIn K (.ref C) = some (.type "type"))
    (hC : PySem.W.hasDictIn K C = true)
    (jC : PySem.W.isClsIn K C = true)
    (ha : PySem.W.findIn K (.ref C) "__class__" = some (some (.builtin "object.__class__")))
    (hn : PySem.W.specialIn K (.builtin "object.__class__") "__get__" = some (some (.builtin "getset_descriptor.__get__")))
    (ht : PySem.W.takesIn K (.builtin "object.__class__") = some true)
    (hm : PySem.W.mroIn K C (.type "object") = some true)
    (eq : PySem.W.findIn K (.ref C) "__eq__" = some (some (.builtin "object.__eq__")))
    (ob : PySem.W.subIn K (.ref C) (.type "object") = some true)
    (sa : PySem.W.findIn K (.ref C) "__setattr__" = some (some (.builtin "object.__setattr__")))
    (nb : PySem.W.findIn K (.ref C) "circle" = some none)
    (iC : PySem.W.findIn K (.ref C) "__init__" = some (some (.ref g)))
    (tf : PySem.W.typeIn K (.ref g) = some (.type "function"))
    (lf : K.lookup g = some ⟨oc, od, .func (PySem.W.fnOf "__init__" qn (PySem.EzCircle.iA p1 p2) (PySem.EzCircle.iB q1 q2 q3 q4) PySem.EzCircle.iS .none .none dc pm an cd ct), sl⟩)
    (cf : PySem.W.codeIn K cd qn = true)
    : MF K mg x C "circle" bm := by
  have sC : PySem.W.subIn K (.ref C) (.ref C) = some true := by rw [sub_of xL]; simp
  have low : PySem.EzCircle.LowTxt K mg x qn C g := { gC := PySem.W.mg_of X G aC, cls := ⟨nm, q, N, bs, bm, sn, sub, ab, col, dd, m0, m1, m2, m3, m5, xL, vb⟩, sa := sa, ga := ga, gg := gg, noN := nb, iC := iC, tC := tf, kC := kC, exC := eC, tyC := tC, hdC := hC, te := exm_selfG eC jC tC sC, fn := ⟨_, _, _, _, _, _, _, _, _, _, _, _, _, _, lf, cf⟩ }
  exact ⟨⟨⟨ga, gg, eC, hC, ha, hn, ht, hm⟩, ⟨eq, ob⟩, jC, tC, sub_of xL⟩, PySem.EzCircle.mks low, ⟨ga, gg, eC, hC⟩, nb⟩
theorem mf_letter1 {K : PySem.W.Frag} {mg : Str → Option Value} {h : Heap} {x : Str} {qn : String} {C N : Addr} {nm q : Str} {bs bm : List Value} {sn : List Str} {sub : List Value} {ab : Bool} {col : Option Bool} {dd : Option Addr} {m0 m1 m2 m3 m5 : Option Value} {g : Addr} {oc dc pm cd ct : Value} {od an : Option Addr} {sl : Array (Option Value)} {p1 p2 q1 q2 q3 q4 : Pos} (X : K.In h) (G : h.Ns mainGlobals mg)
    (aC : PySem.W.nsIn K mainGlobals x = some (some (.ref C)))
    (xL : K.lookup C = some (excClassObj nm q C N bs bm true sn sub ab col dd m0 m1 m2 m3 m5 "LookupError.__new__"))
    (vb : PySem.Xk.ovB bm = true)
    (ga : PySem.W.findIn K (.ref C) "__getattribute__" = some (some (.builtin "BaseException.__getattribute__")))
    (gg : PySem.W.findIn K (.ref C) "__getattr__" = some none)
    (kC : PySem.W.keepIn K (.ref C) = true)
    (eC : PySem.W.subIn K (.ref C) (.type "BaseException") = some true)
    (tC : PySem.W.typeIn K (.ref C) = some (.type "type"))
    (hC : PySem.W.hasDictIn K C = true)
    (jC : PySem.W.isClsIn K C = true)
    (ha : PySem.W.findIn K (.ref C) "__class__" = some (some (.builtin "object.__class__")))
    (hn : PySem.W.specialIn K (.builtin "object.__class__") "__get__" = some (some (.builtin "getset_descriptor.__get__")))
    (ht : PySem.W.takesIn K (.builtin "object.__class__") = some true)
    (hm : PySem.W.mroIn K C (.type "object") = some true)
    (eq : PySem.W.findIn K (.ref C) "__eq__" = some (some (.builtin "object.__eq__")))
    (ob : PySem.W.subIn K (.ref C) (.type "object") = some true)
    (sa : PySem.W.findIn K (.ref C) "__setattr__" = some (some (.builtin "object.__setattr__")))
    (nb : PySem.W.findIn K (.ref C) "letter" = some none)
    (iC : PySem.W.findIn K (.ref C) "__init__" = some (some (.ref g)))
    (tf : PySem.W.typeIn K (.ref g) = some (.type "function"))
    (lf : K.lookup g = some ⟨oc, od, .func (PySem.W.fnOf "__init__" qn (PySem.EkLetter.iA p1 p2) (PySem.EkLetter.iB q1 q2 q3 q4) PySem.EkLetter.iS .none .none dc pm an cd ct), sl⟩)
    (cf : PySem.W.codeIn K cd qn = true)
    : MF K mg x C "letter" bm := by
  have sC : PySem.W.subIn K (.ref C) (.ref C) = some true := by rw [sub_of xL]; simp
  have low : PySem.EkLetter.LowTxt K mg x qn C g := { gC := PySem.W.mg_of X G aC, cls := ⟨nm, q, N, bs, bm, sn, sub, ab, col, dd, m0, m1, m2, m3, m5, xL, vb⟩, sa := sa, ga := ga, gg := gg, noN := nb, iC := iC, tC := tf, kC := kC, exC := eC, tyC := tC, hdC := hC, te := exm_selfG eC jC tC sC, fn := ⟨_, _, _, _, _, _, _, _, _, _, _, _, _, _, lf, cf⟩ }
  exact ⟨⟨⟨ga, gg, eC, hC, ha, hn, ht, hm⟩, ⟨eq, ob⟩, jC, tC, sub_of xL⟩, PySem.EkLetter.mks low, ⟨ga, gg, eC, hC⟩, nb⟩
theorem mf_number1 {K : PySem.W.Frag} {mg : Str → Option Value} {h : Heap} {x : Str} {qn : String} {C N : Addr} {nm q : Str} {bs bm : List Value} {sn : List Str} {sub : List Value} {ab : Bool} {col : Option Bool} {dd : Option Addr} {m0 m1 m2 m3 m5 : Option Value} {g : Addr} {oc dc pm cd ct : Value} {od an : Option Addr} {sl : Array (Option Value)} {p1 p2 q1 q2 q3 q4 : Pos} (X : K.In h) (G : h.Ns mainGlobals mg)
    (aC : PySem.W.nsIn K mainGlobals x = some (some (.ref C)))
    (xL : K.lookup C = some (excClassObj nm q C N bs bm true sn sub ab col dd m0 m1 m2 m3 m5 "LookupError.__new__"))
    (vb : PySem.Xk.ovB bm = true)
    (ga : PySem.W.findIn K (.ref C) "__getattribute__" = some (some (.builtin "BaseException.__getattribute__")))
    (gg : PySem.W.findIn K (.ref C) "__getattr__" = some none)
    (kC : PySem.W.keepIn K (.ref C) = true)
    (eC : PySem.W.subIn K (.ref C) (.type "BaseException") = some true)
    (tC : PySem.W.typeIn K (.ref C) = some (.type "type"))
    (hC : PySem.W.hasDictIn K C = true)
    (jC : PySem.W.isClsIn K C = true)
    (ha : PySem.W.findIn K (.ref C) "__class__" = some (some (.builtin "object.__class__")))
    (hn : PySem.W.specialIn K (.builtin "object.__class__") "__get__" = some (some (.builtin "getset_descriptor.__get__")))
    (ht : PySem.W.takesIn K (.builtin "object.__class__") = some true)
    (hm : PySem.W.mroIn K C (.type "object") = some true)
    (eq : PySem.W.findIn K (.ref C) "__eq__" = some (some (.builtin "object.__eq__")))
    (ob : PySem.W.subIn K (.ref C) (.type "object") = some true)
    (sa : PySem.W.findIn K (.ref C) "__setattr__" = some (some (.builtin "object.__setattr__")))
    (nb : PySem.W.findIn K (.ref C) "number" = some none)
    (iC : PySem.W.findIn K (.ref C) "__init__" = some (some (.ref g)))
    (tf : PySem.W.typeIn K (.ref g) = some (.type "function"))
    (lf : K.lookup g = some ⟨oc, od, .func (PySem.W.fnOf "__init__" qn (PySem.EkNumber.iA p1 p2) (PySem.EkNumber.iB q1 q2 q3 q4) PySem.EkNumber.iS .none .none dc pm an cd ct), sl⟩)
    (cf : PySem.W.codeIn K cd qn = true)
    : MF K mg x C "number" bm := by
  have sC : PySem.W.subIn K (.ref C) (.ref C) = some true := by rw [sub_of xL]; simp
  have low : PySem.EkNumber.LowTxt K mg x qn C g := { gC := PySem.W.mg_of X G aC, cls := ⟨nm, q, N, bs, bm, sn, sub, ab, col, dd, m0, m1, m2, m3, m5, xL, vb⟩, sa := sa, ga := ga, gg := gg, noN := nb, iC := iC, tC := tf, kC := kC, exC := eC, tyC := tC, hdC := hC, te := exm_selfG eC jC tC sC, fn := ⟨_, _, _, _, _, _, _, _, _, _, _, _, _, _, lf, cf⟩ }
  exact ⟨⟨⟨ga, gg, eC, hC, ha, hn, ht, hm⟩, ⟨eq, ob⟩, jC, tC, sub_of xL⟩, PySem.EkNumber.mks low, ⟨ga, gg, eC, hC⟩, nb⟩
theorem mf_name1 {K : PySem.W.Frag} {mg : Str → Option Value} {h : Heap} {x : Str} {qn : String} {C N : Addr} {nm q : Str} {bs bm : List Value} {sn : List Str} {sub : List Value} {ab : Bool} {col : Option Bool} {dd : Option Addr} {m0 m1 m2 m3 m5 : Option Value} {g : Addr} {oc dc pm cd ct : Value} {od an : Option Addr} {sl : Array (Option Value)} {p1 p2 q1 q2 q3 q4 : Pos} (X : K.In h) (G : h.Ns mainGlobals mg)
    (aC : PySem.W.nsIn K mainGlobals x = some (some (.ref C)))
    (xL : K.lookup C = some (excClassObj nm q C N bs bm true sn sub ab col dd m0 m1 m2 m3 m5 "LookupError.__new__"))
    (vb : PySem.Xk.ovB bm = true)
    (ga : PySem.W.findIn K (.ref C) "__getattribute__" = some (some (.builtin "BaseException.__getattribute__")))
    (gg : PySem.W.findIn K (.ref C) "__getattr__" = some none)
    (kC : PySem.W.keepIn K (.ref C) = true)
    (eC : PySem.W.subIn K (.ref C) (.type "BaseException") = some true)
    (tC : PySem.W.typeIn K (.ref C) = some (.type "type"))
    (hC : PySem.W.hasDictIn K C = true)
    (jC : PySem.W.isClsIn K C = true)
    (ha : PySem.W.findIn K (.ref C) "__class__" = some (some (.builtin "object.__class__")))
    (hn : PySem.W.specialIn K (.builtin "object.__class__") "__get__" = some (some (.builtin "getset_descriptor.__get__")))
    (ht : PySem.W.takesIn K (.builtin "object.__class__") = some true)
    (hm : PySem.W.mroIn K C (.type "object") = some true)
    (eq : PySem.W.findIn K (.ref C) "__eq__" = some (some (.builtin "object.__eq__")))
    (ob : PySem.W.subIn K (.ref C) (.type "object") = some true)
    (sa : PySem.W.findIn K (.ref C) "__setattr__" = some (some (.builtin "object.__setattr__")))
    (nb : PySem.W.findIn K (.ref C) "name" = some none)
    (iC : PySem.W.findIn K (.ref C) "__init__" = some (some (.ref g)))
    (tf : PySem.W.typeIn K (.ref g) = some (.type "function"))
    (lf : K.lookup g = some ⟨oc, od, .func (PySem.W.fnOf "__init__" qn (PySem.EkName.iA p1 p2) (PySem.EkName.iB q1 q2 q3 q4) PySem.EkName.iS .none .none dc pm an cd ct), sl⟩)
    (cf : PySem.W.codeIn K cd qn = true)
    : MF K mg x C "name" bm := by
  have sC : PySem.W.subIn K (.ref C) (.ref C) = some true := by rw [sub_of xL]; simp
  have low : PySem.EkName.LowTxt K mg x qn C g := { gC := PySem.W.mg_of X G aC, cls := ⟨nm, q, N, bs, bm, sn, sub, ab, col, dd, m0, m1, m2, m3, m5, xL, vb⟩, sa := sa, ga := ga, gg := gg, noN := nb, iC := iC, tC := tf, kC := kC, exC := eC, tyC := tC, hdC := hC, te := exm_selfG eC jC tC sC, fn := ⟨_, _, _, _, _, _, _, _, _, _, _, _, _, _, lf, cf⟩ }
  exact ⟨⟨⟨ga, gg, eC, hC, ha, hn, ht, hm⟩, ⟨eq, ob⟩, jC, tC, sub_of xL⟩, PySem.EkName.mks low, ⟨ga, gg, eC, hC⟩, nb⟩
theorem mf_value1 {K : PySem.W.Frag} {mg : Str → Option Value} {h : Heap} {x : Str} {qn : String} {C N : Addr} {nm q : Str} {bs bm : List Value} {sn : List Str} {sub : List Value} {ab : Bool} {col : Option Bool} {dd : Option Addr} {m0 m1 m2 m3 m5 : Option Value} {g : Addr} {oc dc pm cd ct : Value} {od an : Option Addr} {sl : Array (Option Value)} {p1 p2 q1 q2 q3 q4 : Pos} (X : K.In h) (G : h.Ns mainGlobals mg)
    (aC : PySem.W.nsIn K mainGlobals x = some (some (.ref C)))
    (xL : K.lookup C = some (excClassObj nm q C N bs bm true sn sub ab col dd m0 m1 m2 m3 m5 "LookupError.__new__"))
    (vb : PySem.Xk.ovB bm = true)
    (ga : PySem.W.findIn K (.ref C) "__getattribute__" = some (some (.builtin "BaseException.__getattribute__")))
    (gg : PySem.W.findIn K (.ref C) "__getattr__" = some none)
    (kC : PySem.W.keepIn K (.ref C) = true)
    (eC : PySem.W.subIn K (.ref C) (.type "BaseException") = some true)
    (tC : PySem.W.typeIn K (.ref C) = some (.type "type"))
    (hC : PySem.W.hasDictIn K C = true)
    (jC : PySem.W.isClsIn K C = true)
    (ha : PySem.W.findIn K (.ref C) "__class__" = some (some (.builtin "object.__class__")))
    (hn : PySem.W.specialIn K (.builtin "object.__class__") "__get__" = some (some (.builtin "getset_descriptor.__get__")))
    (ht : PySem.W.takesIn K (.builtin "object.__class__") = some true)
    (hm : PySem.W.mroIn K C (.type "object") = some true)
    (eq : PySem.W.findIn K (.ref C) "__eq__" = some (some (.builtin "object.__eq__")))
    (ob : PySem.W.subIn K (.ref C) (.type "object") = some true)
    (sa : PySem.W.findIn K (.ref C) "__setattr__" = some (some (.builtin "object.__setattr__")))
    (nb : PySem.W.findIn K (.ref C) "value" = some none)
    (iC : PySem.W.findIn K (.ref C) "__init__" = some (some (.ref g)))
    (tf : PySem.W.typeIn K (.ref g) = some (.type "function"))
    (lf : K.lookup g = some ⟨oc, od, .func (PySem.W.fnOf "__init__" qn (PySem.EkValue.iA p1 p2) (PySem.EkValue.iB q1 q2 q3 q4) PySem.EkValue.iS .none .none dc pm an cd ct), sl⟩)
    (cf : PySem.W.codeIn K cd qn = true)
    : MF K mg x C "value" bm := by
  have sC : PySem.W.subIn K (.ref C) (.ref C) = some true := by rw [sub_of xL]; simp
  have low : PySem.EkValue.LowTxt K mg x qn C g := { gC := PySem.W.mg_of X G aC, cls := ⟨nm, q, N, bs, bm, sn, sub, ab, col, dd, m0, m1, m2, m3, m5, xL, vb⟩, sa := sa, ga := ga, gg := gg, noN := nb, iC := iC, tC := tf, kC := kC, exC := eC, tyC := tC, hdC := hC, te := exm_selfG eC jC tC sC, fn := ⟨_, _, _, _, _, _, _, _, _, _, _, _, _, _, lf, cf⟩ }
  exact ⟨⟨⟨ga, gg, eC, hC, ha, hn, ht, hm⟩, ⟨eq, ob⟩, jC, tC, sub_of xL⟩, PySem.EkValue.mks low, ⟨ga, gg, eC, hC⟩, nb⟩
theorem m0_0 {K : PySem.W.Frag} {mg : Str → Option Value} {h : Heap} {x : Str} {C N : Addr} {nm q : Str} {bs bm : List Value} {sn : List Str} {sub : List Value} {ab : Bool} {col : Option Bool} {dd : Option Addr} {m0 m1 m2 m3 m5 : Option Value} (X : K.In h) (G : h.Ns mainGlobals mg)
    (aC : PySem.W.nsIn K mainGlobals x = some (some (.ref C)))
    (xL : K.lookup C = some (excClassObj nm q C N bs bm true sn sub ab col dd m0 m1 m2 m3 m5 "ValueError.__new__"))
    (vb : PySem.HandSPX.refsVE bm = true)
    (ga : PySem.W.findIn K (.ref C) "__getattribute__" = some (some (.builtin "BaseException.__getattribute__")))
    (gg : PySem.W.findIn K (.ref C) "__getattr__" = some none)
    (kC : PySem.W.keepIn K (.ref C) = true)
    (eC : PySem.W.subIn K (.ref C) (.type "BaseException") = some true)
    (tC : PySem.W.typeIn K (.ref C) = some (.type "type"))
    (hC : PySem.W.hasDictIn K C = true)
    (jC : PySem.W.isClsIn K C = true)
    (ha : PySem.W.findIn K (.ref C) "__class__" = some (some (.builtin "object.__class__")))
    (hn : PySem.W.specialIn K (.builtin "object.__class__") "__get__" = some (some (.builtin "getset_descriptor.__get__")))
    (ht : PySem.W.takesIn K (.builtin "object.__class__") = some true)
    (hm : PySem.W.mroIn K C (.type "object") = some true)
    (eq : PySem.W.findIn K (.ref C) "__eq__" = some (some (.builtin "object.__eq__")))
    (ob : PySem.W.subIn K (.ref C) (.type "object") = some true)
    (iC : PySem.W.findIn K (.ref C) "__init__" = some (some (.builtin "ValueError.__init__")))
    : M0 K mg x C bm := by
  have o := PySem.Xe.og_ve vb
  have S : PySem.Xe.Bare K C "ValueError" "ValueError.__new__" "ValueError" "ValueError.__init__" := ⟨⟨_, _, _, _, _, _, _, _, _, _, _, _, _, _, _, _, xL, o, o.le⟩, iC⟩
  exact ⟨⟨⟨ga, gg, eC, hC, ha, hn, ht, hm⟩, ⟨eq, ob⟩, jC, tC, sub_of xL⟩, PySem.W.mg_of X G aC, kC, fun X wz q => PySem.Xe.made_bare F.excBase_ValueError PySem.Xe.in_ve S X wz q⟩
theorem m0_1 {K : PySem.W.Frag} {mg : Str → Option Value} {h : Heap} {x : Str} {C N : Addr} {nm q : Str} {bs bm : List Value} {sn : List Str} {sub : List Value} {ab : Bool} {col : Option Bool} {dd : Option Addr} {m0 m1 m2 m3 m5 : Option Value} (X : K.In h) (G : h.Ns mainGlobals mg)
    (aC : PySem.W.nsIn K mainGlobals x = some (some (.ref C)))
    (xL : K.lookup C = some (excClassObj nm q C N bs bm true sn sub ab col dd m0 m1 m2 m3 m5 "LookupError.__new__"))
    (vb : PySem.Xk.ovB bm = true)
    (ga : PySem.W.findIn K (.ref C) "__getattribute__" = some (some (.builtin "BaseException.__getattribute__")))
    (gg : PySem.W.findIn K (.ref C) "__getattr__" = some none)
    (kC : PySem.W.keepIn K (.ref C) = true)
    (eC : PySem.W.subIn K (.ref C) (.type "BaseException") = some true)
    (tC : PySem.W.typeIn K (.ref C) = some (.type "type"))
    (hC : PySem.W.hasDictIn K C = true)
    (jC : PySem.W.isClsIn K C = true)
    (ha : PySem.W.findIn K (.ref C) "__class__" = some (some (.builtin "object.__class__")))
    (hn : PySem.W.specialIn K (.builtin "object.__class__") "__get__" = some (some (.builtin "getset_descriptor.__get__")))
    (ht : PySem.W.takesIn K (.builtin "object.__class__") = some true)
    (hm : PySem.W.mroIn K C (.type "object") = some true)
    (eq : PySem.W.findIn K (.ref C) "__eq__" = some (some (.builtin "object.__eq__")))
    (ob : PySem.W.subIn K (.ref C) (.type "object") = some true)
    (iC : PySem.W.findIn K (.ref C) "__init__" = some (some (.builtin "LookupError.__init__")))
    : M0 K mg x C bm := by
  have o := PySem.Xe.og_le vb
  have S : PySem.Xe.Bare K C "LookupError" "LookupError.__new__" "LookupError" "LookupError.__init__" := ⟨⟨_, _, _, _, _, _, _, _, _, _, _, _, _, _, _, _, xL, o, o.le⟩, iC⟩
  exact ⟨⟨⟨ga, gg, eC, hC, ha, hn, ht, hm⟩, ⟨eq, ob⟩, jC, tC, sub_of xL⟩, PySem.W.mg_of X G aC, kC, fun X wz q => PySem.Xe.made_bare F.excBase_LookupError PySem.Xe.in_le S X wz q⟩
theorem m0_2 {K : PySem.W.Frag} {mg : Str → Option Value} {h : Heap} {x : Str} {C N : Addr} {nm q : Str} {bs bm : List Value} {sn : List Str} {sub : List Value} {ab : Bool} {col : Option Bool} {dd : Option Addr} {m0 m1 m2 m3 m5 : Option Value} (X : K.In h) (G : h.Ns mainGlobals mg)
    (aC : PySem.W.nsIn K mainGlobals x = some (some (.ref C)))
    (xL : K.lookup C = some (excClassObj nm q C N bs bm true sn sub ab col dd m0 m1 m2 m3 m5 "LookupError.__new__"))
    (vb : PySem.Xk.ovB bm = true)
    (ga : PySem.W.findIn K (.ref C) "__getattribute__" = some (some (.builtin "BaseException.__getattribute__")))
    (gg : PySem.W.findIn K (.ref C) "__getattr__" = some none)
    (kC : PySem.W.keepIn K (.ref C) = true)
    (eC : PySem.W.subIn K (.ref C) (.type "BaseException") = some true)
    (tC : PySem.W.typeIn K (.ref C) = some (.type "type"))
    (hC : PySem.W.hasDictIn K C = true)
    (jC : PySem.W.isClsIn K C = true)
    (ha : PySem.W.findIn K (.ref C) "__class__" = some (some (.builtin "object.__class__")))
    (hn : PySem.W.specialIn K (.builtin "object.__class__") "__get__" = some (some (.builtin "getset_descriptor.__get__")))
    (ht : PySem.W.takesIn K (.builtin "object.__class__") = some true)
    (hm : PySem.W.mroIn K C (.type "object") = some true)
    (eq : PySem.W.findIn K (.ref C) "__eq__" = some (some (.builtin "object.__eq__")))
    (ob : PySem.W.subIn K (.ref C) (.type "object") = some true)
    (vk : bm.contains (.type "KeyError") = true)
    (iC : PySem.W.findIn K (.ref C) "__init__" = some (some (.builtin "KeyError.__init__")))
    : M0 K mg x C bm := by
  have o := PySem.Xe.og_le vb
  have S : PySem.Xe.Bare K C "LookupError" "LookupError.__new__" "KeyError" "KeyError.__init__" := ⟨⟨_, _, _, _, _, _, _, _, _, _, _, _, _, _, _, _, xL, o, vk⟩, iC⟩
  exact ⟨⟨⟨ga, gg, eC, hC, ha, hn, ht, hm⟩, ⟨eq, ob⟩, jC, tC, sub_of xL⟩, PySem.W.mg_of X G aC, kC, fun X wz q => PySem.Xe.made_bare F.excBase_LookupError in_ke S X wz q⟩
theorem all_mk {P : Program} {w : World} {K : PySem.W.Frag} {h : Heap} {mg : Str → Option Value} {fa : Addr} (X : K.In h) (G : h.Ns mainGlobals mg) (hfa : mg "law" = some (.ref fa))
    {f0 : Addr} {od0 an0 : Option Addr} {sl0 : Array (Option Value)} {oc0 kV0 dc0 pm0 cd0 ct0 : Value}
    {f1 : Addr} {od1 an1 : Option Addr} {sl1 : Array (Option Value)} {oc1 kV1 dc1 pm1 cd1 ct1 : Value}
    {f2 : Addr} {od2 an2 : Option Addr} {sl2 : Array (Option Value)} {oc2 kV2 dc2 pm2 cd2 ct2 : Value}
    {f3 : Addr} {od3 an3 : Option Addr} {sl3 : Array (Option Value)} {oc3 kV3 dc3 pm3 cd3 ct3 : Value}
    {f4 : Addr} {od4 an4 : Option Addr} {sl4 : Array (Option Value)} {oc4 kV4 dc4 pm4 cd4 ct4 : Value}
    {f5 : Addr} {od5 an5 : Option Addr} {sl5 : Array (Option Value)} {oc5 kV5 dc5 pm5 cd5 ct5 : Value}
    {f6 : Addr} {od6 an6 : Option Addr} {sl6 : Array (Option Value)} {oc6 kV6 dc6 pm6 cd6 ct6 : Value}
    {f7 : Addr} {od7 an7 : Option Addr} {sl7 : Array (Option Value)} {oc7 kV7 dc7 pm7 cd7 ct7 : Value}
    {f8 : Addr} {od8 an8 : Option Addr} {sl8 : Array (Option Value)} {oc8 kV8 dc8 pm8 cd8 ct8 : Value}
    {f9 : Addr} {od9 an9 : Option Addr} {sl9 : Array (Option Value)} {oc9 kV9 dc9 pm9 cd9 ct9 : Value}
    {f10 : Addr} {od10 an10 : Option Addr} {sl10 : Array (Option Value)} {oc10 kV10 dc10 pm10 cd10 ct10 : Value}
    {f11 : Addr} {od11 an11 : Option Addr} {sl11 : Array (Option Value)} {oc11 kV11 dc11 pm11 cd11 ct11 : Value}
    {f12 : Addr} {od12 an12 : Option Addr} {sl12 : Array (Option Value)} {oc12 kV12 dc12 pm12 cd12 ct12 : Value}
    {f13 : Addr} {od13 an13 : Option Addr} {sl13 : Array (Option Value)} {oc13 kV13 dc13 pm13 cd13 ct13 : Value}
    {f14 : Addr} {od14 an14 : Option Addr} {sl14 : Array (Option Value)} {oc14 kV14 dc14 pm14 cd14 ct14 : Value}
    {f15 : Addr} {od15 an15 : Option Addr} {sl15 : Array (Option Value)} {oc15 kV15 dc15 pm15 cd15 ct15 : Value}
    {C0 : Addr} {bm0 : List Value}
    {C1 : Addr} {bm1 : List Value}
    {C2 : Addr} {bm2 : List Value}
    {C3 : Addr} {bm3 : List Value}
    {C4 : Addr} {bm4 : List Value}
    {C5 : Addr} {bm5 : List Value}
    {C6 : Addr} {bm6 : List Value}
    {C7 : Addr} {bm7 : List Value}
    {C8 : Addr} {bm8 : List Value}
    {C9 : Addr} {bm9 : List Value}
    {C10 : Addr} {bm10 : List Value}
    {C11 : Addr} {bm11 : List Value}
    {C12 : Addr} {bm12 : List Value}
    {C13 : Addr} {bm13 : List Value}
    {C14 : Addr} {bm14 : List Value}
    {C15 : Addr} {bm15 : List Value}
    {C16 : Addr} {bm16 : List Value}
    {C17 : Addr} {bm17 : List Value}
    {C18 : Addr} {bm18 : List Value}
    {C19 : Addr} {bm19 : List Value}
    {C20 : Addr} {bm20 : List Value}
    {C21 : Addr} {bm21 : List Value}
    {C22 : Addr} {bm22 : List Value}
    {C23 : Addr} {bm23 : List Value}
    {C24 : Addr} {bm24 : List Value}
    {C25 : Addr} {bm25 : List Value}
    {C26 : Addr} {bm26 : List Value}
    {C27 : Addr} {bm27 : List Value}
    {C28 : Addr} {bm28 : List Value}
    {C29 : Addr} {bm29 : List Value}
    {C30 : Addr} {bm30 : List Value}
    {C31 : Addr} {bm31 : List Value}
    {C32 : Addr} {bm32 : List Value}
    {C33 : Addr} {bm33 : List Value}
    {C34 : Addr} {bm34 : List Value}
    {C35 : Addr} {bm35 : List Value}
    {C36 : Addr} {bm36 : List Value}
    {C37 : Addr} {bm37 : List Value}
    {C38 : Addr} {bm38 : List Value}
    {C39 : Addr} {bm39 : List Value}
    {C40 : Addr} {bm40 : List Value}
    {C41 : Addr} {bm41 : List Value}
    (a0 : PySem.W.nsIn K mainGlobals "_law_cell" = some (some (.ref f0)))
    (l0 : K.lookup f0 = some ⟨oc0, od0, .func (PySem.W.fnOf "_law_cell" "_law_cell" (defArgs s_law_cell) (defBody s_law_cell) (defScope s_law_cell) .none kV0 dc0 pm0 an0 cd0 ct0), sl0⟩)
    (c0 : PySem.W.codeIn K cd0 "_law_cell" = true)
    (k0 : PySem.W.keepIn K (.ref f0) = true)
    (a1 : PySem.W.nsIn K mainGlobals "_law_box" = some (some (.ref f1)))
    (l1 : K.lookup f1 = some ⟨oc1, od1, .func (PySem.W.fnOf "_law_box" "_law_box" (defArgs s_law_box) (defBody s_law_box) (defScope s_law_box) .none kV1 dc1 pm1 an1 cd1 ct1), sl1⟩)
    (c1 : PySem.W.codeIn K cd1 "_law_box" = true)
    (k1 : PySem.W.keepIn K (.ref f1) = true)
    (a2 : PySem.W.nsIn K mainGlobals "_law_take" = some (some (.ref f2)))
    (l2 : K.lookup f2 = some ⟨oc2, od2, .func (PySem.W.fnOf "_law_take" "_law_take" (defArgs s_law_take) (defBody s_law_take) (defScope s_law_take) .none kV2 dc2 pm2 an2 cd2 ct2), sl2⟩)
    (c2 : PySem.W.codeIn K cd2 "_law_take" = true)
    (k2 : PySem.W.keepIn K (.ref f2) = true)
    (a3 : PySem.W.nsIn K mainGlobals "_law_value" = some (some (.ref f3)))
    (l3 : K.lookup f3 = some ⟨oc3, od3, .func (PySem.W.fnOf "_law_value" "_law_value" (defArgs s_law_value) (defBody s_law_value) (defScope s_law_value) .none kV3 dc3 pm3 an3 cd3 ct3), sl3⟩)
    (c3 : PySem.W.codeIn K cd3 "_law_value" = true)
    (k3 : PySem.W.keepIn K (.ref f3) = true)
    (a4 : PySem.W.nsIn K mainGlobals "_law_grown" = some (some (.ref f4)))
    (l4 : K.lookup f4 = some ⟨oc4, od4, .func (PySem.W.fnOf "_law_grown" "_law_grown" (defArgs s_law_grown) (defBody s_law_grown) (defScope s_law_grown) .none kV4 dc4 pm4 an4 cd4 ct4), sl4⟩)
    (c4 : PySem.W.codeIn K cd4 "_law_grown" = true)
    (k4 : PySem.W.keepIn K (.ref f4) = true)
    (a5 : PySem.W.nsIn K mainGlobals "_law_first" = some (some (.ref f5)))
    (l5 : K.lookup f5 = some ⟨oc5, od5, .func (PySem.W.fnOf "_law_first" "_law_first" (defArgs s_law_first) (defBody s_law_first) (defScope s_law_first) .none kV5 dc5 pm5 an5 cd5 ct5), sl5⟩)
    (c5 : PySem.W.codeIn K cd5 "_law_first" = true)
    (k5 : PySem.W.keepIn K (.ref f5) = true)
    (a6 : PySem.W.nsIn K mainGlobals "_law_second" = some (some (.ref f6)))
    (l6 : K.lookup f6 = some ⟨oc6, od6, .func (PySem.W.fnOf "_law_second" "_law_second" (defArgs s_law_second) (defBody s_law_second) (defScope s_law_second) .none kV6 dc6 pm6 an6 cd6 ct6), sl6⟩)
    (c6 : PySem.W.codeIn K cd6 "_law_second" = true)
    (k6 : PySem.W.keepIn K (.ref f6) = true)
    (a7 : PySem.W.nsIn K mainGlobals "_law_third" = some (some (.ref f7)))
    (l7 : K.lookup f7 = some ⟨oc7, od7, .func (PySem.W.fnOf "_law_third" "_law_third" (defArgs s_law_third) (defBody s_law_third) (defScope s_law_third) .none kV7 dc7 pm7 an7 cd7 ct7), sl7⟩)
    (c7 : PySem.W.codeIn K cd7 "_law_third" = true)
    (k7 : PySem.W.keepIn K (.ref f7) = true)
    (a8 : PySem.W.nsIn K mainGlobals "_law_fourth" = some (some (.ref f8)))
    (l8 : K.lookup f8 = some ⟨oc8, od8, .func (PySem.W.fnOf "_law_fourth" "_law_fourth" (defArgs s_law_fourth) (defBody s_law_fourth) (defScope s_law_fourth) .none kV8 dc8 pm8 an8 cd8 ct8), sl8⟩)
    (c8 : PySem.W.codeIn K cd8 "_law_fourth" = true)
    (k8 : PySem.W.keepIn K (.ref f8) = true)
    (a9 : PySem.W.nsIn K mainGlobals "_law_made" = some (some (.ref f9)))
    (l9 : K.lookup f9 = some ⟨oc9, od9, .func (PySem.W.fnOf "_law_made" "_law_made" (defArgs s_law_made) (defBody s_law_made) (defScope s_law_made) .none kV9 dc9 pm9 an9 cd9 ct9), sl9⟩)
    (c9 : PySem.W.codeIn K cd9 "_law_made" = true)
    (k9 : PySem.W.keepIn K (.ref f9) = true)
    (a10 : PySem.W.nsIn K mainGlobals "_law_classes" = some (some (.ref f10)))
    (l10 : K.lookup f10 = some ⟨oc10, od10, .func (PySem.W.fnOf "_law_classes" "_law_classes" (defArgs s_law_classes) (defBody s_law_classes) (defScope s_law_classes) .none kV10 dc10 pm10 an10 cd10 ct10), sl10⟩)
    (c10 : PySem.W.codeIn K cd10 "_law_classes" = true)
    (k10 : PySem.W.keepIn K (.ref f10) = true)
    (a11 : PySem.W.nsIn K mainGlobals "_law_bases" = some (some (.ref f11)))
    (l11 : K.lookup f11 = some ⟨oc11, od11, .func (PySem.W.fnOf "_law_bases" "_law_bases" (defArgs s_law_bases) (defBody s_law_bases) (defScope s_law_bases) .none kV11 dc11 pm11 an11 cd11 ct11), sl11⟩)
    (c11 : PySem.W.codeIn K cd11 "_law_bases" = true)
    (k11 : PySem.W.keepIn K (.ref f11) = true)
    (a12 : PySem.W.nsIn K mainGlobals "_law_fields" = some (some (.ref f12)))
    (l12 : K.lookup f12 = some ⟨oc12, od12, .func (PySem.W.fnOf "_law_fields" "_law_fields" (defArgs s_law_fields) (defBody s_law_fields) (defScope s_law_fields) .none kV12 dc12 pm12 an12 cd12 ct12), sl12⟩)
    (c12 : PySem.W.codeIn K cd12 "_law_fields" = true)
    (k12 : PySem.W.keepIn K (.ref f12) = true)
    (a13 : PySem.W.nsIn K mainGlobals "_law_right" = some (some (.ref f13)))
    (l13 : K.lookup f13 = some ⟨oc13, od13, .func (PySem.W.fnOf "_law_right" "_law_right" (defArgs s_law_right) (defBody s_law_right) (defScope s_law_right) .none kV13 dc13 pm13 an13 cd13 ct13), sl13⟩)
    (c13 : PySem.W.codeIn K cd13 "_law_right" = true)
    (k13 : PySem.W.keepIn K (.ref f13) = true)
    (a14 : PySem.W.nsIn K mainGlobals "_law_bases_right" = some (some (.ref f14)))
    (l14 : K.lookup f14 = some ⟨oc14, od14, .func (PySem.W.fnOf "_law_bases_right" "_law_bases_right" (defArgs s_law_bases_right) (defBody s_law_bases_right) (defScope s_law_bases_right) .none kV14 dc14 pm14 an14 cd14 ct14), sl14⟩)
    (c14 : PySem.W.codeIn K cd14 "_law_bases_right" = true)
    (k14 : PySem.W.keepIn K (.ref f14) = true)
    (a15 : PySem.W.nsIn K mainGlobals "law" = some (some (.ref f15)))
    (l15 : K.lookup f15 = some ⟨oc15, od15, .func (PySem.W.fnOf "law" "law" (defArgs slaw) (defBody slaw) (defScope slaw) .none kV15 dc15 pm15 an15 cd15 ct15), sl15⟩)
    (c15 : PySem.W.codeIn K cd15 "law" = true)
    (k15 : PySem.W.keepIn K (.ref f15) = true)
    (x0 : MF K mg "InvalidInteger" C0 "value" bm0)
    (x1 : MF K mg "InvalidName" C1 "value" bm1)
    (x2 : MF K mg "InvalidText" C2 "value" bm2)
    (x3 : MF K mg "InvalidLetter" C3 "value" bm3)
    (x4 : MF K mg "InvalidLine" C4 "value" bm4)
    (x5 : MF K mg "InvalidList" C5 "value" bm5)
    (x6 : MF K mg "InvalidTree" C6 "value" bm6)
    (x7 : MF K mg "InvalidTable" C7 "value" bm7)
    (x8 : MF K mg "InvalidFormat" C8 "value" bm8)
    (x9 : MF K mg "InvalidAlphabet" C9 "value" bm9)
    (x10 : MF K mg "InvalidPrice" C10 "value" bm10)
    (x11 : MF K mg "InvalidPrices" C11 "value" bm11)
    (x12 : MF K mg "InvalidSymbol" C12 "value" bm12)
    (x13 : MF K mg "InvalidScript" C13 "value" bm13)
    (x14 : MF K mg "InvalidMatrix" C14 "value" bm14)
    (x15 : MF K mg "NotStable" C15 "value" bm15)
    (x16 : MF K mg "InvalidPattern" C16 "value" bm16)
    (x17 : MF K mg "InvalidMember" C17 "value" bm17)
    (x18 : MF K mg "InvalidComparison" C18 "value" bm18)
    (x19 : MF K mg "InvalidOnePass" C19 "value" bm19)
    (x20 : MF K mg "InvalidCommand" C20 "value" bm20)
    (x21 : MF K mg "InvalidExpression" C21 "index" bm21)
    (x22 : MF K mg "InvalidRow" C22 "index" bm22)
    (x23 : MF K mg "TooMany" C23 "count" bm23)
    (x24 : MF K mg "DuplicateName" C24 "name" bm24)
    (x25 : MF K mg "Circular" C25 "circle" bm25)
    (x26 : M0 K mg "EmptyFormat" C26 bm26)
    (x27 : MF K mg "UnknownName" C27 "name" bm27)
    (x28 : MF K mg "UnknownLetter" C28 "letter" bm28)
    (x29 : MF K mg "MissingText" C29 "number" bm29)
    (x30 : MF K mg "NotIncluded" C30 "value" bm30)
    (x31 : MF K mg "NotPossible" C31 "number" bm31)
    (x32 : MF K mg "NotContinuing" C32 "letter" bm32)
    (x33 : MF K mg "StillUsed" C33 "name" bm33)
    (x34 : M0 K mg "NoScript" C34 bm34)
    (x35 : M0 K mg "Finished" C35 bm35)
    (x36 : M0 K mg "NothingToUndo" C36 bm36)
    (x37 : M0 K mg "DraftOpen" C37 bm37)
    (x38 : M0 K mg "NotOpen" C38 bm38)
    (x39 : M0 K mg "FormatError" C39 bm39)
    (x40 : M0 K mg "MissingError" C40 bm40)
    (x41 : M0 K mg "StateError" C41 bm41)
    (tab : tabOk (fun n : Nat => ([C0, C1, C2, C3, C4, C5, C6, C7, C8, C9, C10, C11, C12, C13, C14, C15, C16, C17, C18, C19, C20, C21, C22, C23, C24, C25, C26, C27, C28, C29, C30, C31, C32, C33, C34, C35, C36, C37, C38, C39, C40, C41] : List Addr).getD n 0) (fun n : Nat => ([bm0, bm1, bm2, bm3, bm4, bm5, bm6, bm7, bm8, bm9, bm10, bm11, bm12, bm13, bm14, bm15, bm16, bm17, bm18, bm19, bm20, bm21, bm22, bm23, bm24, bm25, bm26, bm27, bm28, bm29, bm30, bm31, bm32, bm33, bm34, bm35, bm36, bm37, bm38, bm39, bm40, bm41] : List (List Value)).getD n []) = true)
    (z_isinstance : PySem.W.nsIn K mainGlobals "isinstance" = some none)
    (z_list : PySem.W.nsIn K mainGlobals "list" = some none)
    (z_tuple : PySem.W.nsIn K mainGlobals "tuple" = some none)
    (z_dict : PySem.W.nsIn K mainGlobals "dict" = some none)
    (z_len : PySem.W.nsIn K mainGlobals "len" = some none)
    (z_max : PySem.W.nsIn K mainGlobals "max" = some none)
    (z_min : PySem.W.nsIn K mainGlobals "min" = some none)
    (z_range : PySem.W.nsIn K mainGlobals "range" = some none)
    (z_repr : PySem.W.nsIn K mainGlobals "repr" = some none)
    (z_ValueError : PySem.W.nsIn K mainGlobals "ValueError" = some none)
    (z_KeyError : PySem.W.nsIn K mainGlobals "KeyError" = some none)
    (z_LookupError : PySem.W.nsIn K mainGlobals "LookupError" = some none)
    (z_IndexError : PySem.W.nsIn K mainGlobals "IndexError" = some none)
    (z_int : PySem.W.nsIn K mainGlobals "int" = some none)
    (z_str : PySem.W.nsIn K mainGlobals "str" = some none)
    (z_bool : PySem.W.nsIn K mainGlobals "bool" = some none)
    : ∃ fd : FuncData, (∀ (s : Shared) (u : Value), BindsTo s fd ⟨[u], []⟩ [("_law_script", u)]) ∧ ∀ base : Heap, K.In base → base.Ns mainGlobals mg → SysIn base → FnG P w K mg base CX0 5 fa fd ["_law_script"] (spLaw K) := by
  have e := hfa.symm.trans (PySem.W.mg_of X G a15)
  cases e
  have F0 := fun_mk (st := s_law_cell) l0 c0 k0
  have m0 := PySem.W.mg_of X G a0
  have b0 := F0.binds (ps := ["_law_script", "_law_k"]) fun _ _ _ _ _ _ us hl => match us, hl with | [_, _], _ => rfl
  have F1 := fun_mk (st := s_law_box) l1 c1 k1
  have m1 := PySem.W.mg_of X G a1
  have b1 := F1.binds (ps := ["_law_cell_here"]) fun _ _ _ _ _ _ us hl => match us, hl with | [_], _ => rfl
  have F2 := fun_mk (st := s_law_take) l2 c2 k2
  have m2 := PySem.W.mg_of X G a2
  have b2 := F2.binds (ps := ["_law_box_here", "_law_size"]) fun _ _ _ _ _ _ us hl => match us, hl with | [_, _], _ => rfl
  have F3 := fun_mk (st := s_law_value) l3 c3 k3
  have m3 := PySem.W.mg_of X G a3
  have b3 := F3.binds (ps := ["_law_box_here"]) fun _ _ _ _ _ _ us hl => match us, hl with | [_], _ => rfl
  have F4 := fun_mk (st := s_law_grown) l4 c4 k4
  have m4 := PySem.W.mg_of X G a4
  have b4 := F4.binds (ps := ["_law_thing"]) fun _ _ _ _ _ _ us hl => match us, hl with | [_], _ => rfl
  have F5 := fun_mk (st := s_law_first) l5 c5 k5
  have m5 := PySem.W.mg_of X G a5
  have b5 := F5.binds (ps := ["_law_way", "_law_one", "_law_named"]) fun _ _ _ _ _ _ us hl => match us, hl with | [_, _, _], _ => rfl
  have F6 := fun_mk (st := s_law_second) l6 c6 k6
  have m6 := PySem.W.mg_of X G a6
  have b6 := F6.binds (ps := ["_law_way", "_law_one", "_law_named"]) fun _ _ _ _ _ _ us hl => match us, hl with | [_, _, _], _ => rfl
  have F7 := fun_mk (st := s_law_third) l7 c7 k7
  have m7 := PySem.W.mg_of X G a7
  have b7 := F7.binds (ps := ["_law_way", "_law_one", "_law_named"]) fun _ _ _ _ _ _ us hl => match us, hl with | [_, _, _], _ => rfl
  have F8 := fun_mk (st := s_law_fourth) l8 c8 k8
  have m8 := PySem.W.mg_of X G a8
  have b8 := F8.binds (ps := ["_law_way", "_law_one", "_law_named"]) fun _ _ _ _ _ _ us hl => match us, hl with | [_, _, _], _ => rfl
  have F9 := fun_mk (st := s_law_made) l9 c9 k9
  have m9 := PySem.W.mg_of X G a9
  have b9 := F9.binds (ps := ["_law_way", "_law_one", "_law_named"]) fun _ _ _ _ _ _ us hl => match us, hl with | [_, _, _], _ => rfl
  have F10 := fun_mk (st := s_law_classes) l10 c10 k10
  have m10 := PySem.W.mg_of X G a10
  have b10 := F10.binds (ps := ["_law_e"]) fun _ _ _ _ _ _ us hl => match us, hl with | [_], _ => rfl
  have F11 := fun_mk (st := s_law_bases) l11 c11 k11
  have m11 := PySem.W.mg_of X G a11
  have b11 := F11.binds (ps := ["_law_e"]) fun _ _ _ _ _ _ us hl => match us, hl with | [_], _ => rfl
  have F12 := fun_mk (st := s_law_fields) l12 c12 k12
  have m12 := PySem.W.mg_of X G a12
  have b12 := F12.binds (ps := ["_law_way", "_law_e"]) fun _ _ _ _ _ _ us hl => match us, hl with | [_, _], _ => rfl
  have F13 := fun_mk (st := s_law_right) l13 c13 k13
  have m13 := PySem.W.mg_of X G a13
  have b13 := F13.binds (ps := ["_law_way", "_law_one", "_law_named"]) fun _ _ _ _ _ _ us hl => match us, hl with | [_, _, _], _ => rfl
  have F14 := fun_mk (st := s_law_bases_right) l14 c14 k14
  have m14 := PySem.W.mg_of X G a14
  have b14 := F14.binds (ps := []) fun _ _ _ _ _ _ us hl => match us, hl with | [], _ => rfl
  have F15 := fun_mk (st := slaw) l15 c15 k15
  have m15 := PySem.W.mg_of X G a15
  have b15 := F15.binds (ps := ["_law_script"]) fun _ _ _ _ _ _ us hl => match us, hl with | [_], _ => rfl
  generalize hcs : (fun n : Nat => ([C0, C1, C2, C3, C4, C5, C6, C7, C8, C9, C10, C11, C12, C13, C14, C15, C16, C17, C18, C19, C20, C21, C22, C23, C24, C25, C26, C27, C28, C29, C30, C31, C32, C33, C34, C35, C36, C37, C38, C39, C40, C41] : List Addr).getD n 0) = cs at tab
  generalize hbs : (fun n : Nat => ([bm0, bm1, bm2, bm3, bm4, bm5, bm6, bm7, bm8, bm9, bm10, bm11, bm12, bm13, bm14, bm15, bm16, bm17, bm18, bm19, bm20, bm21, bm22, bm23, bm24, bm25, bm26, bm27, bm28, bm29, bm30, bm31, bm32, bm33, bm34, bm35, bm36, bm37, bm38, bm39, bm40, bm41] : List (List Value)).getD n []) = bms at tab
  have ec0 : cs 0 = C0 := by rw [← hcs]; rfl
  have eb0 : bms 0 = bm0 := by rw [← hbs]; rfl
  have ec1 : cs 1 = C1 := by rw [← hcs]; rfl
  have eb1 : bms 1 = bm1 := by rw [← hbs]; rfl
  have ec2 : cs 2 = C2 := by rw [← hcs]; rfl
  have eb2 : bms 2 = bm2 := by rw [← hbs]; rfl
  have ec3 : cs 3 = C3 := by rw [← hcs]; rfl
  have eb3 : bms 3 = bm3 := by rw [← hbs]; rfl
  have ec4 : cs 4 = C4 := by rw [← hcs]; rfl
  have eb4 : bms 4 = bm4 := by rw [← hbs]; rfl
  have ec5 : cs 5 = C5 := by rw [← hcs]; rfl
  have eb5 : bms 5 = bm5 := by rw [← hbs]; rfl
  have ec6 : cs 6 = C6 := by rw [← hcs]; rfl
  have eb6 : bms 6 = bm6 := by rw [← hbs]; rfl
  have ec7 : cs 7 = C7 := by rw [← hcs]; rfl
  have eb7 : bms 7 = bm7 := by rw [← hbs]; rfl
  have ec8 : cs 8 = C8 := by rw [← hcs]; rfl
  have eb8 : bms 8 = bm8 := by rw [← hbs]; rfl
  have ec9 : cs 9 = C9 := by rw [← hcs]; rfl
  have eb9 : bms 9 = bm9 := by rw [← hbs]; rfl
  have ec10 : cs 10 = C10 := by rw [← hcs]; rfl
  have eb10 : bms 10 = bm10 := by rw [← hbs]; rfl
  have ec11 : cs 11 = C11 := by rw [← hcs]; rfl
  have eb11 : bms 11 = bm11 := by rw [← hbs]; rfl
  have ec12 : cs 12 = C12 := by rw [← hcs]; rfl
  have eb12 : bms 12 = bm12 := by rw [← hbs]; rfl
  have ec13 : cs 13 = C13 := by rw [← hcs]; rfl
  have eb13 : bms 13 = bm13 := by rw [← hbs]; rfl
  have ec14 : cs 14 = C14 := by rw [← hcs]; rfl
  have eb14 : bms 14 = bm14 := by rw [← hbs]; rfl
  have ec15 : cs 15 = C15 := by rw [← hcs]; rfl
  have eb15 : bms 15 = bm15 := by rw [← hbs]; rfl
  have ec16 : cs 16 = C16 := by rw [← hcs]; rfl
  have eb16 : bms 16 = bm16 := by rw [← hbs]; rfl
  have ec17 : cs 17 = C17 := by rw [← hcs]; rfl
  have eb17 : bms 17 = bm17 := by rw [← hbs]; rfl
  have ec18 : cs 18 = C18 := by rw [← hcs]; rfl
  have eb18 : bms 18 = bm18 := by rw [← hbs]; rfl
  have ec19 : cs 19 = C19 := by rw [← hcs]; rfl
  have eb19 : bms 19 = bm19 := by rw [← hbs]; rfl
  have ec20 : cs 20 = C20 := by rw [← hcs]; rfl
  have eb20 : bms 20 = bm20 := by rw [← hbs]; rfl
  have ec21 : cs 21 = C21 := by rw [← hcs]; rfl
  have eb21 : bms 21 = bm21 := by rw [← hbs]; rfl
  have ec22 : cs 22 = C22 := by rw [← hcs]; rfl
  have eb22 : bms 22 = bm22 := by rw [← hbs]; rfl
  have ec23 : cs 23 = C23 := by rw [← hcs]; rfl
  have eb23 : bms 23 = bm23 := by rw [← hbs]; rfl
  have ec24 : cs 24 = C24 := by rw [← hcs]; rfl
  have eb24 : bms 24 = bm24 := by rw [← hbs]; rfl
  have ec25 : cs 25 = C25 := by rw [← hcs]; rfl
  have eb25 : bms 25 = bm25 := by rw [← hbs]; rfl
  have ec26 : cs 26 = C26 := by rw [← hcs]; rfl
  have eb26 : bms 26 = bm26 := by rw [← hbs]; rfl
  have ec27 : cs 27 = C27 := by rw [← hcs]; rfl
  have eb27 : bms 27 = bm27 := by rw [← hbs]; rfl
  have ec28 : cs 28 = C28 := by rw [← hcs]; rfl
  have eb28 : bms 28 = bm28 := by rw [← hbs]; rfl
  have ec29 : cs 29 = C29 := by rw [← hcs]; rfl
  have eb29 : bms 29 = bm29 := by rw [← hbs]; rfl
  have ec30 : cs 30 = C30 := by rw [← hcs]; rfl
  have eb30 : bms 30 = bm30 := by rw [← hbs]; rfl
  have ec31 : cs 31 = C31 := by rw [← hcs]; rfl
  have eb31 : bms 31 = bm31 := by rw [← hbs]; rfl
  have ec32 : cs 32 = C32 := by rw [← hcs]; rfl
  have eb32 : bms 32 = bm32 := by rw [← hbs]; rfl
  have ec33 : cs 33 = C33 := by rw [← hcs]; rfl
  have eb33 : bms 33 = bm33 := by rw [← hbs]; rfl
  have ec34 : cs 34 = C34 := by rw [← hcs]; rfl
  have eb34 : bms 34 = bm34 := by rw [← hbs]; rfl
  have ec35 : cs 35 = C35 := by rw [← hcs]; rfl
  have eb35 : bms 35 = bm35 := by rw [← hbs]; rfl
  have ec36 : cs 36 = C36 := by rw [← hcs]; rfl
  have eb36 : bms 36 = bm36 := by rw [← hbs]; rfl
  have ec37 : cs 37 = C37 := by rw [← hcs]; rfl
  have eb37 : bms 37 = bm37 := by rw [← hbs]; rfl
  have ec38 : cs 38 = C38 := by rw [← hcs]; rfl
  have eb38 : bms 38 = bm38 := by rw [← hbs]; rfl
  have ec39 : cs 39 = C39 := by rw [← hcs]; rfl
  have eb39 : bms 39 = bm39 := by rw [← hbs]; rfl
  have ec40 : cs 40 = C40 := by rw [← hcs]; rfl
  have eb40 : bms 40 = bm40 := by rw [← hbs]; rfl
  have ec41 : cs 41 = C41 := by rw [← hcs]; rfl
  have eb41 : bms 41 = bm41 := by rw [← hbs]; rfl
  have mm : ∀ i, i < 42 → MM K (cs i) (bms i) := fun i hi => match i, hi with
    | 0, _ => by rw [ec0, eb0]; exact x0.mm
    | 1, _ => by rw [ec1, eb1]; exact x1.mm
    | 2, _ => by rw [ec2, eb2]; exact x2.mm
    | 3, _ => by rw [ec3, eb3]; exact x3.mm
    | 4, _ => by rw [ec4, eb4]; exact x4.mm
    | 5, _ => by rw [ec5, eb5]; exact x5.mm
    | 6, _ => by rw [ec6, eb6]; exact x6.mm
    | 7, _ => by rw [ec7, eb7]; exact x7.mm
    | 8, _ => by rw [ec8, eb8]; exact x8.mm
    | 9, _ => by rw [ec9, eb9]; exact x9.mm
    | 10, _ => by rw [ec10, eb10]; exact x10.mm
    | 11, _ => by rw [ec11, eb11]; exact x11.mm
    | 12, _ => by rw [ec12, eb12]; exact x12.mm
    | 13, _ => by rw [ec13, eb13]; exact x13.mm
    | 14, _ => by rw [ec14, eb14]; exact x14.mm
    | 15, _ => by rw [ec15, eb15]; exact x15.mm
    | 16, _ => by rw [ec16, eb16]; exact x16.mm
    | 17, _ => by rw [ec17, eb17]; exact x17.mm
    | 18, _ => by rw [ec18, eb18]; exact x18.mm
    | 19, _ => by rw [ec19, eb19]; exact x19.mm
    | 20, _ => by rw [ec20, eb20]; exact x20.mm
    | 21, _ => by rw [ec21, eb21]; exact x21.mm
    | 22, _ => by rw [ec22, eb22]; exact x22.mm
    | 23, _ => by rw [ec23, eb23]; exact x23.mm
    | 24, _ => by rw [ec24, eb24]; exact x24.mm
    | 25, _ => by rw [ec25, eb25]; exact x25.mm
    | 26, _ => by rw [ec26, eb26]; exact x26.mm
    | 27, _ => by rw [ec27, eb27]; exact x27.mm
    | 28, _ => by rw [ec28, eb28]; exact x28.mm
    | 29, _ => by rw [ec29, eb29]; exact x29.mm
    | 30, _ => by rw [ec30, eb30]; exact x30.mm
    | 31, _ => by rw [ec31, eb31]; exact x31.mm
    | 32, _ => by rw [ec32, eb32]; exact x32.mm
    | 33, _ => by rw [ec33, eb33]; exact x33.mm
    | 34, _ => by rw [ec34, eb34]; exact x34.mm
    | 35, _ => by rw [ec35, eb35]; exact x35.mm
    | 36, _ => by rw [ec36, eb36]; exact x36.mm
    | 37, _ => by rw [ec37, eb37]; exact x37.mm
    | 38, _ => by rw [ec38, eb38]; exact x38.mm
    | 39, _ => by rw [ec39, eb39]; exact x39.mm
    | 40, _ => by rw [ec40, eb40]; exact x40.mm
    | 41, _ => by rw [ec41, eb41]; exact x41.mm
    | n + 42, hn => absurd hn (by omega)
  have xf : ∀ i f, i < 39 → fld i = some f → XfC K (cs i) ∧ PySem.W.findIn K (.ref (cs i)) f = some none := fun i f hi hf => match i, hi, hf with
    | 0, _, hf => by obtain rfl : ("value" : Str) = f := Option.some.inj hf; rw [ec0]; exact ⟨x0.xf, x0.no⟩
    | 1, _, hf => by obtain rfl : ("value" : Str) = f := Option.some.inj hf; rw [ec1]; exact ⟨x1.xf, x1.no⟩
    | 2, _, hf => by obtain rfl : ("value" : Str) = f := Option.some.inj hf; rw [ec2]; exact ⟨x2.xf, x2.no⟩
    | 3, _, hf => by obtain rfl : ("value" : Str) = f := Option.some.inj hf; rw [ec3]; exact ⟨x3.xf, x3.no⟩
    | 4, _, hf => by obtain rfl : ("value" : Str) = f := Option.some.inj hf; rw [ec4]; exact ⟨x4.xf, x4.no⟩
    | 5, _, hf => by obtain rfl : ("value" : Str) = f := Option.some.inj hf; rw [ec5]; exact ⟨x5.xf, x5.no⟩
    | 6, _, hf => by obtain rfl : ("value" : Str) = f := Option.some.inj hf; rw [ec6]; exact ⟨x6.xf, x6.no⟩
    | 7, _, hf => by obtain rfl : ("value" : Str) = f := Option.some.inj hf; rw [ec7]; exact ⟨x7.xf, x7.no⟩
    | 8, _, hf => by obtain rfl : ("value" : Str) = f := Option.some.inj hf; rw [ec8]; exact ⟨x8.xf, x8.no⟩
    | 9, _, hf => by obtain rfl : ("value" : Str) = f := Option.some.inj hf; rw [ec9]; exact ⟨x9.xf, x9.no⟩
    | 10, _, hf => by obtain rfl : ("value" : Str) = f := Option.some.inj hf; rw [ec10]; exact ⟨x10.xf, x10.no⟩
    | 11, _, hf => by obtain rfl : ("value" : Str) = f := Option.some.inj hf; rw [ec11]; exact ⟨x11.xf, x11.no⟩
    | 12, _, hf => by obtain rfl : ("value" : Str) = f := Option.some.inj hf; rw [ec12]; exact ⟨x12.xf, x12.no⟩
    | 13, _, hf => by obtain rfl : ("value" : Str) = f := Option.some.inj hf; rw [ec13]; exact ⟨x13.xf, x13.no⟩
    | 14, _, hf => by obtain rfl : ("value" : Str) = f := Option.some.inj hf; rw [ec14]; exact ⟨x14.xf, x14.no⟩
    | 15, _, hf => by obtain rfl : ("value" : Str) = f := Option.some.inj hf; rw [ec15]; exact ⟨x15.xf, x15.no⟩
    | 16, _, hf => by obtain rfl : ("value" : Str) = f := Option.some.inj hf; rw [ec16]; exact ⟨x16.xf, x16.no⟩
    | 17, _, hf => by obtain rfl : ("value" : Str) = f := Option.some.inj hf; rw [ec17]; exact ⟨x17.xf, x17.no⟩
    | 18, _, hf => by obtain rfl : ("value" : Str) = f := Option.some.inj hf; rw [ec18]; exact ⟨x18.xf, x18.no⟩
    | 19, _, hf => by obtain rfl : ("value" : Str) = f := Option.some.inj hf; rw [ec19]; exact ⟨x19.xf, x19.no⟩
    | 20, _, hf => by obtain rfl : ("value" : Str) = f := Option.some.inj hf; rw [ec20]; exact ⟨x20.xf, x20.no⟩
    | 21, _, hf => by obtain rfl : ("index" : Str) = f := Option.some.inj hf; rw [ec21]; exact ⟨x21.xf, x21.no⟩
    | 22, _, hf => by obtain rfl : ("index" : Str) = f := Option.some.inj hf; rw [ec22]; exact ⟨x22.xf, x22.no⟩
    | 23, _, hf => by obtain rfl : ("count" : Str) = f := Option.some.inj hf; rw [ec23]; exact ⟨x23.xf, x23.no⟩
    | 24, _, hf => by obtain rfl : ("name" : Str) = f := Option.some.inj hf; rw [ec24]; exact ⟨x24.xf, x24.no⟩
    | 25, _, hf => by obtain rfl : ("circle" : Str) = f := Option.some.inj hf; rw [ec25]; exact ⟨x25.xf, x25.no⟩
    | 26, _, hf => nomatch (show (none : Option Str) = some f from hf)
    | 27, _, hf => by obtain rfl : ("name" : Str) = f := Option.some.inj hf; rw [ec27]; exact ⟨x27.xf, x27.no⟩
    | 28, _, hf => by obtain rfl : ("letter" : Str) = f := Option.some.inj hf; rw [ec28]; exact ⟨x28.xf, x28.no⟩
    | 29, _, hf => by obtain rfl : ("number" : Str) = f := Option.some.inj hf; rw [ec29]; exact ⟨x29.xf, x29.no⟩
    | 30, _, hf => by obtain rfl : ("value" : Str) = f := Option.some.inj hf; rw [ec30]; exact ⟨x30.xf, x30.no⟩
    | 31, _, hf => by obtain rfl : ("number" : Str) = f := Option.some.inj hf; rw [ec31]; exact ⟨x31.xf, x31.no⟩
    | 32, _, hf => by obtain rfl : ("letter" : Str) = f := Option.some.inj hf; rw [ec32]; exact ⟨x32.xf, x32.no⟩
    | 33, _, hf => by obtain rfl : ("name" : Str) = f := Option.some.inj hf; rw [ec33]; exact ⟨x33.xf, x33.no⟩
    | 34, _, hf => nomatch (show (none : Option Str) = some f from hf)
    | 35, _, hf => nomatch (show (none : Option Str) = some f from hf)
    | 36, _, hf => nomatch (show (none : Option Str) = some f from hf)
    | 37, _, hf => nomatch (show (none : Option Str) = some f from hf)
    | 38, _, hf => nomatch (show (none : Option Str) = some f from hf)
    | n + 39, hn, _ => absurd hn (by omega)
  refine ⟨PySem.W.fnOf "law" "law" (defArgs slaw) (defBody slaw) (defScope slaw) .none kV15 dc15 pm15 an15 cd15 ct15, fun s u => .of_eq rfl, fun base _ _ hs => ?_⟩
  have T : Txt K mg base cs := { sys := hs, m_InvalidInteger := by rw [ec0]; exact x0.mks, m_InvalidName := by rw [ec1]; exact x1.mks, m_InvalidText := by rw [ec2]; exact x2.mks, m_InvalidLetter := by rw [ec3]; exact x3.mks, m_InvalidLine := by rw [ec4]; exact x4.mks, m_InvalidList := by rw [ec5]; exact x5.mks, m_InvalidTree := by rw [ec6]; exact x6.mks, m_InvalidTable := by rw [ec7]; exact x7.mks, m_InvalidFormat := by rw [ec8]; exact x8.mks, m_InvalidAlphabet := by rw [ec9]; exact x9.mks, m_InvalidPrice := by rw [ec10]; exact x10.mks, m_InvalidPrices := by rw [ec11]; exact x11.mks, m_InvalidSymbol := by rw [ec12]; exact x12.mks, m_InvalidScript := by rw [ec13]; exact x13.mks, m_InvalidMatrix := by rw [ec14]; exact x14.mks, m_NotStable := by rw [ec15]; exact x15.mks, m_InvalidPattern := by rw [ec16]; exact x16.mks, m_InvalidMember := by rw [ec17]; exact x17.mks, m_InvalidComparison := by rw [ec18]; exact x18.mks, m_InvalidOnePass := by rw [ec19]; exact x19.mks, m_InvalidCommand := by rw [ec20]; exact x20.mks, m_InvalidExpression := by rw [ec21]; exact x21.mks, m_InvalidRow := by rw [ec22]; exact x22.mks, m_TooMany := by rw [ec23]; exact x23.mks, m_DuplicateName := by rw [ec24]; exact x24.mks, m_Circular := by rw [ec25]; exact x25.mks, m_EmptyFormat := by rw [ec26]; exact x26.mk0, m_UnknownName := by rw [ec27]; exact x27.mks, m_UnknownLetter := by rw [ec28]; exact x28.mks, m_MissingText := by rw [ec29]; exact x29.mks, m_NotIncluded := by rw [ec30]; exact x30.mks, m_NotPossible := by rw [ec31]; exact x31.mks, m_NotContinuing := by rw [ec32]; exact x32.mks, m_StillUsed := by rw [ec33]; exact x33.mks, m_NoScript := by rw [ec34]; exact x34.mk0, m_Finished := by rw [ec35]; exact x35.mk0, m_NothingToUndo := by rw [ec36]; exact x36.mk0, m_DraftOpen := by rw [ec37]; exact x37.mk0, m_NotOpen := by rw [ec38]; exact x38.mk0, m_FormatError := by rw [ec39]; exact x39.mk0, m_MissingError := by rw [ec40]; exact x40.mk0, m_StateError := by rw [ec41]; exact x41.mk0, x := fun i hi => ⟨(mm i hi).exc, (mm i hi).eqc⟩, xf := xf, kit := fun i j hi hj => by rw [kit_ref (mm i hi) (mm j (by omega)), (tab_at tab hi).1 j hj], kb := fun i g hi hg => by rw [kit_ref (mm i hi) (mm (39 + g) (by omega)), (tab_at tab hi).2.1 g hg], kv := fun i hi => by rw [kit_ty (mm i hi) (by decide +kernel), (tab_at tab hi).2.2.1], kk := fun i hi => by rw [kit_ty (mm i hi) (by decide +kernel), (tab_at tab hi).2.2.2.1], kl := fun i hi => by rw [kit_ty (mm i hi) (by decide +kernel), (tab_at tab hi).2.2.2.2.1], ki := fun i hi => by rw [kit_ty (mm i hi) (by decide +kernel), (tab_at tab hi).2.2.2.2.2], z_isinstance := PySem.W.mg_none_of X G z_isinstance, z_list := PySem.W.mg_none_of X G z_list, z_tuple := PySem.W.mg_none_of X G z_tuple, z_dict := PySem.W.mg_none_of X G z_dict, z_len := PySem.W.mg_none_of X G z_len, z_max := PySem.W.mg_none_of X G z_max, z_min := PySem.W.mg_none_of X G z_min, z_range := PySem.W.mg_none_of X G z_range, z_repr := PySem.W.mg_none_of X G z_repr, z_ValueError := PySem.W.mg_none_of X G z_ValueError, z_KeyError := PySem.W.mg_none_of X G z_KeyError, z_LookupError := PySem.W.mg_none_of X G z_LookupError, z_IndexError := PySem.W.mg_none_of X G z_IndexError, z_int := PySem.W.mg_none_of X G z_int, z_str := PySem.W.mg_none_of X G z_str, z_bool := PySem.W.mg_none_of X G z_bool }
  have D0 : Df P w K mg base CX0 1 "_law_cell" _ _ ["_law_script", "_law_k"] (spScr K) := ⟨ok_cell F0 T, m0, k0, b0⟩
  have D1 : Df P w K mg base CX0 1 "_law_box" _ _ ["_law_cell_here"] spBox := ⟨ok_box F1 T, m1, k1, b1⟩
  have D2 : Df P w K mg base CX0 1 "_law_take" _ _ ["_law_box_here", "_law_size"] spTake := ⟨ok_take F2, m2, k2, b2⟩
  have D3 : Df P w K mg base CX0 2 "_law_value" _ _ ["_law_box_here"] spValue := ⟨ok_value F3 T D2, m3, k3, b3⟩
  have D4 : Df P w K mg base CX0 1 "_law_grown" _ _ ["_law_thing"] (spGrown K) := ⟨ok_grown F4 T, m4, k4, b4⟩
  have D5 : Df P w K mg base CX0 2 "_law_first" _ _ ["_law_way", "_law_one", "_law_named"] (spMk cs 0 10) := ⟨ok_first F5 T, m5, k5, b5⟩
  have D6 : Df P w K mg base CX0 2 "_law_second" _ _ ["_law_way", "_law_one", "_law_named"] (spMk cs 10 20) := ⟨ok_second F6 T, m6, k6, b6⟩
  have D7 : Df P w K mg base CX0 2 "_law_third" _ _ ["_law_way", "_law_one", "_law_named"] (spMk cs 20 30) := ⟨ok_third F7 T, m7, k7, b7⟩
  have D8 : Df P w K mg base CX0 2 "_law_fourth" _ _ ["_law_way", "_law_one", "_law_named"] (spMk cs 30 39) := ⟨ok_fourth F8 T, m8, k8, b8⟩
  have D9 : Df P w K mg base CX0 3 "_law_made" _ _ ["_law_way", "_law_one", "_law_named"] (spMk cs 0 39) := ⟨ok_made F9 T D5 D6 D7 D8, m9, k9, b9⟩
  have D10 : Df P w K mg base CX0 1 "_law_classes" _ _ ["_law_e"] (spClasses cs) := ⟨ok_classes F10 T, m10, k10, b10⟩
  have D11 : Df P w K mg base CX0 1 "_law_bases" _ _ ["_law_e"] (spBases cs) := ⟨ok_bases F11 T, m11, k11, b11⟩
  have D12 : Df P w K mg base CX0 1 "_law_fields" _ _ ["_law_way", "_law_e"] (spFields cs) := ⟨ok_fields F12 T, m12, k12, b12⟩
  have D13 : Df P w K mg base CX0 4 "_law_right" _ _ ["_law_way", "_law_one", "_law_named"] (spRight cs) := ⟨ok_right F13 T D9 D12 D4 D10 D11, m13, k13, b13⟩
  have D14 : Df P w K mg base CX0 2 "_law_bases_right" _ _ [] spBasesR := ⟨ok_bases_right F14 T D11, m14, k14, b14⟩
  exact ok_law F15 T D0 D1 D3 D13 D14
theorem walk {l : PySem.W.OpenLaw} {q : Program} {loose : List Str} {XP : (Str → Option Value) → Heap → Prop} {YP : World → Heap → Prop} {d : DefRec} {K : Params → PySem.W.Frag} (hn : l.most = some 63) (hdf : d.params.defaults = []) (himp : importsNone q = true)
    (hY : ∀ (w : World) (h : Heap), YP w h → (K w.params).In h)
    (F : ∀ (w : World) (mg : Str → Option Value) (fa : Addr) (h : Heap), (K w.params).In h → h.Ns mainGlobals mg → mg d.name = some (.ref fa) →
      ∃ fd : FuncData, (∀ (s : Shared) (u : Value), BindsTo s fd ⟨[u], []⟩ [("_law_script", u)]) ∧ ∀ base : Heap, (K w.params).In base → base.Ns mainGlobals mg → SysIn base → FnG l.prog w (K w.params) mg base CX0 5 fa fd ["_law_script"] (spLaw (K w.params))) :
    PySem.W.WalkO q loose XP YP l.row.toRowW d [] (fun f vs => PySem.call f vs) :=
  Gd.walkG (n := 63) (k := 5) (x := "_law_script") (CX := fun _ => CX0) (sp := fun w => spLaw (K w.params)) hn (by decide) hdf ⟨rfl, by decide, by decide⟩ himp hY F
    (fun _ _ a ns hl _ hS => ⟨a, ns, rfl, hS, hl, fun _ => rfl⟩) fun _ _ _ _ _ z => z
end K4

namespace Gd
open PySem PySem.Spec PyProof.Rows L2
/-- the end of a law whose written part is told by facts -/
theorem walkE {l : PySem.W.OpenLaw} {n k : Nat} {q : Program} {loose : List Str} {XP : (Str → Option Value) → Heap → Prop} {YP : World → Heap → Prop} {d : DefRec} {CX : World → CXT} {x : Str}
    (hn : l.most = some n) (hn2 : n ≤ sizeLine) (hdf : d.params.defaults = []) (hr : Room k callerA) (himp : importsNone q = true)
    (F : ∀ (w : World) (mg : Str → Option Value) (fa : Addr) (h : Heap), YP w h → h.Ns mainGlobals mg → mg d.name = some (.ref fa) →
      ∃ (K : PySem.W.Frag) (fd : FuncData) (sp : Sp), K.In h ∧ (∀ (s : Shared) (u : Value), BindsTo s fd ⟨[u], []⟩ [(x, u)]) ∧
        (∀ (H : Hp) (a : Addr) (ns : List Int), ns.length ≤ n → Only H → SqL K H a (ns.map V.int) → sp [.ref a] H (fun v _ => v = .bl true) fun _ _ _ => False) ∧
        ∀ base : Heap, K.In base → base.Ns mainGlobals mg → SysIn base → FnG l.prog w K mg base (CX w) k fa fd [x] sp)
    (hCX : ∀ (w : World) (H : Hp) (s : Shared) (e : Value) (s' : Shared), CX w [] H s (fun _ _ _ => False) e s' → False) :
    PySem.W.WalkO q loose XP YP l.row.toRowW d [] (fun f vs => PySem.call f vs) := by
  refine Att.attach_call hn hdf fun w s₀ s₁ mg mb fa o pm cd doc a vs ns G Y ho hd hcd hmg hobj hints hlen hg => ?_
  obtain ⟨K, fd, sp, KX, hb, hsp, hF⟩ := F w mg fa _ Y G.T.g hmg
  exact law_callG KX G.T.g G.T.b G.T.builtins G.T.nolimit (let ⟨mm, q, _⟩ := (G.T.seer himp).mods; ⟨mm, q⟩) hg hobj hints (Nat.le_trans hlen hn2) hr hF hb (fun H hO hS => hsp H a ns hlen hO hS) fun H e s' => hCX w H s₁ e s'
end Gd
namespace He
open PySem PySem.Spec PyProof.Rows L2
/-- what is looked at: a Bool of one's own, the defs -/
def seeB (ds : List DefD) (ex : PySem.W.Frag → Bool) (K : PySem.W.Frag) : AlD := (ex K && ds.all (DefD.ok K), ds.map fun q => fnW K q.at_)
def seeG (m : Nat) (ds : List DefD) (ex : PySem.W.Frag → Bool) (look : Addr → Option Obj) : AlD := seeB ds ex (frG look (asD look m))
/-- a head told in two parts: the run is done once for each -/
def hook2 (m : Nat) (d1 d2 : List DefD) (e1 e2 : PySem.W.Frag → Bool) : PySem.W.Hook where
  α := AlD × AlD
  obs := fun s => (seeG m d1 e1 s.heap.get?, seeG m d2 e2 s.heap.get?)
  val := fun _ => (valD d1, valD d2)
  says := fun _ hp => ∃ Kn : PySem.W.Frag, Kn.In hp ∧ seeB d1 e1 Kn = valD d1 ∧ seeB d2 e2 Kn = valD d2
  of := fun _ _ z => ⟨_, frG_in, congrArg (fun y : AlD × AlD => y.1) z, congrArg (fun y : AlD × AlD => y.2) z⟩
  keeps := fun _ _ _ z st => let ⟨Kn, i, r⟩ := z
    ⟨Kn, PySem.W.Frag.In.keeps i st, r⟩
theorem hook2_eq {m : Nat} {d1 d2 : List DefD} {e1 e2 : PySem.W.Frag → Bool} {look : Addr → Option Obj} {s : Shared} (same : ∀ b, look b = s.heap.get? b) : (seeG m d1 e1 look, seeG m d2 e2 look) = (hook2 m d1 d2 e1 e2).obs s := by
  obtain rfl : look = s.heap.get? := funext same
  rfl
theorem both_of {S A B C D : Type} {run : Option S} {f : S → A} {g : S → B} {u : S → C} {v : S → D} {a : A} {b : B} {c : C} {d : D} (h0 : run.map (fun s => (f s, g s)) = some (a, b)) (h1 : run.map u = some c) (h2 : run.map v = some d) :
    run.map (fun s => (f s, g s, (u s, v s))) = some (a, b, (c, d)) := by
  cases run with
  | none => exact nomatch h1
  | some s =>
    have q0 : (f s, g s) = (a, b) := Option.some.inj h0
    have q1 : u s = c := Option.some.inj h1
    have q2 : v s = d := Option.some.inj h2
    injection q0 with q3 q4
    show some (f s, g s, (u s, v s)) = _
    rw [q1, q2, q3, q4]
section
variable {ds : List DefD} {ex : PySem.W.Frag → Bool} {Kn : PySem.W.Frag}
theorem see_more (z : seeB ds ex Kn = valD ds) : ex Kn = true := (ba (show (ex Kn && ds.all (DefD.ok Kn)) = true from congrArg Prod.fst z)).1
theorem see_def (z : seeB ds ex Kn = valD ds) (i : Nat) {q : DefD} (hi : ds[i]? = some q := by rfl) : ∃ fd, FunD Kn q.name q.qual q.params q.body q.scope (q.dvs Kn) (q.kws Kn) (fAd Kn q.at_) fd := by
  have all := (ba (show (ex Kn && ds.all (DefD.ok Kn)) = true from congrArg Prod.fst z)).2
  have same : ds.map (fun q => fnW Kn q.at_) = ds.map DefD.val := congrArg Prod.snd z
  have at_i := congrArg (fun l : List FnW => l[i]?) same
  simp only [List.getElem?_map, hi, Option.map_some] at at_i
  exact DefD.funD (Option.some.inj at_i) (List.all_eq_true.mp all q (List.mem_of_getElem? hi))
end
end He
namespace K4
open PySem PySem.Spec PyProof.Rows L2 Gd
def bmOf (K : PySem.W.Frag) (C : Addr) : List Value := match K.lookup C with
  | some ⟨_, _, .cls cd, _⟩ => cd.mro.tail
  | _ => []
def slB (nw : String) : List (Option Value) → Bool
  | [_, _, _, _, k4, _] => decide (k4 = some (.builtin nw))
  | _ => false
theorem slB_ok {nw : String} : ∀ {l : List (Option Value)}, slB nw l = true → ∃ k0 k1 k2 k3 k5, l = [k0, k1, k2, k3, some (.builtin nw), k5]
  | [k0, k1, k2, k3, k4, k5], h => by
    have e : k4 = some (.builtin nw) := of_decide_eq_true h
    exact ⟨k0, k1, k2, k3, k5, by rw [e]⟩
  | [], h => nomatch h
  | [_], h => nomatch h
  | [_, _], h => nomatch h
  | [_, _, _], h => nomatch h
  | [_, _, _, _], h => nomatch h
  | [_, _, _, _, _], h => nomatch h
  | _ :: _ :: _ :: _ :: _ :: _ :: _ :: _, h => nomatch h
def exO (C : Addr) (nw : String) : Option Obj → Bool
  | some ⟨.type t, _, .cls cd, sl⟩ => decide (t = "type") && (decide (cd.mro.head? = some (.ref C)) && (cd.hasDict && (!cd.hasDel && slB nw sl.toList)))
  | _ => false
theorem exO_ok {K : PySem.W.Frag} {C : Addr} {nw : String} (h : exO C nw (K.lookup C) = true) : ∃ nm q N bs sn sub ab col dd k0 k1 k2 k3 k5, K.lookup C = some (excClassObj nm q C N bs (bmOf K C) true sn sub ab col dd k0 k1 k2 k3 k5 nw) := by
  unfold bmOf
  cases e : K.lookup C with
  | none => rw [e] at h; exact nomatch h
  | some o =>
    rw [e] at h
    obtain ⟨oc, od, dt, sl⟩ := o
    cases oc with
    | type t =>
      cases dt with
      | cls cd =>
        obtain ⟨h1, h⟩ := He.ba (show (decide (t = "type") && (decide (cd.mro.head? = some (.ref C)) && (cd.hasDict && (!cd.hasDel && slB nw sl.toList)))) = true from h)
        obtain ⟨h2, h⟩ := He.ba h
        obtain ⟨h3, h⟩ := He.ba h
        obtain ⟨h4, h5⟩ := He.ba h
        have e1 := of_decide_eq_true h1
        have e2 := of_decide_eq_true h2
        subst e1
        obtain ⟨l⟩ := sl
        obtain ⟨k0, k1, k2, k3, k5, rfl⟩ := slB_ok h5
        obtain ⟨nm, bs, mro, ns, qn, hd, sn, sub, ab, col, hl⟩ := cd
        have e3 : hd = true := h3
        have e4 : hl = false := by
          have : (!hl) = true := h4
          simpa using this
        subst e3 e4
        cases mro with
        | nil => exact nomatch e2
        | cons m r =>
          have e6 : m = .ref C := Option.some.inj e2
          subst e6
          exact ⟨nm, qn, ns, bs, sn, sub, ab, col, od, k0, k1, k2, k3, k5, rfl⟩
      | _ => exact nomatch h
    | _ => cases dt <;> exact nomatch h
def noneB : Value → Bool
  | .none => true
  | _ => false
theorem noneB_ok {v : Value} (h : noneB v = true) : v = .none := by
  cases v <;> first | rfl | exact nomatch h
open He (ga ma eqO eqO_ok ba)
open PySem.W in
def comB (K : PySem.W.Frag) (x : Str) (nw : String) (vb : List Value → Bool) : Bool :=
  eqO (nsIn K mainGlobals x) (some (some (.ref (ga K x)))) && (exO (ga K x) nw (K.lookup (ga K x)) && (vb (bmOf K (ga K x)) &&
  (eqO (findIn K (.ref (ga K x)) "__getattribute__") (some (some (.builtin "BaseException.__getattribute__"))) && (eqO (findIn K (.ref (ga K x)) "__getattr__") (some none) &&
  (keepIn K (.ref (ga K x)) && (decide (subIn K (.ref (ga K x)) (.type "BaseException") = some true) && (decide (typeIn K (.ref (ga K x)) = some (.type "type")) && (hasDictIn K (ga K x) && (isClsIn K (ga K x) &&
  (eqO (findIn K (.ref (ga K x)) "__class__") (some (some (.builtin "object.__class__"))) && (eqO (specialIn K (.builtin "object.__class__") "__get__") (some (some (.builtin "getset_descriptor.__get__"))) && (decide (takesIn K (.builtin "object.__class__") = some true) &&
  (decide (mroIn K (ga K x) (.type "object") = some true) && (eqO (findIn K (.ref (ga K x)) "__eq__") (some (some (.builtin "object.__eq__"))) && decide (subIn K (.ref (ga K x)) (.type "object") = some true)))))))))))))))
open PySem.W in
def ownB (K : PySem.W.Frag) (x f : Str) : Bool :=
  eqO (findIn K (.ref (ga K x)) "__setattr__") (some (some (.builtin "object.__setattr__"))) && (eqO (findIn K (.ref (ga K x)) f) (some none) && (eqO (findIn K (.ref (ga K x)) "__init__") (some (some (.ref (ma K (ga K x) "__init__")))) &&
  (decide (typeIn K (.ref (ma K (ga K x) "__init__")) = some (.type "function")) && (match K.lookup (ma K (ga K x) "__init__") with
    | some ⟨_, _, .func fd, _⟩ => noneB fd.kwdefaults
    | _ => false))))
/-- a def without defaults as the head tells it -/
theorem fnD {K : PySem.W.Frag} {x q : Str} {A : Arguments} {B : List Stmt} {S : Scope} {f : Addr} {fd : FuncData} (D : FunD K x q A B S [] [] f fd) : ∃ oc od kV doc pm an cdv ct osl, K.lookup f = some ⟨oc, od, .func (PySem.W.fnOf x q A B S .none kV doc pm an cdv ct), osl⟩ ∧ PySem.W.codeIn K cdv q = true ∧ PySem.W.keepIn K (.ref f) = true := by
  obtain ⟨oc, od, dV, kV, doc, pm, an, cdv, ct, osl, rfl, lk, hc, hd, _⟩ := D.ex
  rcases hd with ⟨_, e⟩ | ⟨e, _⟩
  · subst e
    exact ⟨oc, od, kV, doc, pm, an, cdv, ct, osl, lk, hc, D.kp⟩
  · exact absurd rfl e

theorem mv_value0 {K : PySem.W.Frag} {mg : Str → Option Value} {h : Heap} {x : Str} {qn : String} {PA : Arguments} {PB : List Stmt} {PS : Scope} (X : K.In h) (G : h.Ns mainGlobals mg) (c : comB K x "ValueError.__new__" PySem.HandSPX.refsVE = true) (o : ownB K x "value" = true)
    (D : ∃ fd, FunD K "__init__" qn PA PB PS [] [] (ma K (ga K x) "__init__") fd) (eA : ∃ p1 p2, PA = PySem.EzValue.iA p1 p2) (eB : ∃ q1 q2 q3 q4, PB = PySem.EzValue.iB q1 q2 q3 q4) (eS : PS = PySem.EzValue.iS) : MF K mg x (ga K x) "value" (bmOf K (ga K x)) := by
  obtain ⟨p1, p2, rfl⟩ := eA
  obtain ⟨q1, q2, q3, q4, rfl⟩ := eB
  subst eS
  obtain ⟨fd, D⟩ := D
  obtain ⟨oc, od, kV, doc, pm, an, cdv, ct, osl, lf, cf, _⟩ := fnD D
  obtain ⟨aC, c⟩ := ba c
  obtain ⟨xB, c⟩ := ba c
  obtain ⟨vb, c⟩ := ba c
  obtain ⟨ga, c⟩ := ba c
  obtain ⟨gg, c⟩ := ba c
  obtain ⟨kC, c⟩ := ba c
  obtain ⟨eC, c⟩ := ba c
  obtain ⟨tC, c⟩ := ba c
  obtain ⟨hC, c⟩ := ba c
  obtain ⟨jC, c⟩ := ba c
  obtain ⟨ha, c⟩ := ba c
  obtain ⟨hn, c⟩ := ba c
  obtain ⟨ht, c⟩ := ba c
  obtain ⟨hm, c⟩ := ba c
  obtain ⟨eq, c⟩ := ba c
  have ob := c
  have aC := eqO_ok aC
  have ga := eqO_ok ga
  have gg := eqO_ok gg
  have eC := of_decide_eq_true eC
  have tC := of_decide_eq_true tC
  have ha := eqO_ok ha
  have hn := eqO_ok hn
  have ht := of_decide_eq_true ht
  have hm := of_decide_eq_true hm
  have eq := eqO_ok eq
  have ob := of_decide_eq_true ob
  obtain ⟨nm, q, N, bs, sn, sub, ab, col, dd, m0, m1, m2, m3, m5, xL⟩ := exO_ok xB
  obtain ⟨sa, o⟩ := ba o
  obtain ⟨nb, o⟩ := ba o
  obtain ⟨iC, o⟩ := ba o
  obtain ⟨tf, kw⟩ := ba o
  rw [lf] at kw
  have ek : kV = .none := noneB_ok kw
  subst ek
  exact mf_value0 X G aC xL vb ga gg kC eC tC hC jC ha hn ht hm eq ob (eqO_ok sa) (eqO_ok nb) (eqO_ok iC) (of_decide_eq_true tf) lf cf
theorem mv_index0 {K : PySem.W.Frag} {mg : Str → Option Value} {h : Heap} {x : Str} {qn : String} {PA : Arguments} {PB : List Stmt} {PS : Scope} (X : K.In h) (G : h.Ns mainGlobals mg) (c : comB K x "ValueError.__new__" PySem.HandSPX.refsVE = true) (o : ownB K x "index" = true)
    (D : ∃ fd, FunD K "__init__" qn PA PB PS [] [] (ma K (ga K x) "__init__") fd) (eA : ∃ p1 p2, PA = PySem.EzIndex.iA p1 p2) (eB : ∃ q1 q2 q3 q4, PB = PySem.EzIndex.iB q1 q2 q3 q4) (eS : PS = PySem.EzIndex.iS) : MF K mg x (ga K x) "index" (bmOf K (ga K x)) := by
  obtain ⟨p1, p2, rfl⟩ := eA
  obtain ⟨q1, q2, q3, q4, rfl⟩ := eB
  subst eS
  obtain ⟨fd, D⟩ := D
  obtain ⟨oc, od, kV, doc, pm, an, cdv, ct, osl, lf, cf, _⟩ := fnD D
  obtain ⟨aC, c⟩ := ba c
  obtain ⟨xB, c⟩ := ba c
  obtain ⟨vb, c⟩ := ba c
  obtain ⟨ga, c⟩ := ba c
  obtain ⟨gg, c⟩ := ba c
  obtain ⟨kC, c⟩ := ba c
  obtain ⟨eC, c⟩ := ba c
  obtain ⟨tC, c⟩ := ba c
  obtain ⟨hC, c⟩ := ba c
  obtain ⟨jC, c⟩ := ba c
  obtain ⟨ha, c⟩ := ba c
  obtain ⟨hn, c⟩ := ba c
  obtain ⟨ht, c⟩ := ba c
  obtain ⟨hm, c⟩ := ba c
  obtain ⟨eq, c⟩ := ba c
  have ob := c
  have aC := eqO_ok aC
  have ga := eqO_ok ga
  have gg := eqO_ok gg
  have eC := of_decide_eq_true eC
  have tC := of_decide_eq_true tC
  have ha := eqO_ok ha
  have hn := eqO_ok hn
  have ht := of_decide_eq_true ht
  have hm := of_decide_eq_true hm
  have eq := eqO_ok eq
  have ob := of_decide_eq_true ob
  obtain ⟨nm, q, N, bs, sn, sub, ab, col, dd, m0, m1, m2, m3, m5, xL⟩ := exO_ok xB
  obtain ⟨sa, o⟩ := ba o
  obtain ⟨nb, o⟩ := ba o
  obtain ⟨iC, o⟩ := ba o
  obtain ⟨tf, kw⟩ := ba o
  rw [lf] at kw
  have ek : kV = .none := noneB_ok kw
  subst ek
  exact mf_index0 X G aC xL vb ga gg kC eC tC hC jC ha hn ht hm eq ob (eqO_ok sa) (eqO_ok nb) (eqO_ok iC) (of_decide_eq_true tf) lf cf
theorem mv_count0 {K : PySem.W.Frag} {mg : Str → Option Value} {h : Heap} {x : Str} {qn : String} {PA : Arguments} {PB : List Stmt} {PS : Scope} (X : K.In h) (G : h.Ns mainGlobals mg) (c : comB K x "ValueError.__new__" PySem.HandSPX.refsVE = true) (o : ownB K x "count" = true)
    (D : ∃ fd, FunD K "__init__" qn PA PB PS [] [] (ma K (ga K x) "__init__") fd) (eA : ∃ p1 p2, PA = PySem.EzCount.iA p1 p2) (eB : ∃ q1 q2 q3 q4, PB = PySem.EzCount.iB q1 q2 q3 q4) (eS : PS = PySem.EzCount.iS) : MF K mg x (ga K x) "count" (bmOf K (ga K x)) := by
  obtain ⟨p1, p2, rfl⟩ := eA
  obtain ⟨q1, q2, q3, q4, rfl⟩ := eB
  subst eS
  obtain ⟨fd, D⟩ := D
  obtain ⟨oc, od, kV, doc, pm, an, cdv, ct, osl, lf, cf, _⟩ := fnD D
  obtain ⟨aC, c⟩ := ba c
  obtain ⟨xB, c⟩ := ba c
  obtain ⟨vb, c⟩ := ba c
  obtain ⟨ga, c⟩ := ba c
  obtain ⟨gg, c⟩ := ba c
  obtain ⟨kC, c⟩ := ba c
  obtain ⟨eC, c⟩ := ba c
  obtain ⟨tC, c⟩ := ba c
  obtain ⟨hC, c⟩ := ba c
  obtain ⟨jC, c⟩ := ba c
  obtain ⟨ha, c⟩ := ba c
  obtain ⟨hn, c⟩ := ba c
  obtain ⟨ht, c⟩ := ba c
  obtain ⟨hm, c⟩ := ba c
  obtain ⟨eq, c⟩ := ba c
  have ob := c
  have aC := eqO_ok aC
  have ga := eqO_ok ga
  have gg := eqO_ok gg
  have eC := of_decide_eq_true eC
  have tC := of_decide_eq_true tC
  have ha := eqO_ok ha
  have hn := eqO_ok hn
  have ht := of_decide_eq_true ht
  have hm := of_decide_eq_true hm
  have eq := eqO_ok eq
  have ob := of_decide_eq_true ob
  obtain ⟨nm, q, N, bs, sn, sub, ab, col, dd, m0, m1, m2, m3, m5, xL⟩ := exO_ok xB
  obtain ⟨sa, o⟩ := ba o
  obtain ⟨nb, o⟩ := ba o
  obtain ⟨iC, o⟩ := ba o
  obtain ⟨tf, kw⟩ := ba o
  rw [lf] at kw
  have ek : kV = .none := noneB_ok kw
  subst ek
  exact mf_count0 X G aC xL vb ga gg kC eC tC hC jC ha hn ht hm eq ob (eqO_ok sa) (eqO_ok nb) (eqO_ok iC) (of_decide_eq_true tf) lf cf
theorem mv_name0 {K : PySem.W.Frag} {mg : Str → Option Value} {h : Heap} {x : Str} {qn : String} {PA : Arguments} {PB : List Stmt} {PS : Scope} (X : K.In h) (G : h.Ns mainGlobals mg) (c : comB K x "ValueError.__new__" PySem.HandSPX.refsVE = true) (o : ownB K x "name" = true)
    (D : ∃ fd, FunD K "__init__" qn PA PB PS [] [] (ma K (ga K x) "__init__") fd) (eA : ∃ p1 p2, PA = PySem.EzName.iA p1 p2) (eB : ∃ q1 q2 q3 q4, PB = PySem.EzName.iB q1 q2 q3 q4) (eS : PS = PySem.EzName.iS) : MF K mg x (ga K x) "name" (bmOf K (ga K x)) := by
  obtain ⟨p1, p2, rfl⟩ := eA
  obtain ⟨q1, q2, q3, q4, rfl⟩ := eB
  subst eS
  obtain ⟨fd, D⟩ := D
  obtain ⟨oc, od, kV, doc, pm, an, cdv, ct, osl, lf, cf, _⟩ := fnD D
  obtain ⟨aC, c⟩ := ba c
  obtain ⟨xB, c⟩ := ba c
  obtain ⟨vb, c⟩ := ba c
  obtain ⟨ga, c⟩ := ba c
  obtain ⟨gg, c⟩ := ba c
  obtain ⟨kC, c⟩ := ba c
  obtain ⟨eC, c⟩ := ba c
  obtain ⟨tC, c⟩ := ba c
  obtain ⟨hC, c⟩ := ba c
  obtain ⟨jC, c⟩ := ba c
  obtain ⟨ha, c⟩ := ba c
  obtain ⟨hn, c⟩ := ba c
  obtain ⟨ht, c⟩ := ba c
  obtain ⟨hm, c⟩ := ba c
  obtain ⟨eq, c⟩ := ba c
  have ob := c
  have aC := eqO_ok aC
  have ga := eqO_ok ga
  have gg := eqO_ok gg
  have eC := of_decide_eq_true eC
  have tC := of_decide_eq_true tC
  have ha := eqO_ok ha
  have hn := eqO_ok hn
  have ht := of_decide_eq_true ht
  have hm := of_decide_eq_true hm
  have eq := eqO_ok eq
  have ob := of_decide_eq_true ob
  obtain ⟨nm, q, N, bs, sn, sub, ab, col, dd, m0, m1, m2, m3, m5, xL⟩ := exO_ok xB
  obtain ⟨sa, o⟩ := ba o
  obtain ⟨nb, o⟩ := ba o
  obtain ⟨iC, o⟩ := ba o
  obtain ⟨tf, kw⟩ := ba o
  rw [lf] at kw
  have ek : kV = .none := noneB_ok kw
  subst ek
  exact mf_name0 X G aC xL vb ga gg kC eC tC hC jC ha hn ht hm eq ob (eqO_ok sa) (eqO_ok nb) (eqO_ok iC) (of_decide_eq_true tf) lf cf
theorem mv_circle0 {K : PySem.W.Frag} {mg : Str → Option Value} {h : Heap} {x : Str} {qn : String} {PA : Arguments} {PB : List Stmt} {PS : Scope} (X : K.In h) (G : h.Ns mainGlobals mg) (c : comB K x "ValueError.__new__" PySem.HandSPX.refsVE = true) (o : ownB K x "circle" = true)
    (D : ∃ fd, FunD K "__init__" qn PA PB PS [] [] (ma K (ga K x) "__init__") fd) (eA : ∃ p1 p2, PA = PySem.EzCircle.iA p1 p2) (eB : ∃ q1 q2 q3 q4, PB = PySem.EzCircle.iB q1 q2 q3 q4) (eS : PS = PySem.EzCircle.iS) : MF K mg x (ga K x) "circle" (bmOf K (ga K x)) := by
  obtain ⟨p1, p2, rfl⟩ := eA
  obtain ⟨q1, q2, q3, q4, rfl⟩ := eB
  subst eS
  obtain ⟨fd, D⟩ := D
  obtain ⟨oc, od, kV, doc, pm, an, cdv, ct, osl, lf, cf, _⟩ := fnD D
  obtain ⟨aC, c⟩ := ba c
  obtain ⟨xB, c⟩ := ba c
  obtain ⟨vb, c⟩ := ba c
  obtain ⟨ga, c⟩ := ba c
  obtain ⟨gg, c⟩ := ba c
  obtain ⟨kC, c⟩ := ba c
  obtain ⟨eC, c⟩ := ba c
  obtain ⟨tC, c⟩ := ba c
  obtain ⟨hC, c⟩ := ba c
  obtain ⟨jC, c⟩ := ba c
  obtain ⟨ha, c⟩ := ba c
  obtain ⟨hn, c⟩ := ba c
  obtain ⟨ht, c⟩ := ba c
  obtain ⟨hm, c⟩ := ba c
  obtain ⟨eq, c⟩ := ba c
  have ob := c
  have aC := eqO_ok aC
  have ga := eqO_ok ga
  have gg := eqO_ok gg
  have eC := of_decide_eq_true eC
  have tC := of_decide_eq_true tC
  have ha := eqO_ok ha
  have hn := eqO_ok hn
  have ht := of_decide_eq_true ht
  have hm := of_decide_eq_true hm
  have eq := eqO_ok eq
  have ob := of_decide_eq_true ob
  obtain ⟨nm, q, N, bs, sn, sub, ab, col, dd, m0, m1, m2, m3, m5, xL⟩ := exO_ok xB
  obtain ⟨sa, o⟩ := ba o
  obtain ⟨nb, o⟩ := ba o
  obtain ⟨iC, o⟩ := ba o
  obtain ⟨tf, kw⟩ := ba o
  rw [lf] at kw
  have ek : kV = .none := noneB_ok kw
  subst ek
  exact mf_circle0 X G aC xL vb ga gg kC eC tC hC jC ha hn ht hm eq ob (eqO_ok sa) (eqO_ok nb) (eqO_ok iC) (of_decide_eq_true tf) lf cf
theorem mv_letter1 {K : PySem.W.Frag} {mg : Str → Option Value} {h : Heap} {x : Str} {qn : String} {PA : Arguments} {PB : List Stmt} {PS : Scope} (X : K.In h) (G : h.Ns mainGlobals mg) (c : comB K x "LookupError.__new__" PySem.Xk.ovB = true) (o : ownB K x "letter" = true)
    (D : ∃ fd, FunD K "__init__" qn PA PB PS [] [] (ma K (ga K x) "__init__") fd) (eA : ∃ p1 p2, PA = PySem.EkLetter.iA p1 p2) (eB : ∃ q1 q2 q3 q4, PB = PySem.EkLetter.iB q1 q2 q3 q4) (eS : PS = PySem.EkLetter.iS) : MF K mg x (ga K x) "letter" (bmOf K (ga K x)) := by
  obtain ⟨p1, p2, rfl⟩ := eA
  obtain ⟨q1, q2, q3, q4, rfl⟩ := eB
  subst eS
  obtain ⟨fd, D⟩ := D
  obtain ⟨oc, od, kV, doc, pm, an, cdv, ct, osl, lf, cf, _⟩ := fnD D
  obtain ⟨aC, c⟩ := ba c
  obtain ⟨xB, c⟩ := ba c
  obtain ⟨vb, c⟩ := ba c
  obtain ⟨ga, c⟩ := ba c
  obtain ⟨gg, c⟩ := ba c
  obtain ⟨kC, c⟩ := ba c
  obtain ⟨eC, c⟩ := ba c
  obtain ⟨tC, c⟩ := ba c
  obtain ⟨hC, c⟩ := ba c
  obtain ⟨jC, c⟩ := ba c
  obtain ⟨ha, c⟩ := ba c
  obtain ⟨hn, c⟩ := ba c
  obtain ⟨ht, c⟩ := ba c
  obtain ⟨hm, c⟩ := ba c
  obtain ⟨eq, c⟩ := ba c
  have ob := c
  have aC := eqO_ok aC
  have ga := eqO_ok ga
  have gg := eqO_ok gg
  have eC := of_decide_eq_true eC
  have tC := of_decide_eq_true tC
  have ha := eqO_ok ha
  have hn := eqO_ok hn
  have ht := of_decide_eq_true ht
  have hm := of_decide_eq_true hm
  have eq := eqO_ok eq
  have ob := of_decide_eq_true ob
  obtain ⟨nm, q, N, bs, sn, sub, ab, col, dd, m0, m1, m2, m3, m5, xL⟩ := exO_ok xB
  obtain ⟨sa, o⟩ := ba o
  obtain ⟨nb, o⟩ := ba o
  obtain ⟨iC, o⟩ := ba o
  obtain ⟨tf, kw⟩ := ba o
  rw [lf] at kw
  have ek : kV = .none := noneB_ok kw
  subst ek
  exact mf_letter1 X G aC xL vb ga gg kC eC tC hC jC ha hn ht hm eq ob (eqO_ok sa) (eqO_ok nb) (eqO_ok iC) (of_decide_eq_true tf) lf cf
theorem mv_number1 {K : PySem.W.Frag} {mg : Str → Option Value} {h : Heap} {x : Str} {qn : String} {PA : Arguments} {PB : List Stmt} {PS : Scope} (X : K.In h) (G : h.Ns mainGlobals mg) (c : comB K x "LookupError.__new__" PySem.Xk.ovB = true) (o : ownB K x "number" = true)
    (D : ∃ fd, FunD K "__init__" qn PA PB PS [] [] (ma K (ga K x) "__init__") fd) (eA : ∃ p1 p2, PA = PySem.EkNumber.iA p1 p2) (eB : ∃ q1 q2 q3 q4, PB = PySem.EkNumber.iB q1 q2 q3 q4) (eS : PS = PySem.EkNumber.iS) : MF K mg x (ga K x) "number" (bmOf K (ga K x)) := by
  obtain ⟨p1, p2, rfl⟩ := eA
  obtain ⟨q1, q2, q3, q4, rfl⟩ := eB
  subst eS
  obtain ⟨fd, D⟩ := D
  obtain ⟨oc, od, kV, doc, pm, an, cdv, ct, osl, lf, cf, _⟩ := fnD D
  obtain ⟨aC, c⟩ := ba c
  obtain ⟨xB, c⟩ := ba c
  obtain ⟨vb, c⟩ := ba c
  obtain ⟨ga, c⟩ := ba c
  obtain ⟨gg, c⟩ := ba c
  obtain ⟨kC, c⟩ := ba c
  obtain ⟨eC, c⟩ := ba c
  obtain ⟨tC, c⟩ := ba c
  obtain ⟨hC, c⟩ := ba c
  obtain ⟨jC, c⟩ := ba c
  obtain ⟨ha, c⟩ := ba c
  obtain ⟨hn, c⟩ := ba c
  obtain ⟨ht, c⟩ := ba c
  obtain ⟨hm, c⟩ := ba c
  obtain ⟨eq, c⟩ := ba c
  have ob := c
  have aC := eqO_ok aC
  have ga := eqO_ok ga
  have gg := eqO_ok gg
  have eC := of_decide_eq_true eC
  have tC := of_decide_eq_true tC
  have ha := eqO_ok ha
  have hn := eqO_ok hn
  have ht := of_decide_eq_true ht
  have hm := of_decide_eq_true hm
  have eq := eqO_ok eq
  have ob := of_decide_eq_true ob
  obtain ⟨nm, q, N, bs, sn, sub, ab, col, dd, m0, m1, m2, m3, m5, xL⟩ := exO_ok xB
  obtain ⟨sa, o⟩ := ba o
  obtain ⟨nb, o⟩ := ba o
  obtain ⟨iC, o⟩ := ba o
  obtain ⟨tf, kw⟩ := ba o
  rw [lf] at kw
  have ek : kV = .none := noneB_ok kw
  subst ek
  exact mf_number1 X G aC xL vb ga gg kC eC tC hC jC ha hn ht hm eq ob (eqO_ok sa) (eqO_ok nb) (eqO_ok iC) (of_decide_eq_true tf) lf cf
theorem mv_name1 {K : PySem.W.Frag} {mg : Str → Option Value} {h : Heap} {x : Str} {qn : String} {PA : Arguments} {PB : List Stmt} {PS : Scope} (X : K.In h) (G : h.Ns mainGlobals mg) (c : comB K x "LookupError.__new__" PySem.Xk.ovB = true) (o : ownB K x "name" = true)
    (D : ∃ fd, FunD K "__init__" qn PA PB PS [] [] (ma K (ga K x) "__init__") fd) (eA : ∃ p1 p2, PA = PySem.EkName.iA p1 p2) (eB : ∃ q1 q2 q3 q4, PB = PySem.EkName.iB q1 q2 q3 q4) (eS : PS = PySem.EkName.iS) : MF K mg x (ga K x) "name" (bmOf K (ga K x)) := by
  obtain ⟨p1, p2, rfl⟩ := eA
  obtain ⟨q1, q2, q3, q4, rfl⟩ := eB
  subst eS
  obtain ⟨fd, D⟩ := D
  obtain ⟨oc, od, kV, doc, pm, an, cdv, ct, osl, lf, cf, _⟩ := fnD D
  obtain ⟨aC, c⟩ := ba c
  obtain ⟨xB, c⟩ := ba c
  obtain ⟨vb, c⟩ := ba c
  obtain ⟨ga, c⟩ := ba c
  obtain ⟨gg, c⟩ := ba c
  obtain ⟨kC, c⟩ := ba c
  obtain ⟨eC, c⟩ := ba c
  obtain ⟨tC, c⟩ := ba c
  obtain ⟨hC, c⟩ := ba c
  obtain ⟨jC, c⟩ := ba c
  obtain ⟨ha, c⟩ := ba c
  obtain ⟨hn, c⟩ := ba c
  obtain ⟨ht, c⟩ := ba c
  obtain ⟨hm, c⟩ := ba c
  obtain ⟨eq, c⟩ := ba c
  have ob := c
  have aC := eqO_ok aC
  have ga := eqO_ok ga
  have gg := eqO_ok gg
  have eC := of_decide_eq_true eC
  have tC := of_decide_eq_true tC
  have ha := eqO_ok ha
  have hn := eqO_ok hn
  have ht := of_decide_eq_true ht
  have hm := of_decide_eq_true hm
  have eq := eqO_ok eq
  have ob := of_decide_eq_true ob
  obtain ⟨nm, q, N, bs, sn, sub, ab, col, dd, m0, m1, m2, m3, m5, xL⟩ := exO_ok xB
  obtain ⟨sa, o⟩ := ba o
  obtain ⟨nb, o⟩ := ba o
  obtain ⟨iC, o⟩ := ba o
  obtain ⟨tf, kw⟩ := ba o
  rw [lf] at kw
  have ek : kV = .none := noneB_ok kw
  subst ek
  exact mf_name1 X G aC xL vb ga gg kC eC tC hC jC ha hn ht hm eq ob (eqO_ok sa) (eqO_ok nb) (eqO_ok iC) (of_decide_eq_true tf) lf cf
theorem mv_value1 {K : PySem.W.Frag} {mg : Str → Option Value} {h : Heap} {x : Str} {qn : String} {PA : Arguments} {PB : List Stmt} {PS : Scope} (X : K.In h) (G : h.Ns mainGlobals mg) (c : comB K x "LookupError.__new__" PySem.Xk.ovB = true) (o : ownB K x "value" = true)
    (D : ∃ fd, FunD K "__init__" qn PA PB PS [] [] (ma K (ga K x) "__init__") fd) (eA : ∃ p1 p2, PA = PySem.EkValue.iA p1 p2) (eB : ∃ q1 q2 q3 q4, PB = PySem.EkValue.iB q1 q2 q3 q4) (eS : PS = PySem.EkValue.iS) : MF K mg x (ga K x) "value" (bmOf K (ga K x)) := by
  obtain ⟨p1, p2, rfl⟩ := eA
  obtain ⟨q1, q2, q3, q4, rfl⟩ := eB
  subst eS
  obtain ⟨fd, D⟩ := D
  obtain ⟨oc, od, kV, doc, pm, an, cdv, ct, osl, lf, cf, _⟩ := fnD D
  obtain ⟨aC, c⟩ := ba c
  obtain ⟨xB, c⟩ := ba c
  obtain ⟨vb, c⟩ := ba c
  obtain ⟨ga, c⟩ := ba c
  obtain ⟨gg, c⟩ := ba c
  obtain ⟨kC, c⟩ := ba c
  obtain ⟨eC, c⟩ := ba c
  obtain ⟨tC, c⟩ := ba c
  obtain ⟨hC, c⟩ := ba c
  obtain ⟨jC, c⟩ := ba c
  obtain ⟨ha, c⟩ := ba c
  obtain ⟨hn, c⟩ := ba c
  obtain ⟨ht, c⟩ := ba c
  obtain ⟨hm, c⟩ := ba c
  obtain ⟨eq, c⟩ := ba c
  have ob := c
  have aC := eqO_ok aC
  have ga := eqO_ok ga
  have gg := eqO_ok gg
  have eC := of_decide_eq_true eC
  have tC := of_decide_eq_true tC
  have ha := eqO_ok ha
  have hn := eqO_ok hn
  have ht := of_decide_eq_true ht
  have hm := of_decide_eq_true hm
  have eq := eqO_ok eq
  have ob := of_decide_eq_true ob
  obtain ⟨nm, q, N, bs, sn, sub, ab, col, dd, m0, m1, m2, m3, m5, xL⟩ := exO_ok xB
  obtain ⟨sa, o⟩ := ba o
  obtain ⟨nb, o⟩ := ba o
  obtain ⟨iC, o⟩ := ba o
  obtain ⟨tf, kw⟩ := ba o
  rw [lf] at kw
  have ek : kV = .none := noneB_ok kw
  subst ek
  exact mf_value1 X G aC xL vb ga gg kC eC tC hC jC ha hn ht hm eq ob (eqO_ok sa) (eqO_ok nb) (eqO_ok iC) (of_decide_eq_true tf) lf cf
theorem mw_0 {K : PySem.W.Frag} {mg : Str → Option Value} {h : Heap} {x : Str} (X : K.In h) (G : h.Ns mainGlobals mg) (c : comB K x "ValueError.__new__" PySem.HandSPX.refsVE = true) (iC : eqO (PySem.W.findIn K (.ref (ga K x)) "__init__") (some (some (.builtin "ValueError.__init__"))) = true) : M0 K mg x (ga K x) (bmOf K (ga K x)) := by
  obtain ⟨aC, c⟩ := ba c
  obtain ⟨xB, c⟩ := ba c
  obtain ⟨vb, c⟩ := ba c
  obtain ⟨ga, c⟩ := ba c
  obtain ⟨gg, c⟩ := ba c
  obtain ⟨kC, c⟩ := ba c
  obtain ⟨eC, c⟩ := ba c
  obtain ⟨tC, c⟩ := ba c
  obtain ⟨hC, c⟩ := ba c
  obtain ⟨jC, c⟩ := ba c
  obtain ⟨ha, c⟩ := ba c
  obtain ⟨hn, c⟩ := ba c
  obtain ⟨ht, c⟩ := ba c
  obtain ⟨hm, c⟩ := ba c
  obtain ⟨eq, c⟩ := ba c
  have ob := c
  have aC := eqO_ok aC
  have ga := eqO_ok ga
  have gg := eqO_ok gg
  have eC := of_decide_eq_true eC
  have tC := of_decide_eq_true tC
  have ha := eqO_ok ha
  have hn := eqO_ok hn
  have ht := of_decide_eq_true ht
  have hm := of_decide_eq_true hm
  have eq := eqO_ok eq
  have ob := of_decide_eq_true ob
  obtain ⟨nm, q, N, bs, sn, sub, ab, col, dd, m0, m1, m2, m3, m5, xL⟩ := exO_ok xB
  exact m0_0 X G aC xL vb ga gg kC eC tC hC jC ha hn ht hm eq ob (eqO_ok iC)
theorem mw_1 {K : PySem.W.Frag} {mg : Str → Option Value} {h : Heap} {x : Str} (X : K.In h) (G : h.Ns mainGlobals mg) (c : comB K x "LookupError.__new__" PySem.Xk.ovB = true) (iC : eqO (PySem.W.findIn K (.ref (ga K x)) "__init__") (some (some (.builtin "LookupError.__init__"))) = true) : M0 K mg x (ga K x) (bmOf K (ga K x)) := by
  obtain ⟨aC, c⟩ := ba c
  obtain ⟨xB, c⟩ := ba c
  obtain ⟨vb, c⟩ := ba c
  obtain ⟨ga, c⟩ := ba c
  obtain ⟨gg, c⟩ := ba c
  obtain ⟨kC, c⟩ := ba c
  obtain ⟨eC, c⟩ := ba c
  obtain ⟨tC, c⟩ := ba c
  obtain ⟨hC, c⟩ := ba c
  obtain ⟨jC, c⟩ := ba c
  obtain ⟨ha, c⟩ := ba c
  obtain ⟨hn, c⟩ := ba c
  obtain ⟨ht, c⟩ := ba c
  obtain ⟨hm, c⟩ := ba c
  obtain ⟨eq, c⟩ := ba c
  have ob := c
  have aC := eqO_ok aC
  have ga := eqO_ok ga
  have gg := eqO_ok gg
  have eC := of_decide_eq_true eC
  have tC := of_decide_eq_true tC
  have ha := eqO_ok ha
  have hn := eqO_ok hn
  have ht := of_decide_eq_true ht
  have hm := of_decide_eq_true hm
  have eq := eqO_ok eq
  have ob := of_decide_eq_true ob
  obtain ⟨nm, q, N, bs, sn, sub, ab, col, dd, m0, m1, m2, m3, m5, xL⟩ := exO_ok xB
  exact m0_1 X G aC xL vb ga gg kC eC tC hC jC ha hn ht hm eq ob (eqO_ok iC)
theorem mw_2 {K : PySem.W.Frag} {mg : Str → Option Value} {h : Heap} {x : Str} (X : K.In h) (G : h.Ns mainGlobals mg) (c : comB K x "LookupError.__new__" PySem.Xk.ovB = true) (iC : eqO (PySem.W.findIn K (.ref (ga K x)) "__init__") (some (some (.builtin "KeyError.__init__"))) = true) (vk : (bmOf K (ga K x)).contains (.type "KeyError") = true) : M0 K mg x (ga K x) (bmOf K (ga K x)) := by
  obtain ⟨aC, c⟩ := ba c
  obtain ⟨xB, c⟩ := ba c
  obtain ⟨vb, c⟩ := ba c
  obtain ⟨ga, c⟩ := ba c
  obtain ⟨gg, c⟩ := ba c
  obtain ⟨kC, c⟩ := ba c
  obtain ⟨eC, c⟩ := ba c
  obtain ⟨tC, c⟩ := ba c
  obtain ⟨hC, c⟩ := ba c
  obtain ⟨jC, c⟩ := ba c
  obtain ⟨ha, c⟩ := ba c
  obtain ⟨hn, c⟩ := ba c
  obtain ⟨ht, c⟩ := ba c
  obtain ⟨hm, c⟩ := ba c
  obtain ⟨eq, c⟩ := ba c
  have ob := c
  have aC := eqO_ok aC
  have ga := eqO_ok ga
  have gg := eqO_ok gg
  have eC := of_decide_eq_true eC
  have tC := of_decide_eq_true tC
  have ha := eqO_ok ha
  have hn := eqO_ok hn
  have ht := of_decide_eq_true ht
  have hm := of_decide_eq_true hm
  have eq := eqO_ok eq
  have ob := of_decide_eq_true ob
  obtain ⟨nm, q, N, bs, sn, sub, ab, col, dd, m0, m1, m2, m3, m5, xL⟩ := exO_ok xB
  exact m0_2 X G aC xL vb ga gg kC eC tC hC jC ha hn ht hm eq ob vk (eqO_ok iC)
theorem all_at {l : List Bool} (h : l.all id = true) (i : Nat) {b : Bool} (e : l[i]? = some b) : b = true := List.all_eq_true.mp h b (List.mem_of_getElem? e)
abbrev i0 : Stmt := inClass (top 4) 0
abbrev i1 : Stmt := inClass (top 5) 0
abbrev i2 : Stmt := inClass (top 6) 0
abbrev i3 : Stmt := inClass (top 7) 0
abbrev i4 : Stmt := inClass (top 8) 0
abbrev i5 : Stmt := inClass (top 9) 0
abbrev i6 : Stmt := inClass (top 11) 0
abbrev i7 : Stmt := inClass (top 12) 0
abbrev i8 : Stmt := inClass (top 13) 0
abbrev i9 : Stmt := inClass (top 14) 0
abbrev i10 : Stmt := inClass (top 15) 0
abbrev i11 : Stmt := inClass (top 16) 0
abbrev i12 : Stmt := inClass (top 17) 0
abbrev i13 : Stmt := inClass (top 18) 0
abbrev i14 : Stmt := inClass (top 19) 0
abbrev i15 : Stmt := inClass (top 20) 0
abbrev i16 : Stmt := inClass (top 21) 0
abbrev i17 : Stmt := inClass (top 22) 0
abbrev i18 : Stmt := inClass (top 23) 0
abbrev i19 : Stmt := inClass (top 26) 0
abbrev i20 : Stmt := inClass (top 28) 0
abbrev i21 : Stmt := inClass (top 10) 0
abbrev i22 : Stmt := inClass (top 27) 0
abbrev i23 : Stmt := inClass (top 25) 0
abbrev i24 : Stmt := inClass (top 29) 0
abbrev i25 : Stmt := inClass (top 30) 0
abbrev i27 : Stmt := inClass (top 31) 0
abbrev i28 : Stmt := inClass (top 32) 0
abbrev i29 : Stmt := inClass (top 33) 0
abbrev i30 : Stmt := inClass (top 34) 0
abbrev i31 : Stmt := inClass (top 35) 0
abbrev i32 : Stmt := inClass (top 37) 0
abbrev i33 : Stmt := inClass (top 39) 0
def fns1 : List He.DefD := [⟨("_law_cell", none), "_law_cell", "_law_cell", defArgs s_law_cell, defBody s_law_cell, defScope s_law_cell, [], []⟩,
  ⟨("_law_box", none), "_law_box", "_law_box", defArgs s_law_box, defBody s_law_box, defScope s_law_box, [], []⟩,
  ⟨("_law_take", none), "_law_take", "_law_take", defArgs s_law_take, defBody s_law_take, defScope s_law_take, [], []⟩,
  ⟨("_law_value", none), "_law_value", "_law_value", defArgs s_law_value, defBody s_law_value, defScope s_law_value, [], []⟩,
  ⟨("_law_grown", none), "_law_grown", "_law_grown", defArgs s_law_grown, defBody s_law_grown, defScope s_law_grown, [], []⟩,
  ⟨("_law_first", none), "_law_first", "_law_first", defArgs s_law_first, defBody s_law_first, defScope s_law_first, [], []⟩,
  ⟨("_law_second", none), "_law_second", "_law_second", defArgs s_law_second, defBody s_law_second, defScope s_law_second, [], []⟩,
  ⟨("_law_third", none), "_law_third", "_law_third", defArgs s_law_third, defBody s_law_third, defScope s_law_third, [], []⟩,
  ⟨("_law_fourth", none), "_law_fourth", "_law_fourth", defArgs s_law_fourth, defBody s_law_fourth, defScope s_law_fourth, [], []⟩,
  ⟨("_law_made", none), "_law_made", "_law_made", defArgs s_law_made, defBody s_law_made, defScope s_law_made, [], []⟩,
  ⟨("_law_classes", none), "_law_classes", "_law_classes", defArgs s_law_classes, defBody s_law_classes, defScope s_law_classes, [], []⟩,
  ⟨("_law_bases", none), "_law_bases", "_law_bases", defArgs s_law_bases, defBody s_law_bases, defScope s_law_bases, [], []⟩,
  ⟨("_law_fields", none), "_law_fields", "_law_fields", defArgs s_law_fields, defBody s_law_fields, defScope s_law_fields, [], []⟩,
  ⟨("_law_right", none), "_law_right", "_law_right", defArgs s_law_right, defBody s_law_right, defScope s_law_right, [], []⟩,
  ⟨("_law_bases_right", none), "_law_bases_right", "_law_bases_right", defArgs s_law_bases_right, defBody s_law_bases_right, defScope s_law_bases_right, [], []⟩,
  ⟨("law", none), "law", "law", defArgs slaw, defBody slaw, defScope slaw, [], []⟩,
  ⟨("InvalidInteger", some "__init__"), "__init__", "InvalidInteger.__init__", defArgs i0, defBody i0, defScope i0, [], []⟩,
  ⟨("InvalidName", some "__init__"), "__init__", "InvalidName.__init__", defArgs i1, defBody i1, defScope i1, [], []⟩,
  ⟨("InvalidText", some "__init__"), "__init__", "InvalidText.__init__", defArgs i2, defBody i2, defScope i2, [], []⟩,
  ⟨("InvalidLetter", some "__init__"), "__init__", "InvalidLetter.__init__", defArgs i3, defBody i3, defScope i3, [], []⟩,
  ⟨("InvalidLine", some "__init__"), "__init__", "InvalidLine.__init__", defArgs i4, defBody i4, defScope i4, [], []⟩,
  ⟨("InvalidList", some "__init__"), "__init__", "InvalidList.__init__", defArgs i5, defBody i5, defScope i5, [], []⟩,
  ⟨("InvalidTree", some "__init__"), "__init__", "InvalidTree.__init__", defArgs i6, defBody i6, defScope i6, [], []⟩,
  ⟨("InvalidTable", some "__init__"), "__init__", "InvalidTable.__init__", defArgs i7, defBody i7, defScope i7, [], []⟩,
  ⟨("InvalidFormat", some "__init__"), "__init__", "InvalidFormat.__init__", defArgs i8, defBody i8, defScope i8, [], []⟩,
  ⟨("InvalidAlphabet", some "__init__"), "__init__", "InvalidAlphabet.__init__", defArgs i9, defBody i9, defScope i9, [], []⟩,
  ⟨("InvalidPrice", some "__init__"), "__init__", "InvalidPrice.__init__", defArgs i10, defBody i10, defScope i10, [], []⟩,
  ⟨("InvalidPrices", some "__init__"), "__init__", "InvalidPrices.__init__", defArgs i11, defBody i11, defScope i11, [], []⟩,
  ⟨("InvalidSymbol", some "__init__"), "__init__", "InvalidSymbol.__init__", defArgs i12, defBody i12, defScope i12, [], []⟩,
  ⟨("InvalidScript", some "__init__"), "__init__", "InvalidScript.__init__", defArgs i13, defBody i13, defScope i13, [], []⟩,
  ⟨("InvalidMatrix", some "__init__"), "__init__", "InvalidMatrix.__init__", defArgs i14, defBody i14, defScope i14, [], []⟩,
  ⟨("NotStable", some "__init__"), "__init__", "NotStable.__init__", defArgs i15, defBody i15, defScope i15, [], []⟩,
  ⟨("InvalidPattern", some "__init__"), "__init__", "InvalidPattern.__init__", defArgs i16, defBody i16, defScope i16, [], []⟩]
def fns2 : List He.DefD := [⟨("InvalidMember", some "__init__"), "__init__", "InvalidMember.__init__", defArgs i17, defBody i17, defScope i17, [], []⟩,
  ⟨("InvalidComparison", some "__init__"), "__init__", "InvalidComparison.__init__", defArgs i18, defBody i18, defScope i18, [], []⟩,
  ⟨("InvalidOnePass", some "__init__"), "__init__", "InvalidOnePass.__init__", defArgs i19, defBody i19, defScope i19, [], []⟩,
  ⟨("InvalidCommand", some "__init__"), "__init__", "InvalidCommand.__init__", defArgs i20, defBody i20, defScope i20, [], []⟩,
  ⟨("InvalidExpression", some "__init__"), "__init__", "InvalidExpression.__init__", defArgs i21, defBody i21, defScope i21, [], []⟩,
  ⟨("InvalidRow", some "__init__"), "__init__", "InvalidRow.__init__", defArgs i22, defBody i22, defScope i22, [], []⟩,
  ⟨("TooMany", some "__init__"), "__init__", "TooMany.__init__", defArgs i23, defBody i23, defScope i23, [], []⟩,
  ⟨("DuplicateName", some "__init__"), "__init__", "DuplicateName.__init__", defArgs i24, defBody i24, defScope i24, [], []⟩,
  ⟨("Circular", some "__init__"), "__init__", "Circular.__init__", defArgs i25, defBody i25, defScope i25, [], []⟩,
  ⟨("UnknownName", some "__init__"), "__init__", "UnknownName.__init__", defArgs i27, defBody i27, defScope i27, [], []⟩,
  ⟨("UnknownLetter", some "__init__"), "__init__", "UnknownLetter.__init__", defArgs i28, defBody i28, defScope i28, [], []⟩,
  ⟨("MissingText", some "__init__"), "__init__", "MissingText.__init__", defArgs i29, defBody i29, defScope i29, [], []⟩,
  ⟨("NotIncluded", some "__init__"), "__init__", "NotIncluded.__init__", defArgs i30, defBody i30, defScope i30, [], []⟩,
  ⟨("NotPossible", some "__init__"), "__init__", "NotPossible.__init__", defArgs i31, defBody i31, defScope i31, [], []⟩,
  ⟨("NotContinuing", some "__init__"), "__init__", "NotContinuing.__init__", defArgs i32, defBody i32, defScope i32, [], []⟩,
  ⟨("StillUsed", some "__init__"), "__init__", "StillUsed.__init__", defArgs i33, defBody i33, defScope i33, [], []⟩]
def oks1 (K : PySem.W.Frag) : List Bool := [comB K "InvalidInteger" "ValueError.__new__" PySem.HandSPX.refsVE,
  ownB K "InvalidInteger" "value",
  comB K "InvalidName" "ValueError.__new__" PySem.HandSPX.refsVE,
  ownB K "InvalidName" "value",
  comB K "InvalidText" "ValueError.__new__" PySem.HandSPX.refsVE,
  ownB K "InvalidText" "value",
  comB K "InvalidLetter" "ValueError.__new__" PySem.HandSPX.refsVE,
  ownB K "InvalidLetter" "value",
  comB K "InvalidLine" "ValueError.__new__" PySem.HandSPX.refsVE,
  ownB K "InvalidLine" "value",
  comB K "InvalidList" "ValueError.__new__" PySem.HandSPX.refsVE,
  ownB K "InvalidList" "value",
  comB K "InvalidTree" "ValueError.__new__" PySem.HandSPX.refsVE,
  ownB K "InvalidTree" "value",
  comB K "InvalidTable" "ValueError.__new__" PySem.HandSPX.refsVE,
  ownB K "InvalidTable" "value",
  comB K "InvalidFormat" "ValueError.__new__" PySem.HandSPX.refsVE,
  ownB K "InvalidFormat" "value",
  comB K "InvalidAlphabet" "ValueError.__new__" PySem.HandSPX.refsVE,
  ownB K "InvalidAlphabet" "value",
  comB K "InvalidPrice" "ValueError.__new__" PySem.HandSPX.refsVE,
  ownB K "InvalidPrice" "value",
  comB K "InvalidPrices" "ValueError.__new__" PySem.HandSPX.refsVE,
  ownB K "InvalidPrices" "value",
  comB K "InvalidSymbol" "ValueError.__new__" PySem.HandSPX.refsVE,
  ownB K "InvalidSymbol" "value",
  comB K "InvalidScript" "ValueError.__new__" PySem.HandSPX.refsVE,
  ownB K "InvalidScript" "value",
  comB K "InvalidMatrix" "ValueError.__new__" PySem.HandSPX.refsVE,
  ownB K "InvalidMatrix" "value",
  comB K "NotStable" "ValueError.__new__" PySem.HandSPX.refsVE,
  ownB K "NotStable" "value",
  comB K "InvalidPattern" "ValueError.__new__" PySem.HandSPX.refsVE,
  ownB K "InvalidPattern" "value",
  comB K "InvalidMember" "ValueError.__new__" PySem.HandSPX.refsVE,
  ownB K "InvalidMember" "value",
  comB K "InvalidComparison" "ValueError.__new__" PySem.HandSPX.refsVE,
  ownB K "InvalidComparison" "value",
  comB K "InvalidOnePass" "ValueError.__new__" PySem.HandSPX.refsVE,
  ownB K "InvalidOnePass" "value",
  comB K "InvalidCommand" "ValueError.__new__" PySem.HandSPX.refsVE,
  ownB K "InvalidCommand" "value",
  comB K "InvalidExpression" "ValueError.__new__" PySem.HandSPX.refsVE,
  ownB K "InvalidExpression" "index"]
def oks2 (K : PySem.W.Frag) : List Bool := [comB K "InvalidRow" "ValueError.__new__" PySem.HandSPX.refsVE,
  ownB K "InvalidRow" "index",
  comB K "TooMany" "ValueError.__new__" PySem.HandSPX.refsVE,
  ownB K "TooMany" "count",
  comB K "DuplicateName" "ValueError.__new__" PySem.HandSPX.refsVE,
  ownB K "DuplicateName" "name",
  comB K "Circular" "ValueError.__new__" PySem.HandSPX.refsVE,
  ownB K "Circular" "circle",
  comB K "EmptyFormat" "ValueError.__new__" PySem.HandSPX.refsVE,
  eqO (PySem.W.findIn K (.ref (ga K "EmptyFormat")) "__init__") (some (some (.builtin "ValueError.__init__"))),
  comB K "UnknownName" "LookupError.__new__" PySem.Xk.ovB,
  ownB K "UnknownName" "name",
  comB K "UnknownLetter" "LookupError.__new__" PySem.Xk.ovB,
  ownB K "UnknownLetter" "letter",
  comB K "MissingText" "LookupError.__new__" PySem.Xk.ovB,
  ownB K "MissingText" "number",
  comB K "NotIncluded" "LookupError.__new__" PySem.Xk.ovB,
  ownB K "NotIncluded" "value",
  comB K "NotPossible" "LookupError.__new__" PySem.Xk.ovB,
  ownB K "NotPossible" "number",
  comB K "NotContinuing" "LookupError.__new__" PySem.Xk.ovB,
  ownB K "NotContinuing" "letter",
  comB K "StillUsed" "LookupError.__new__" PySem.Xk.ovB,
  ownB K "StillUsed" "name",
  comB K "NoScript" "LookupError.__new__" PySem.Xk.ovB,
  eqO (PySem.W.findIn K (.ref (ga K "NoScript")) "__init__") (some (some (.builtin "LookupError.__init__"))),
  comB K "Finished" "LookupError.__new__" PySem.Xk.ovB,
  eqO (PySem.W.findIn K (.ref (ga K "Finished")) "__init__") (some (some (.builtin "LookupError.__init__"))),
  comB K "NothingToUndo" "LookupError.__new__" PySem.Xk.ovB,
  eqO (PySem.W.findIn K (.ref (ga K "NothingToUndo")) "__init__") (some (some (.builtin "LookupError.__init__"))),
  comB K "DraftOpen" "LookupError.__new__" PySem.Xk.ovB,
  eqO (PySem.W.findIn K (.ref (ga K "DraftOpen")) "__init__") (some (some (.builtin "LookupError.__init__"))),
  comB K "NotOpen" "LookupError.__new__" PySem.Xk.ovB,
  eqO (PySem.W.findIn K (.ref (ga K "NotOpen")) "__init__") (some (some (.builtin "LookupError.__init__"))),
  comB K "FormatError" "ValueError.__new__" PySem.HandSPX.refsVE,
  eqO (PySem.W.findIn K (.ref (ga K "FormatError")) "__init__") (some (some (.builtin "ValueError.__init__"))),
  comB K "MissingError" "LookupError.__new__" PySem.Xk.ovB,
  eqO (PySem.W.findIn K (.ref (ga K "MissingError")) "__init__") (some (some (.builtin "KeyError.__init__"))),
  (bmOf K (ga K "MissingError")).contains (.type "KeyError"),
  comB K "StateError" "LookupError.__new__" PySem.Xk.ovB,
  eqO (PySem.W.findIn K (.ref (ga K "StateError")) "__init__") (some (some (.builtin "LookupError.__init__"))),
  eqO (PySem.W.nsIn K mainGlobals "_law_cell") (some (some (.ref (ga K "_law_cell")))),
  eqO (PySem.W.nsIn K mainGlobals "_law_box") (some (some (.ref (ga K "_law_box")))),
  eqO (PySem.W.nsIn K mainGlobals "_law_take") (some (some (.ref (ga K "_law_take")))),
  eqO (PySem.W.nsIn K mainGlobals "_law_value") (some (some (.ref (ga K "_law_value")))),
  eqO (PySem.W.nsIn K mainGlobals "_law_grown") (some (some (.ref (ga K "_law_grown")))),
  eqO (PySem.W.nsIn K mainGlobals "_law_first") (some (some (.ref (ga K "_law_first")))),
  eqO (PySem.W.nsIn K mainGlobals "_law_second") (some (some (.ref (ga K "_law_second")))),
  eqO (PySem.W.nsIn K mainGlobals "_law_third") (some (some (.ref (ga K "_law_third")))),
  eqO (PySem.W.nsIn K mainGlobals "_law_fourth") (some (some (.ref (ga K "_law_fourth")))),
  eqO (PySem.W.nsIn K mainGlobals "_law_made") (some (some (.ref (ga K "_law_made")))),
  eqO (PySem.W.nsIn K mainGlobals "_law_classes") (some (some (.ref (ga K "_law_classes")))),
  eqO (PySem.W.nsIn K mainGlobals "_law_bases") (some (some (.ref (ga K "_law_bases")))),
  eqO (PySem.W.nsIn K mainGlobals "_law_fields") (some (some (.ref (ga K "_law_fields")))),
  eqO (PySem.W.nsIn K mainGlobals "_law_right") (some (some (.ref (ga K "_law_right")))),
  eqO (PySem.W.nsIn K mainGlobals "_law_bases_right") (some (some (.ref (ga K "_law_bases_right")))),
  eqO (PySem.W.nsIn K mainGlobals "law") (some (some (.ref (ga K "law")))),
  eqO (PySem.W.nsIn K mainGlobals "isinstance") (some none),
  eqO (PySem.W.nsIn K mainGlobals "list") (some none),
  eqO (PySem.W.nsIn K mainGlobals "tuple") (some none),
  eqO (PySem.W.nsIn K mainGlobals "dict") (some none),
  eqO (PySem.W.nsIn K mainGlobals "len") (some none),
  eqO (PySem.W.nsIn K mainGlobals "max") (some none),
  eqO (PySem.W.nsIn K mainGlobals "min") (some none),
  eqO (PySem.W.nsIn K mainGlobals "range") (some none),
  eqO (PySem.W.nsIn K mainGlobals "repr") (some none),
  eqO (PySem.W.nsIn K mainGlobals "ValueError") (some none),
  eqO (PySem.W.nsIn K mainGlobals "KeyError") (some none),
  eqO (PySem.W.nsIn K mainGlobals "LookupError") (some none),
  eqO (PySem.W.nsIn K mainGlobals "IndexError") (some none),
  eqO (PySem.W.nsIn K mainGlobals "int") (some none),
  eqO (PySem.W.nsIn K mainGlobals "str") (some none),
  eqO (PySem.W.nsIn K mainGlobals "bool") (some none),
  tabOk (fun n : Nat => ([ga K "InvalidInteger", ga K "InvalidName", ga K "InvalidText", ga K "InvalidLetter", ga K "InvalidLine", ga K "InvalidList", ga K "InvalidTree", ga K "InvalidTable", ga K "InvalidFormat", ga K "InvalidAlphabet", ga K "InvalidPrice", ga K "InvalidPrices", ga K "InvalidSymbol", ga K "InvalidScript", ga K "InvalidMatrix", ga K "NotStable", ga K "InvalidPattern", ga K "InvalidMember", ga K "InvalidComparison", ga K "InvalidOnePass", ga K "InvalidCommand", ga K "InvalidExpression", ga K "InvalidRow", ga K "TooMany", ga K "DuplicateName", ga K "Circular", ga K "EmptyFormat", ga K "UnknownName", ga K "UnknownLetter", ga K "MissingText", ga K "NotIncluded", ga K "NotPossible", ga K "NotContinuing", ga K "StillUsed", ga K "NoScript", ga K "Finished", ga K "NothingToUndo", ga K "DraftOpen", ga K "NotOpen", ga K "FormatError", ga K "MissingError", ga K "StateError"] : List Addr).getD n 0) (fun n : Nat => ([bmOf K (ga K "InvalidInteger"), bmOf K (ga K "InvalidName"), bmOf K (ga K "InvalidText"), bmOf K (ga K "InvalidLetter"), bmOf K (ga K "InvalidLine"), bmOf K (ga K "InvalidList"), bmOf K (ga K "InvalidTree"), bmOf K (ga K "InvalidTable"), bmOf K (ga K "InvalidFormat"), bmOf K (ga K "InvalidAlphabet"), bmOf K (ga K "InvalidPrice"), bmOf K (ga K "InvalidPrices"), bmOf K (ga K "InvalidSymbol"), bmOf K (ga K "InvalidScript"), bmOf K (ga K "InvalidMatrix"), bmOf K (ga K "NotStable"), bmOf K (ga K "InvalidPattern"), bmOf K (ga K "InvalidMember"), bmOf K (ga K "InvalidComparison"), bmOf K (ga K "InvalidOnePass"), bmOf K (ga K "InvalidCommand"), bmOf K (ga K "InvalidExpression"), bmOf K (ga K "InvalidRow"), bmOf K (ga K "TooMany"), bmOf K (ga K "DuplicateName"), bmOf K (ga K "Circular"), bmOf K (ga K "EmptyFormat"), bmOf K (ga K "UnknownName"), bmOf K (ga K "UnknownLetter"), bmOf K (ga K "MissingText"), bmOf K (ga K "NotIncluded"), bmOf K (ga K "NotPossible"), bmOf K (ga K "NotContinuing"), bmOf K (ga K "StillUsed"), bmOf K (ga K "NoScript"), bmOf K (ga K "Finished"), bmOf K (ga K "NothingToUndo"), bmOf K (ga K "DraftOpen"), bmOf K (ga K "NotOpen"), bmOf K (ga K "FormatError"), bmOf K (ga K "MissingError"), bmOf K (ga K "StateError")] : List (List Value)).getD n [])]
abbrev R : PySem.W.OpenRow := PySem.W.OpenLaw.row PySem.Challenge.rw_formatrepair_k04_exceptions_and_fields
abbrev hk : PySem.W.Hook := He.hook2 5 fns1 fns2 (fun K => (oks1 K).all id) fun K => (oks2 K).all id
def ob1 (s : PySem.W.SharedT) : He.AlD := He.seeG 5 fns1 (fun K => (oks1 K).all id) (HandSHeadRun.getT s)
def ob2 (s : PySem.W.SharedT) : He.AlD := He.seeG 5 fns2 (fun K => (oks2 K).all id) (HandSHeadRun.getT s)
def ob (s : PySem.W.SharedT) : He.AlD × He.AlD := (ob1 s, ob2 s)
theorem ob_eq (s : PySem.W.SharedT) : ob s = hk.obs s.abs := He.hook2_eq (HandSHeadRun.getT_eq s)
def lo1 : List Str := ["FormatError", "MissingError", "StateError", "InvalidInteger", "InvalidName", "InvalidText", "InvalidLetter", "InvalidLine", "InvalidList", "InvalidExpression", "InvalidTree", "InvalidTable", "InvalidFormat", "InvalidAlphabet", "InvalidPrice", "InvalidPrices", "InvalidSymbol", "InvalidScript", "InvalidMatrix", "NotStable", "InvalidPattern", "InvalidMember", "InvalidComparison", "EmptyFormat", "TooMany", "InvalidOnePass", "InvalidRow", "InvalidCommand", "DuplicateName", "Circular"]
def lo2 : List Str := ["UnknownName", "UnknownLetter", "MissingText", "NotIncluded", "NotPossible", "NoScript", "NotContinuing", "Finished", "StillUsed", "DraftOpen", "NotOpen", "NothingToUndo", "_law_cell", "_law_box", "_law_take", "_law_value", "_law_grown", "_law_first", "_law_second", "_law_third", "_law_fourth", "_law_made", "_law_classes", "_law_bases", "_law_fields", "_law_right", "_law_bases_right"]
theorem facts {P : Program} {w : World} {K : PySem.W.Frag} {h : Heap} {mg : Str → Option Value} {f : Addr} (X : K.In h) (G : h.Ns mainGlobals mg) (hfa : mg ("law" : Str) = some (.ref f)) (S1 : He.seeB fns1 (fun K => (oks1 K).all id) K = He.valD fns1) (S2 : He.seeB fns2 (fun K => (oks2 K).all id) K = He.valD fns2) :
    ∃ fd : FuncData, (∀ (s : Shared) (u : Value), BindsTo s fd ⟨[u], []⟩ [("_law_script", u)]) ∧ ∀ base : Heap, K.In base → base.Ns mainGlobals mg → SysIn base → FnG P w K mg base CX0 5 f fd ["_law_script"] (spLaw K) := by
  have O1 : (oks1 K).all id = true := He.see_more S1
  have O2 : (oks2 K).all id = true := He.see_more S2
  obtain ⟨fd0, D0⟩ := He.see_def S1 0 rfl
  obtain ⟨oc0, od0, kV0, dc0, pm0, an0, cd0, ct0, sl0, l0, c0, k0⟩ := fnD D0
  obtain ⟨fd1, D1⟩ := He.see_def S1 1 rfl
  obtain ⟨oc1, od1, kV1, dc1, pm1, an1, cd1, ct1, sl1, l1, c1, k1⟩ := fnD D1
  obtain ⟨fd2, D2⟩ := He.see_def S1 2 rfl
  obtain ⟨oc2, od2, kV2, dc2, pm2, an2, cd2, ct2, sl2, l2, c2, k2⟩ := fnD D2
  obtain ⟨fd3, D3⟩ := He.see_def S1 3 rfl
  obtain ⟨oc3, od3, kV3, dc3, pm3, an3, cd3, ct3, sl3, l3, c3, k3⟩ := fnD D3
  obtain ⟨fd4, D4⟩ := He.see_def S1 4 rfl
  obtain ⟨oc4, od4, kV4, dc4, pm4, an4, cd4, ct4, sl4, l4, c4, k4⟩ := fnD D4
  obtain ⟨fd5, D5⟩ := He.see_def S1 5 rfl
  obtain ⟨oc5, od5, kV5, dc5, pm5, an5, cd5, ct5, sl5, l5, c5, k5⟩ := fnD D5
  obtain ⟨fd6, D6⟩ := He.see_def S1 6 rfl
  obtain ⟨oc6, od6, kV6, dc6, pm6, an6, cd6, ct6, sl6, l6, c6, k6⟩ := fnD D6
  obtain ⟨fd7, D7⟩ := He.see_def S1 7 rfl
  obtain ⟨oc7, od7, kV7, dc7, pm7, an7, cd7, ct7, sl7, l7, c7, k7⟩ := fnD D7
  obtain ⟨fd8, D8⟩ := He.see_def S1 8 rfl
  obtain ⟨oc8, od8, kV8, dc8, pm8, an8, cd8, ct8, sl8, l8, c8, k8⟩ := fnD D8
  obtain ⟨fd9, D9⟩ := He.see_def S1 9 rfl
  obtain ⟨oc9, od9, kV9, dc9, pm9, an9, cd9, ct9, sl9, l9, c9, k9⟩ := fnD D9
  obtain ⟨fd10, D10⟩ := He.see_def S1 10 rfl
  obtain ⟨oc10, od10, kV10, dc10, pm10, an10, cd10, ct10, sl10, l10, c10, k10⟩ := fnD D10
  obtain ⟨fd11, D11⟩ := He.see_def S1 11 rfl
  obtain ⟨oc11, od11, kV11, dc11, pm11, an11, cd11, ct11, sl11, l11, c11, k11⟩ := fnD D11
  obtain ⟨fd12, D12⟩ := He.see_def S1 12 rfl
  obtain ⟨oc12, od12, kV12, dc12, pm12, an12, cd12, ct12, sl12, l12, c12, k12⟩ := fnD D12
  obtain ⟨fd13, D13⟩ := He.see_def S1 13 rfl
  obtain ⟨oc13, od13, kV13, dc13, pm13, an13, cd13, ct13, sl13, l13, c13, k13⟩ := fnD D13
  obtain ⟨fd14, D14⟩ := He.see_def S1 14 rfl
  obtain ⟨oc14, od14, kV14, dc14, pm14, an14, cd14, ct14, sl14, l14, c14, k14⟩ := fnD D14
  obtain ⟨fd15, D15⟩ := He.see_def S1 15 rfl
  obtain ⟨oc15, od15, kV15, dc15, pm15, an15, cd15, ct15, sl15, l15, c15, k15⟩ := fnD D15
  have x0 : MF K mg "InvalidInteger" (ga K "InvalidInteger") "value" (bmOf K (ga K "InvalidInteger")) := mv_value0 X G (all_at O1 0 rfl) (all_at O1 1 rfl) (He.see_def S1 16 rfl) ⟨_, _, rfl⟩ ⟨_, _, _, _, rfl⟩ rfl
  have x1 : MF K mg "InvalidName" (ga K "InvalidName") "value" (bmOf K (ga K "InvalidName")) := mv_value0 X G (all_at O1 2 rfl) (all_at O1 3 rfl) (He.see_def S1 17 rfl) ⟨_, _, rfl⟩ ⟨_, _, _, _, rfl⟩ rfl
  have x2 : MF K mg "InvalidText" (ga K "InvalidText") "value" (bmOf K (ga K "InvalidText")) := mv_value0 X G (all_at O1 4 rfl) (all_at O1 5 rfl) (He.see_def S1 18 rfl) ⟨_, _, rfl⟩ ⟨_, _, _, _, rfl⟩ rfl
  have x3 : MF K mg "InvalidLetter" (ga K "InvalidLetter") "value" (bmOf K (ga K "InvalidLetter")) := mv_value0 X G (all_at O1 6 rfl) (all_at O1 7 rfl) (He.see_def S1 19 rfl) ⟨_, _, rfl⟩ ⟨_, _, _, _, rfl⟩ rfl
  have x4 : MF K mg "InvalidLine" (ga K "InvalidLine") "value" (bmOf K (ga K "InvalidLine")) := mv_value0 X G (all_at O1 8 rfl) (all_at O1 9 rfl) (He.see_def S1 20 rfl) ⟨_, _, rfl⟩ ⟨_, _, _, _, rfl⟩ rfl
  have x5 : MF K mg "InvalidList" (ga K "InvalidList") "value" (bmOf K (ga K "InvalidList")) := mv_value0 X G (all_at O1 10 rfl) (all_at O1 11 rfl) (He.see_def S1 21 rfl) ⟨_, _, rfl⟩ ⟨_, _, _, _, rfl⟩ rfl
  have x6 : MF K mg "InvalidTree" (ga K "InvalidTree") "value" (bmOf K (ga K "InvalidTree")) := mv_value0 X G (all_at O1 12 rfl) (all_at O1 13 rfl) (He.see_def S1 22 rfl) ⟨_, _, rfl⟩ ⟨_, _, _, _, rfl⟩ rfl
  have x7 : MF K mg "InvalidTable" (ga K "InvalidTable") "value" (bmOf K (ga K "InvalidTable")) := mv_value0 X G (all_at O1 14 rfl) (all_at O1 15 rfl) (He.see_def S1 23 rfl) ⟨_, _, rfl⟩ ⟨_, _, _, _, rfl⟩ rfl
  have x8 : MF K mg "InvalidFormat" (ga K "InvalidFormat") "value" (bmOf K (ga K "InvalidFormat")) := mv_value0 X G (all_at O1 16 rfl) (all_at O1 17 rfl) (He.see_def S1 24 rfl) ⟨_, _, rfl⟩ ⟨_, _, _, _, rfl⟩ rfl
  have x9 : MF K mg "InvalidAlphabet" (ga K "InvalidAlphabet") "value" (bmOf K (ga K "InvalidAlphabet")) := mv_value0 X G (all_at O1 18 rfl) (all_at O1 19 rfl) (He.see_def S1 25 rfl) ⟨_, _, rfl⟩ ⟨_, _, _, _, rfl⟩ rfl
  have x10 : MF K mg "InvalidPrice" (ga K "InvalidPrice") "value" (bmOf K (ga K "InvalidPrice")) := mv_value0 X G (all_at O1 20 rfl) (all_at O1 21 rfl) (He.see_def S1 26 rfl) ⟨_, _, rfl⟩ ⟨_, _, _, _, rfl⟩ rfl
  have x11 : MF K mg "InvalidPrices" (ga K "InvalidPrices") "value" (bmOf K (ga K "InvalidPrices")) := mv_value0 X G (all_at O1 22 rfl) (all_at O1 23 rfl) (He.see_def S1 27 rfl) ⟨_, _, rfl⟩ ⟨_, _, _, _, rfl⟩ rfl
  have x12 : MF K mg "InvalidSymbol" (ga K "InvalidSymbol") "value" (bmOf K (ga K "InvalidSymbol")) := mv_value0 X G (all_at O1 24 rfl) (all_at O1 25 rfl) (He.see_def S1 28 rfl) ⟨_, _, rfl⟩ ⟨_, _, _, _, rfl⟩ rfl
  have x13 : MF K mg "InvalidScript" (ga K "InvalidScript") "value" (bmOf K (ga K "InvalidScript")) := mv_value0 X G (all_at O1 26 rfl) (all_at O1 27 rfl) (He.see_def S1 29 rfl) ⟨_, _, rfl⟩ ⟨_, _, _, _, rfl⟩ rfl
  have x14 : MF K mg "InvalidMatrix" (ga K "InvalidMatrix") "value" (bmOf K (ga K "InvalidMatrix")) := mv_value0 X G (all_at O1 28 rfl) (all_at O1 29 rfl) (He.see_def S1 30 rfl) ⟨_, _, rfl⟩ ⟨_, _, _, _, rfl⟩ rfl
  have x15 : MF K mg "NotStable" (ga K "NotStable") "value" (bmOf K (ga K "NotStable")) := mv_value0 X G (all_at O1 30 rfl) (all_at O1 31 rfl) (He.see_def S1 31 rfl) ⟨_, _, rfl⟩ ⟨_, _, _, _, rfl⟩ rfl
  have x16 : MF K mg "InvalidPattern" (ga K "InvalidPattern") "value" (bmOf K (ga K "InvalidPattern")) := mv_value0 X G (all_at O1 32 rfl) (all_at O1 33 rfl) (He.see_def S1 32 rfl) ⟨_, _, rfl⟩ ⟨_, _, _, _, rfl⟩ rfl
  have x17 : MF K mg "InvalidMember" (ga K "InvalidMember") "value" (bmOf K (ga K "InvalidMember")) := mv_value0 X G (all_at O1 34 rfl) (all_at O1 35 rfl) (He.see_def S2 0 rfl) ⟨_, _, rfl⟩ ⟨_, _, _, _, rfl⟩ rfl
  have x18 : MF K mg "InvalidComparison" (ga K "InvalidComparison") "value" (bmOf K (ga K "InvalidComparison")) := mv_value0 X G (all_at O1 36 rfl) (all_at O1 37 rfl) (He.see_def S2 1 rfl) ⟨_, _, rfl⟩ ⟨_, _, _, _, rfl⟩ rfl
  have x19 : MF K mg "InvalidOnePass" (ga K "InvalidOnePass") "value" (bmOf K (ga K "InvalidOnePass")) := mv_value0 X G (all_at O1 38 rfl) (all_at O1 39 rfl) (He.see_def S2 2 rfl) ⟨_, _, rfl⟩ ⟨_, _, _, _, rfl⟩ rfl
  have x20 : MF K mg "InvalidCommand" (ga K "InvalidCommand") "value" (bmOf K (ga K "InvalidCommand")) := mv_value0 X G (all_at O1 40 rfl) (all_at O1 41 rfl) (He.see_def S2 3 rfl) ⟨_, _, rfl⟩ ⟨_, _, _, _, rfl⟩ rfl
  have x21 : MF K mg "InvalidExpression" (ga K "InvalidExpression") "index" (bmOf K (ga K "InvalidExpression")) := mv_index0 X G (all_at O1 42 rfl) (all_at O1 43 rfl) (He.see_def S2 4 rfl) ⟨_, _, rfl⟩ ⟨_, _, _, _, rfl⟩ rfl
  have x22 : MF K mg "InvalidRow" (ga K "InvalidRow") "index" (bmOf K (ga K "InvalidRow")) := mv_index0 X G (all_at O2 0 rfl) (all_at O2 1 rfl) (He.see_def S2 5 rfl) ⟨_, _, rfl⟩ ⟨_, _, _, _, rfl⟩ rfl
  have x23 : MF K mg "TooMany" (ga K "TooMany") "count" (bmOf K (ga K "TooMany")) := mv_count0 X G (all_at O2 2 rfl) (all_at O2 3 rfl) (He.see_def S2 6 rfl) ⟨_, _, rfl⟩ ⟨_, _, _, _, rfl⟩ rfl
  have x24 : MF K mg "DuplicateName" (ga K "DuplicateName") "name" (bmOf K (ga K "DuplicateName")) := mv_name0 X G (all_at O2 4 rfl) (all_at O2 5 rfl) (He.see_def S2 7 rfl) ⟨_, _, rfl⟩ ⟨_, _, _, _, rfl⟩ rfl
  have x25 : MF K mg "Circular" (ga K "Circular") "circle" (bmOf K (ga K "Circular")) := mv_circle0 X G (all_at O2 6 rfl) (all_at O2 7 rfl) (He.see_def S2 8 rfl) ⟨_, _, rfl⟩ ⟨_, _, _, _, rfl⟩ rfl
  have x26 : M0 K mg "EmptyFormat" (ga K "EmptyFormat") (bmOf K (ga K "EmptyFormat")) := mw_0 X G (all_at O2 8 rfl) (all_at O2 9 rfl)
  have x27 : MF K mg "UnknownName" (ga K "UnknownName") "name" (bmOf K (ga K "UnknownName")) := mv_name1 X G (all_at O2 10 rfl) (all_at O2 11 rfl) (He.see_def S2 9 rfl) ⟨_, _, rfl⟩ ⟨_, _, _, _, rfl⟩ rfl
  have x28 : MF K mg "UnknownLetter" (ga K "UnknownLetter") "letter" (bmOf K (ga K "UnknownLetter")) := mv_letter1 X G (all_at O2 12 rfl) (all_at O2 13 rfl) (He.see_def S2 10 rfl) ⟨_, _, rfl⟩ ⟨_, _, _, _, rfl⟩ rfl
  have x29 : MF K mg "MissingText" (ga K "MissingText") "number" (bmOf K (ga K "MissingText")) := mv_number1 X G (all_at O2 14 rfl) (all_at O2 15 rfl) (He.see_def S2 11 rfl) ⟨_, _, rfl⟩ ⟨_, _, _, _, rfl⟩ rfl
  have x30 : MF K mg "NotIncluded" (ga K "NotIncluded") "value" (bmOf K (ga K "NotIncluded")) := mv_value1 X G (all_at O2 16 rfl) (all_at O2 17 rfl) (He.see_def S2 12 rfl) ⟨_, _, rfl⟩ ⟨_, _, _, _, rfl⟩ rfl
  have x31 : MF K mg "NotPossible" (ga K "NotPossible") "number" (bmOf K (ga K "NotPossible")) := mv_number1 X G (all_at O2 18 rfl) (all_at O2 19 rfl) (He.see_def S2 13 rfl) ⟨_, _, rfl⟩ ⟨_, _, _, _, rfl⟩ rfl
  have x32 : MF K mg "NotContinuing" (ga K "NotContinuing") "letter" (bmOf K (ga K "NotContinuing")) := mv_letter1 X G (all_at O2 20 rfl) (all_at O2 21 rfl) (He.see_def S2 14 rfl) ⟨_, _, rfl⟩ ⟨_, _, _, _, rfl⟩ rfl
  have x33 : MF K mg "StillUsed" (ga K "StillUsed") "name" (bmOf K (ga K "StillUsed")) := mv_name1 X G (all_at O2 22 rfl) (all_at O2 23 rfl) (He.see_def S2 15 rfl) ⟨_, _, rfl⟩ ⟨_, _, _, _, rfl⟩ rfl
  have x34 : M0 K mg "NoScript" (ga K "NoScript") (bmOf K (ga K "NoScript")) := mw_1 X G (all_at O2 24 rfl) (all_at O2 25 rfl)
  have x35 : M0 K mg "Finished" (ga K "Finished") (bmOf K (ga K "Finished")) := mw_1 X G (all_at O2 26 rfl) (all_at O2 27 rfl)
  have x36 : M0 K mg "NothingToUndo" (ga K "NothingToUndo") (bmOf K (ga K "NothingToUndo")) := mw_1 X G (all_at O2 28 rfl) (all_at O2 29 rfl)
  have x37 : M0 K mg "DraftOpen" (ga K "DraftOpen") (bmOf K (ga K "DraftOpen")) := mw_1 X G (all_at O2 30 rfl) (all_at O2 31 rfl)
  have x38 : M0 K mg "NotOpen" (ga K "NotOpen") (bmOf K (ga K "NotOpen")) := mw_1 X G (all_at O2 32 rfl) (all_at O2 33 rfl)
  have x39 : M0 K mg "FormatError" (ga K "FormatError") (bmOf K (ga K "FormatError")) := mw_0 X G (all_at O2 34 rfl) (all_at O2 35 rfl)
  have x40 : M0 K mg "MissingError" (ga K "MissingError") (bmOf K (ga K "MissingError")) := mw_2 X G (all_at O2 36 rfl) (all_at O2 37 rfl) (all_at O2 38 rfl)
  have x41 : M0 K mg "StateError" (ga K "StateError") (bmOf K (ga K "StateError")) := mw_1 X G (all_at O2 39 rfl) (all_at O2 40 rfl)
  exact all_mk X G hfa (eqO_ok (all_at O2 41 rfl)) l0 c0 k0 (eqO_ok (all_at O2 42 rfl)) l1 c1 k1 (eqO_ok (all_at O2 43 rfl)) l2 c2 k2 (eqO_ok (all_at O2 44 rfl)) l3 c3 k3 (eqO_ok (all_at O2 45 rfl)) l4 c4 k4 (eqO_ok (all_at O2 46 rfl)) l5 c5 k5 (eqO_ok (all_at O2 47 rfl)) l6 c6 k6 (eqO_ok (all_at O2 48 rfl)) l7 c7 k7 (eqO_ok (all_at O2 49 rfl)) l8 c8 k8 (eqO_ok (all_at O2 50 rfl)) l9 c9 k9 (eqO_ok (all_at O2 51 rfl)) l10 c10 k10 (eqO_ok (all_at O2 52 rfl)) l11 c11 k11 (eqO_ok (all_at O2 53 rfl)) l12 c12 k12 (eqO_ok (all_at O2 54 rfl)) l13 c13 k13 (eqO_ok (all_at O2 55 rfl)) l14 c14 k14 (eqO_ok (all_at O2 56 rfl)) l15 c15 k15 x0 x1 x2 x3 x4 x5 x6 x7 x8 x9 x10 x11 x12 x13 x14 x15 x16 x17 x18 x19 x20 x21 x22 x23 x24 x25 x26 x27 x28 x29 x30 x31 x32 x33 x34 x35 x36 x37 x38 x39 x40 x41 (all_at O2 73 rfl) (eqO_ok (all_at O2 57 rfl)) (eqO_ok (all_at O2 58 rfl)) (eqO_ok (all_at O2 59 rfl)) (eqO_ok (all_at O2 60 rfl)) (eqO_ok (all_at O2 61 rfl)) (eqO_ok (all_at O2 62 rfl)) (eqO_ok (all_at O2 63 rfl)) (eqO_ok (all_at O2 64 rfl)) (eqO_ok (all_at O2 65 rfl)) (eqO_ok (all_at O2 66 rfl)) (eqO_ok (all_at O2 67 rfl)) (eqO_ok (all_at O2 68 rfl)) (eqO_ok (all_at O2 69 rfl)) (eqO_ok (all_at O2 70 rfl)) (eqO_ok (all_at O2 71 rfl)) (eqO_ok (all_at O2 72 rfl))
end K4

set_option maxHeartbeats 0
namespace K4
open PySem PySem.Spec PySem.Calls PySem.W PyProof.Rows L2 Gd
noncomputable abbrev endS (w : World) (os : OsState) : Option PySem.W.SharedT := HandSHeadRun.endF (HandSHeadRun.stepQ (HandSHeadRun.denQ HandSHeadRun.tabQ) R.prog w) 12000 R.prog w os
theorem run0 (w : World) (os : OsState) : (endS w os).map (fun s => (HandSHeadRun.looksF R.prog (boot_heap w.params) s.abs, HandSHeadRun.seenQ (PySem.W.view R.prog [59]) (lo1 ++ lo2) (importedModules R.prog.main.body) (fun s => PySem.W.xlAt (PySem.W.view R.prog [59]) [] s && PySem.W.recOk R.toRowW.records s) s.abs)) = some (true, PySem.W.openGood (PySem.W.view R.prog [59]) (lo1 ++ lo2)) := by
  kernel_rfl
theorem run1 (w : World) (os : OsState) : (endS w os).map ob1 = some (He.valD fns1) := by
  kernel_rfl
theorem run2 (w : World) (os : OsState) : (endS w os).map ob2 = some (He.valD fns2) := by
  kernel_rfl
theorem run (w : World) : HandSHeadRun.RunEq R (PySem.W.view R.prog [59]) hk ob 12000 (lo1 ++ lo2) w := fun os => He.both_of (run0 w os) (run1 w os) (run2 w os)
end K4
open PySem PySem.W PySem.Calls PyProof.Rows
theorem PySem.Challenge.cw_formatrepair_k04_exceptions_and_fields_holds : PySem.Challenge.rw_formatrepair_k04_exceptions_and_fields.Holds := by
  w_on; o_law
  refine HandSHeadRun.head_any (r := OpenLaw.row PySem.Challenge.rw_formatrepair_k04_exceptions_and_fields) (q := view (OpenLaw.row PySem.Challenge.rw_formatrepair_k04_exceptions_and_fields).prog [59]) (H := K4.hk) (ob := K4.ob) (M := 12000) (loose := K4.lo1 ++ K4.lo2) (d := HandSHeadRun.topDef (OpenLaw.row PySem.Challenge.rw_formatrepair_k04_exceptions_and_fields).prog 59) (kwd := []) K4.ob_eq
    (by kernel_rfl) (fun s => by kernel_rfl) K4.run (by kernel_rfl) (by kernel_rfl) (by kernel_rfl) (by rfl) (by first | assumption | decide +kernel) (by decide +kernel) ⟨rfl, rfl, rfl, rfl, rfl, by decide +kernel⟩ ?hw ?hc
  case hw => w_witness2
  case hc =>
    refine Gd.walkE (l := PySem.Challenge.rw_formatrepair_k04_exceptions_and_fields) (n := 63) (k := 5) (x := "_law_script") (CX := fun _ => L2.CX0) rfl (by decide) (by kernel_rfl) ⟨rfl, by decide, by decide⟩ (by kernel_rfl) ?F (fun _ _ _ _ _ z => z)
    intro w mg fa h Y G hmg0
    obtain ⟨K, KX, c1, c2⟩ := Y
    have hmg : mg ("law" : PySem.Str) = some (.ref fa) := by
      have e : (HandSHeadRun.topDef (OpenLaw.row PySem.Challenge.rw_formatrepair_k04_exceptions_and_fields).prog 59).name = ("law" : PySem.Str) := by kernel_rfl
      rw [← e]
      exact hmg0
    obtain ⟨fd, hb, hF⟩ := K4.facts (P := (PySem.Challenge.rw_formatrepair_k04_exceptions_and_fields).prog) (w := w) KX G hmg c1 c2
    exact ⟨K, fd, K4.spLaw K, KX, hb, fun H a ns hl _ hS => ⟨a, ns, rfl, hS, hl, fun _ => rfl⟩, hF⟩
