import PyProof.Rows.All
import Wide.All
import OpenK.AllK
import Wide.FinOn
import PyProof.ReprRoads
import HandS.Base
import HandS.Call
import HandS.List
import HandS.Dict
import HandS.Ends
import HandS.Words
import PyProof.StrLawsRepr
import HandS.Exc
import HandS.ExcOwn
import HandS.TryOnly
import HandS.TryMany
import HandS.Defaults
import HandS.Wide
import HandS.Comp
import HandS.Iter
import HandS.Text
import HandS.More
import HandS.Style
import HandS.StrMore
import HandS.IsInst
import HandS.Replace
import HandS.RaiseMore
import HandS.WordsList
import HandS.WordsDict
import HandS.WordsExc
import HandS.Walk
import HandS.Codes
import PyProof.Rows.StrFin3
import KE.IntTextLaws
import PyProof.StrLawsAffix
import PySem.Challenge.RW_formatrepair_k02_counts_in_strings
set_option Elab.async false
set_option linter.all false
set_option maxRecDepth 100000
set_option maxHeartbeats 4000000
namespace Gd
open PySem PySem.Spec PyProof.Rows L2
/-- no repr is under way -/
def Clean (A : Around) : Prop := A.guards = some []
/-- a contract that holds where no repr is under way -/
structure FnG (P : Program) (w : World) (K : PySem.W.Frag) (mg : Str → Option Value) (base : Heap) (CX : CXT) (k : Nat) (f : Addr) (fd : FuncData) (ps : List Str) (sp : Sp) : Prop where
  len : ∀ vs H Q E, sp vs H Q E → vs.length = ps.length
  run : ∀ (A : Around) (outer : List Env) (s : Shared) (H : Hp) (args : Args) (us : List Value) (vs : List V) (Q : VK) (E : XK), Clean A → Room k A →
    Env0 P w K mg base A outer s H → BindsTo s fd args (ps.zip us) → Vals vs us → sp vs H Q E →
    codeAny (model P w) A (.call (.ref f) args) (CR CX outer P w H s Q E) s
section
variable {P : Program} {w : World} {K : PySem.W.Frag} {mg : Str → Option Value} {base : Heap} {CX : CXT} {k j : Nat} {f : Addr} {fd : FuncData} {ps : List Str} {sp : Sp}
theorem FnG.of (F : FnOk P w K mg base CX k f fd ps sp) : FnG P w K mg base CX k f fd ps sp :=
  ⟨F.len, fun A outer s H args us vs Q E _ hr e0 hb r h => F.run A outer s H args us vs Q E hr e0 hb r h⟩
theorem FnG.mono (F : FnG P w K mg base CX j f fd ps sp) (h : j ≤ k) : FnG P w K mg base CX k f fd ps sp :=
  ⟨F.len, fun A outer s H args us vs Q E hc hr e0 hb r q => F.run A outer s H args us vs Q E hc (hr.mono h) e0 hb r q⟩
/-- a def of the text keeps its contract: its body as rules, and their reading -/
theorem okG {CX : CXT} {x qual : Str} {st : Stmt} {N : List Str} (F : Fun K x qual st f fd) (S : FnScope N ps (defScope st)) (len : ∀ vs H Q E, sp vs H Q E → vs.length = ps.length)
    (hbody : ∀ (cdv : Value) (A : Around) (outer : List Env) (s : Shared) (H : Hp) (vs : List V) (Q : VK) (E : XK), Clean A → Room k (A.deeper (envOfC qual (defScope st) s.heap.objs.size f cdv)) → sp vs H Q E →
      ∃ t, PSs (cxOf CX P w K mg base N qual (defScope st) f cdv A outer s H E) (defBody st) t ∧ t { nx := fun _ H' => Q .non H', rt := Q } (start N vs) H) : FnG P w K mg base CX (k + 1) f fd ps sp := by
  obtain ⟨oc, od, kV, doc, pm, an, cdv, ct, osl, efd, lk, hcd⟩ := F.ex
  subst efd
  refine ⟨len, fun A outer s H args us vs Q E hc hr e0 hb r hsp => ?_⟩
  have bk : ∀ b o, base.get? b = some o → s.heap.get? b = some o := fun b o e => (e0.bs b o e).1
  have KX : K.In s.heap := e0.mod.kin.keeps bk
  have hkind : ∀ y ∈ ps.zip us, (defScope st).names.lookup y.1 = some .local ∨ ((defScope st).names.lookup y.1 = some .cell ∧ ((cellsFrom (s.heap.objs.size + 1) (defScope st).names []).lookup y.1).isSome = true) := by
    rintro ⟨n, v⟩ hy
    exact (S.par n (List.of_mem_zip hy).1).imp id fun q => ⟨q, PySem.W.cellsFrom_some _ _ _ (.inl q)⟩
  refine codeAny_call_function hr.depth (KX _ _ lk) rfl S.co S.gen rfl (PySem.W.codeRec_of KX hcd) (hb _ _ _ _ (wpAny_newFunctionEnv_cells S.kind hkind ?_))
  intro env he s1 x
  subst he
  refine ⟨(e0.mod.nolimit.keeps bk).keeps x.toInCall.keep, codeAny_func ?_⟩
  obtain ⟨t, ht, hq⟩ := hbody cdv A outer s H vs Q E hc (hr.deeper _) hsp
  have I := inv_start (CX := CX) (E := E) S hr.hd e0 (len _ _ _ _ hsp) r x
  refine wpAny_mono (ht.run [] s1 (start N vs) H _ I hq) (fun fl s' hs => ?_) fun _ _ z => z
  match fl, hs with
  | .ret u, ⟨v, σ', H', J, rv, q⟩ => exact ⟨v, H', J.os, J.bare, J.base, J.hok, rv, q⟩
  | .next, ⟨σ', H', J, q⟩ => exact ⟨V.non, H', J.os, J.bare, J.base, J.hok, rfl, q⟩
  | .brk, ⟨_, _, _, q⟩ => exact q.elim
  | .cont, ⟨_, _, _, q⟩ => exact q.elim
end
section
variable {X : Cx} {CX : CXT} {k : Nat} {f : Addr} {fd : FuncData} {ps ks : List Str} {sp : Sp} {dvs : List V} {ds : List Value} {E : XK} {x : Str} {p pos : Pos} {e : Expr} {es : List Expr} {t tk : TA} {kws : List Keyword}
theorem runG {pins : List (Addr × Obj)} {σ : L2.St} {H : Hp} {s : Shared} {Q : VK} {us : List Value} {vs : List V} (F : FnG X.prog X.w X.K X.mg X.base CX k f fd ps sp) (hc : Clean X.A) (hr : Room k X.A)
    (hb : Binds X.K fd ps ds) (hd : Vals dvs ds) (hx : Passes CX X E) (I : Inv X pins σ H s) (r : Vals vs us) (h : sp (vs ++ dvs) H Q E) :
    wpAny (model X.prog X.w) X.A (call (.ref f) us) (EP X pins σ Q) X.xe s := by
  have r2 := r.append hd
  have hl : (us ++ ds).length = ps.length := r2.length ▸ F.len _ _ _ _ h
  refine wpAny_call (codeAny_mono (F.run X.A X.stack s H ⟨us, []⟩ (us ++ ds) (vs ++ dvs) Q E hc hr I.env0 (hb s us I.kIn hl) r2 h) ?_)
  intro r s' hq
  match r, hq with
  | .error e, hq => exact hx pins σ H s e s' I hq
  | .ok (.ret u), hq => exact I.after hq
  | .ok .next, hq => exact False.elim hq
  | .ok .brk, hq => exact False.elim hq
  | .ok .cont, hq => exact False.elim hq
theorem pe_callG (F : FnG X.prog X.w X.K X.mg X.base CX k f fd ps sp) (hc : Clean X.A) (hr : Room k X.A) (hg : Gl X x) (hm : X.mg x = some (.ref f)) (hk : PySem.W.keepIn X.K (.ref f) = true)
    (hb : Binds X.K fd ps ds) (hd : Vals dvs ds) (hx : Passes CX X E) (ha : PA X (e :: es) t) (hdb : (x == ("__debug__" : Str)) = false := by decide)
    (he : starEach (e :: es) X.env = (false, eval e X.env) :: starEach es X.env := by rfl) (hpl : (backTo pos (starEach es X.env)).any (·.1) = false := by rfl) :
    PE X (.Call (.Name x p) (e :: es) [] pos) (tCall sp dvs E t) := by
  refine ⟨fun pins s σ H Q I h => wpAny_Call_Name_kw (ld_glob I hg hm ?_ hdb)⟩
  exact PySem.W.callWith_K (h₀ := X.base) I.ok.mod.kin hk (thn (ha.run pos pins s σ H _ I h) fun us s1 ⟨vs, H1, I1, r, q⟩ => ⟨I1.kIn, runG F hc hr hb hd hx I1 r q⟩) he hpl
end

/-! the end of a law -/
section
variable {P : Program} {w : World} {K : PySem.W.Frag} {mg mb : Str → Option Value} {CX : CXT} {k : Nat} {fa a : Addr} {fd : FuncData} {x : Str} {sp : Sp} {s : Shared} {vs : List Value} {ns : List Int}
/-- the table of modules stands in the fixed part -/
abbrev SysIn (base : Heap) : Prop := ∃ o, base.get? sysModules = some o
abbrev scriptObj (vs : List Value) : Obj := { cls := .type "list", data := .seq vs.toArray }
abbrev Done (s : Shared) (r : Result) (s' : Shared) : Prop := r = .ok (.ret (.bool true)) ∧ OldK s.heap s'.heap ∧ s'.os = s.os ∧ AllBare s'.gens
/-- from a heap in which the script alone may be tracked -/
theorem law_core (KX : K.In s.heap) (hns : s.heap.Ns mainGlobals mg) (hb : s.heap.Ns builtinsNs mb) (hbb : ∀ x : Str, x ≠ "__name__" → mb x = bootBuiltins x) (hlim : s.heap.NoLimit) (hsy : ∃ mm, s.heap.Ns sysModules mm) (hg : s.gens = #[])
    (ha : s.heap.get? a = some (scriptObj vs)) (hr : Room k callerA)
    (F : ∀ base : Heap, K.In base → base.Ns mainGlobals mg → SysIn base → FnG P w K mg base CX k fa fd [x] sp) (hbind : ∀ (s : Shared) (u : Value), BindsTo s fd ⟨[u], []⟩ [(x, u)])
    (H : Hp) (hO : Only H) (hok : HOk P w H s.heap) (hA : ∀ b, H b ≠ none → b = a) (hK : H a ≠ none → K.lookup a = none)
    (hsp : sp [.ref a] H (fun v _ => v = .bl true) fun _ _ _ => False) (hCX : ∀ e s', CX [] H s (fun _ _ _ => False) e s' → False) :
    codeAny (model P w) callerA (.call (.ref fa) ⟨[.ref a], []⟩) (Done s) s := by
  have notA : ∀ {b : Addr}, b ≠ a → H b = none := fun {b} hb => Classical.byContradiction fun q => hb (hA b q)
  have nsA : ∀ {b : Addr} {m : Str → Option Value}, s.heap.Ns b m → (hidT s.heap H).Ns b m := by
    rintro b m ⟨o, es, ep, e, d, r⟩
    have hb : b ≠ a := by
      rintro rfl
      rw [ha] at e
      cases e
      exact nomatch (d : Data.seq vs.toArray _ = Data.dict es ep)
    exact ⟨o, es, ep, hidT_get e (notA hb), d, r⟩
  have inB : K.In (hidT s.heap H) := fun b o e => hidT_get (KX b o e) (Classical.byContradiction fun q => by
    have hb := hA b q
    subst hb
    rw [hK q] at e
    exact nomatch e)
  have md : Mod K mg (hidT s.heap H) := ⟨inB, nsA hns, ⟨mb, nsA hb, hbb⟩, hlim.imp fun _ h => ⟨nsA h.1, h.2⟩⟩
  have e0 : Env0 P w K mg (hidT s.heap H) callerA [] s H :=
    ⟨rfl, md, fun b o e => of_hidT e, Nat.le_of_eq (hidT_size _ _), trivial, fun _ hb => absurd hb List.not_mem_nil, hok, .of_eq hg⟩
  have R := (F _ inB (nsA hns) (let ⟨_, q⟩ := hsy; let ⟨o, _, _, e, _⟩ := nsA q; ⟨o, e⟩)).run callerA [] s H ⟨[.ref a], []⟩ [.ref a] [.ref a] _ _ rfl hr e0 (hbind s (.ref a)) (.cons rfl .nil) hsp
  refine codeAny_mono R fun r s' h => ?_
  match r, h with
  | .error e, h => exact (hCX e s' h).elim
  | .ok .next, h => exact False.elim h
  | .ok .brk, h => exact False.elim h
  | .ok .cont, h => exact False.elim h
  | .ok (.ret u), ⟨v, H', os, bare, un, hok', r', q⟩ =>
    have q' : v = .bl true := q
    subst q'
    cases (show u = Value.bool true from r')
    refine ⟨rfl, OldK.of_keep fun b o e => ?_, os, bare⟩
    rcases hO b with z | ⟨ob, xs, z⟩
    · exact un.keep b o e z List.not_mem_nil (by simp)
    · have e1 := (hok b _ z).1
      have e2 := (hok' b _ (un.frzs b ob _ z)).1
      rw [e] at e1
      cases e1
      exact e2
theorem law_callG (KX : K.In s.heap) (hns : s.heap.Ns mainGlobals mg) (hb : s.heap.Ns builtinsNs mb) (hbb : ∀ x : Str, x ≠ "__name__" → mb x = bootBuiltins x) (hlim : s.heap.NoLimit) (hsy : ∃ mm, s.heap.Ns sysModules mm) (hg : s.gens = #[])
    (ha : s.heap.get? a = some (scriptObj vs)) (hi : IntsAre vs ns) (hl : ns.length ≤ sizeLine) (hr : Room k callerA)
    (F : ∀ base : Heap, K.In base → base.Ns mainGlobals mg → SysIn base → FnG P w K mg base CX k fa fd [x] sp) (hbind : ∀ (s : Shared) (u : Value), BindsTo s fd ⟨[u], []⟩ [(x, u)])
    (hsp : ∀ H : Hp, Only H → SqL K H a (ns.map V.int) → sp [.ref a] H (fun v _ => v = .bl true) fun _ _ _ => False) (hCX : ∀ H e s', CX [] H s (fun _ _ _ => False) e s' → False) :
    codeAny (model P w) callerA (.call (.ref fa) ⟨[.ref a], []⟩) (Done s) s := by
  have rv := vals_ints hi
  have lenV := hi.length
  cases hk : K.lookup a with
  | some o =>
    have e := KX a o hk
    rw [ha] at e
    cases e
    refine law_core KX hns hb hbb hlim hsy hg ha hr F hbind (fun _ => none) (fun _ => .inl rfl) (fun b u z => nomatch (z : (none : Option HO) = some u)) (fun _ z => absurd rfl z) (fun z => absurd rfl z) ?_ (hCX _)
    exact hsp _ (fun _ => .inl rfl) (.inr ⟨_, vs.toArray, _, hk, rfl, rfl, rfl, by rw [List.size_toArray, lenV]; exact hl, by simpa using rv⟩)
  | none =>
    have one : ∀ {b : Addr} {u : HO}, (if b = a then some (HO.frz (scriptObj vs) (.lst (ns.map V.int))) else none) = some u → b = a ∧ u = .frz (scriptObj vs) (.lst (ns.map V.int)) := by
      intro b u z
      by_cases hb : b = a
      · rw [if_pos hb] at z
        exact ⟨hb, (Option.some.inj z).symm⟩
      · rw [if_neg hb] at z
        exact nomatch z
    have only : Only fun b => if b = a then some (HO.frz (scriptObj vs) (.lst (ns.map V.int))) else none := fun b => by
      by_cases hb : b = a
      · exact .inr ⟨_, _, if_pos hb⟩
      · exact .inl (if_neg hb)
    refine law_core KX hns hb hbb hlim hsy hg ha hr F hbind _ only (fun b u z => ?_) (fun b z => ?_) (fun _ => hk) (hsp _ only (.inl (.inr ⟨scriptObj vs, if_pos rfl⟩))) (hCX _)
    · obtain ⟨rfl, rfl⟩ := one z
      exact ⟨ha, by rw [List.length_map]; exact hl, vs, _, rv, ha⟩
    · cases q : (if b = a then some (HO.frz (scriptObj vs) (.lst (ns.map V.int))) else none) with
      | none => exact absurd q z
      | some u => exact (one q).1
theorem walkG {l : PySem.W.OpenLaw} {n k : Nat} {q : Program} {loose : List Str} {XP : (Str → Option Value) → Heap → Prop} {YP : World → Heap → Prop} {d : DefRec} {K : Params → PySem.W.Frag} {CX : World → CXT} {sp : World → Sp} {x : Str}
    (hn : l.most = some n) (hn2 : n ≤ sizeLine) (hdf : d.params.defaults = []) (hr : Room k callerA) (himp : importsNone q = true) (hY : ∀ (w : World) (h : Heap), YP w h → (K w.params).In h)
    (F : ∀ (w : World) (mg : Str → Option Value) (fa : Addr) (h : Heap), (K w.params).In h → h.Ns mainGlobals mg → mg d.name = some (.ref fa) →
      ∃ fd : FuncData, (∀ (s : Shared) (u : Value), BindsTo s fd ⟨[u], []⟩ [(x, u)]) ∧
        ∀ base : Heap, (K w.params).In base → base.Ns mainGlobals mg → SysIn base → FnG l.prog w (K w.params) mg base (CX w) k fa fd [x] (sp w))
    (hsp : ∀ (w : World) (H : Hp) (a : Addr) (ns : List Int), ns.length ≤ n → Only H → SqL (K w.params) H a (ns.map V.int) → sp w [.ref a] H (fun v _ => v = .bl true) fun _ _ _ => False)
    (hCX : ∀ (w : World) (H : Hp) (s : Shared) (e : Value) (s' : Shared), CX w [] H s (fun _ _ _ => False) e s' → False) :
    PySem.W.WalkO q loose XP YP l.row.toRowW d [] (fun f vs => PySem.call f vs) := by
  refine Att.attach_call hn hdf fun w s₀ s₁ mg mb fa o pm cd doc a vs ns G Y ho hd hcd hmg hobj hints hlen hg => ?_
  obtain ⟨fd, hb, hF⟩ := F w mg fa _ (hY w _ Y) G.T.g hmg
  exact law_callG (hY w _ Y) G.T.g G.T.b G.T.builtins G.T.nolimit (let ⟨mm, q, _⟩ := (G.T.seer himp).mods; ⟨mm, q⟩) hg hobj hints (Nat.le_trans hlen hn2) hr hF hb (fun H hO hS => hsp w H a ns hlen hO hS) fun H e s' => hCX w H s₁ e s'
end
end Gd

namespace Gd
open PySem PySem.Spec PyProof.Rows L2
/-! ### data as it stands in the heap, dicts among it -/
def kD : Key → PyData
  | .inl i => .int i
  | .inr x => .str x
mutual
inductive Da (K : PySem.W.Frag) (H : Hp) : V → PyData → Prop
  | non : Da K H .non .none
  | bl (b : Bool) : Da K H (.bl b) (.bool b)
  | int (i : Int) : Da K H (.int i) (.int i)
  | str (x : Str) : Da K H (.str x) (.str x)
  | lst {a : Addr} {xs : List V} {ds : List PyData} : H a = some (.lst xs) → DaL K H xs ds → Da K H (.ref a) (.list ds)
  | tup {a : Addr} {xs : List V} {ds : List PyData} : SqT K H a xs → DaL K H xs ds → Da K H (.ref a) (.tuple ds)
  | dct {a : Addr} {kvs : List (Key × V)} {ds : List PyData} : H a = some (.dK kvs) → DaL K H (kvs.map (·.2)) ds → Da K H (.ref a) (.dict ((kvs.map fun p => kD p.1).zip ds))
inductive DaL (K : PySem.W.Frag) (H : Hp) : List V → List PyData → Prop
  | nil : DaL K H [] []
  | cons {v : V} {vs : List V} {d : PyData} {ds : List PyData} : Da K H v d → DaL K H vs ds → DaL K H (v :: vs) (d :: ds)
end
section
variable {K : PySem.W.Frag} {H H' : Hp}
theorem DaL.length : ∀ {vs : List V} {ds : List PyData}, DaL K H vs ds → ds.length = vs.length
  | _, _, .nil => rfl
  | _, _, .cons _ r => by rw [List.length_cons, List.length_cons, r.length]
theorem sameT {a : Addr} {xs : List V} (e : Same H H') (h : SqT K H a xs) : SqT K H' a xs := by
  rcases h with (h | ⟨o, h⟩) | h
  · exact .inl (.inl (e _ _ h))
  · exact .inl (.inr ⟨o, e _ _ h⟩)
  · exact .inr h
mutual
theorem Da.same (e : Same H H') : ∀ {v : V} {d : PyData}, Da K H v d → Da K H' v d
  | _, _, .non => .non
  | _, _, .bl b => .bl b
  | _, _, .int i => .int i
  | _, _, .str x => .str x
  | _, _, .lst h r => .lst (e _ _ h) (DaL.same e r)
  | _, _, .tup h r => .tup (sameT e h) (DaL.same e r)
  | _, _, .dct h r => .dct (e _ _ h) (DaL.same e r)
theorem DaL.same (e : Same H H') : ∀ {vs : List V} {ds : List PyData}, DaL K H vs ds → DaL K H' vs ds
  | _, _, .nil => .nil
  | _, _, .cons h r => .cons (Da.same e h) (DaL.same e r)
end
theorem DaL.append : ∀ {vs ws : List V} {ds es : List PyData}, DaL K H vs ds → DaL K H ws es → DaL K H (vs ++ ws) (ds ++ es)
  | _, _, _, _, .nil, r => r
  | _, _, _, _, .cons h t, r => .cons h (DaL.append t r)
theorem DaL.strs : ∀ l : List Str, DaL K H (l.map V.str) (l.map PyData.str)
  | [] => .nil
  | x :: l => .cons (.str x) (DaL.strs l)
theorem DaL.ints : ∀ l : List Int, DaL K H (l.map V.int) (l.map PyData.int)
  | [] => .nil
  | x :: l => .cons (.int x) (DaL.ints l)
theorem DaL.bls : ∀ l : List Bool, DaL K H (l.map V.bl) (l.map PyData.bool)
  | [] => .nil
  | x :: l => .cons (.bl x) (DaL.bls l)
end
/-! ### what stands there is read -/
section
variable {X : Cx} {pins : List (Addr × Obj)} {σ : L2.St} {H : Hp} {s : Shared}
abbrev Free (as : List Addr) : Prop := sysModules ∉ as
theorem free_cons {a : Addr} {as : List Addr} (h : a ≠ sysModules) (r : Free as) : Free (a :: as) := fun m =>
  (List.mem_cons.mp m).elim (fun e => h e.symm) r
theorem free_app {as bs : List Addr} (h : Free as) (r : Free bs) : Free (as ++ bs) := fun m => (List.mem_append.mp m).elim h r
theorem notSys (I : Inv X pins σ H s) (hS : SysIn X.base) {a : Addr} {o : HO} (h : H a = some o) : a ≠ sysModules := by
  rintro rfl
  obtain ⟨ob, hb⟩ := hS
  rw [(I.bs _ _ hb).2] at h
  exact nomatch h
theorem key_reads : ∀ (kvs : List (Key × V)) (vs : List (Key × Value)) (es : List DictEntry), KV kvs vs → Pairs (mixKind X.prog X.w) es vs →
    (∃ as, ReadsAll s.heap (es.map (·.key)) (kvs.map fun p => kD p.1) as ∧ Free as) ∧ Vals (kvs.map (·.2)) (es.map (·.val))
  | _, _, _, .nil, .nil => ⟨⟨[], .nil, List.not_mem_nil⟩, .nil⟩
  | _, _, _, .cons ⟨ek, rv⟩ r, .cons hk hv p => by
    obtain ⟨⟨as, h1, h2⟩, h3⟩ := key_reads _ _ _ r p
    refine ⟨?_, .cons (by show RelV _ (DictEntry.val _); rw [hv]; exact rv) h3⟩
    rw [← ek] at hk
    rcases keyIs_shape hk with ⟨i, t, e1, e2⟩ | ⟨y, t, e1, e2⟩
    · refine ⟨[] ++ as, ?_, h2⟩
      refine .cons ?_ h1
      show Reads _ (DictEntry.key _) (kD _) []
      rw [e1, e2]
      exact .int i t
    · refine ⟨[] ++ as, ?_, h2⟩
      refine .cons ?_ h1
      show Reads _ (DictEntry.key _) (kD _) []
      rw [e1, e2]
      exact .str y t
theorem zip_fst : ∀ (ks ds : List PyData), ks.length = ds.length → (ks.zip ds).map (·.1) = ks
  | [], _, _ => rfl
  | _ :: _, [], h => nomatch h
  | k :: ks, d :: ds, h => by
    show k :: (ks.zip ds).map (·.1) = k :: ks
    rw [zip_fst ks ds (Nat.succ.inj h)]
theorem zip_snd : ∀ (ks ds : List PyData), ks.length = ds.length → (ks.zip ds).map (·.2) = ds
  | [], [], _ => rfl
  | [], _ :: _, h => nomatch h
  | _ :: _, [], h => nomatch h
  | k :: ks, d :: ds, h => by
    show d :: (ks.zip ds).map (·.2) = d :: ds
    rw [zip_snd ks ds (Nat.succ.inj h)]
mutual
theorem Da.reads (I : Inv X pins σ H s) (hS : SysIn X.base) : ∀ {v : V} {d : PyData} {u : Value}, Da X.K H v d → RelV v u → ∃ as, Reads s.heap u d as ∧ Free as
  | _, _, _, .non, r => by
    cases r
    exact ⟨_, .none, List.not_mem_nil⟩
  | _, _, _, .bl b, r => by
    cases r
    exact ⟨_, .bool b, List.not_mem_nil⟩
  | _, _, _, .int i, ⟨t, r⟩ => by
    cases r
    exact ⟨_, .int i t, List.not_mem_nil⟩
  | _, _, _, .str x, ⟨t, r⟩ => by
    cases r
    exact ⟨_, .str x t, List.not_mem_nil⟩
  | _, _, _, .lst h q, r => by
    cases r
    obtain ⟨_, its, n, rv, ho⟩ := I.hok _ _ h
    obtain ⟨as, h1, h2⟩ := DaL.reads I hS q rv
    exact ⟨_, .list ho rfl rfl h1, free_cons (notSys I hS h) h2⟩
  | _, _, _, .tup h q, r => by
    cases r
    obtain ⟨its, rv, ⟨o, ho, hc, n, hd⟩, _⟩ := I.tuple h
    obtain ⟨as, h1, h2⟩ := DaL.reads I hS q rv
    exact ⟨_, .tuple ho hc hd h1, h2⟩
  | _, _, _, .dct (kvs := kvs) (ds := ds) h q, r => by
    cases r
    obtain ⟨_, hns, vs, rk, o, es, ep, ho, hex, hd, _, hp, _⟩ := I.hok _ _ h
    obtain ⟨⟨as, k1, k2⟩, rv⟩ := key_reads (s := s) kvs vs es.toList rk hp
    obtain ⟨bs, v1, v2⟩ := DaL.reads I hS q rv
    have hl : (kvs.map fun p => kD p.1).length = ds.length := by
      rw [q.length, List.length_map, List.length_map]
    have k1' : ReadsAll s.heap (es.toList.map (·.key)) (((kvs.map fun p => kD p.1).zip ds).map (·.1)) as := by
      rw [zip_fst _ _ hl]
      exact k1
    have v1' : ReadsAll s.heap (es.toList.map (·.val)) (((kvs.map fun p => kD p.1).zip ds).map (·.2)) bs := by
      rw [zip_snd _ _ hl]
      exact v1
    exact ⟨_, .dict ho hex.1 hd k1' v1', free_app (free_cons (notSys I hS h) k2) v2⟩
theorem DaL.reads (I : Inv X pins σ H s) (hS : SysIn X.base) : ∀ {vs : List V} {ds : List PyData} {us : List Value}, DaL X.K H vs ds → Vals vs us → ∃ as, ReadsAll s.heap us ds as ∧ Free as
  | _, _, _, .nil, .nil => ⟨_, .nil, List.not_mem_nil⟩
  | _, _, _, .cons h q, .cons r rs => by
    obtain ⟨as, h1, h2⟩ := Da.reads I hS h r
    obtain ⟨bs, h3, h4⟩ := DaL.reads I hS q rs
    exact ⟨_, .cons h1 h3, free_app h2 h4⟩
end
end
/-! ### the room that a written form takes -/
mutual
/-- more than its written form has signs -/
def wid : PyData → Nat
  | .none => 4
  | .bool _ => 5
  | .int i => i.natAbs.log2 + 3
  | .str x => 10 * x.length + 2
  | .list xs => widL xs + 2
  | .tuple xs => widL xs + 3
  | .dict kvs => widK kvs + 2
def widL : List PyData → Nat
  | [] => 0
  | x :: xs => wid x + 2 + widL xs
def widK : List (PyData × PyData) → Nat
  | [] => 0
  | (k, v) :: r => wid k + wid v + 4 + widK r
end
mutual
/-- it can be written: the signs of its texts are signs, its numbers are not too great -/
def Ok1 : PyData → Prop
  | .none => True
  | .bool _ => True
  | .int i => i.natAbs.log2 < 1920
  | .str x => ∀ c ∈ x.cps.toList, c < 16 ^ 8
  | .list xs => OkL xs
  | .tuple xs => OkL xs
  | .dict kvs => OkK kvs
def OkL : List PyData → Prop
  | [] => True
  | x :: xs => Ok1 x ∧ OkL xs
def OkK : List (PyData × PyData) → Prop
  | [] => True
  | (k, v) :: r => Ok1 k ∧ Ok1 v ∧ OkK r
end

mutual
theorem ok_show : ∀ d : PyData, Ok1 d → d.showable = true
  | .none, _ => rfl
  | .bool _, _ => rfl
  | .int _, h => decide_eq_true h
  | .str _, _ => rfl
  | .list xs, h => ok_showL xs h
  | .tuple xs, h => ok_showL xs h
  | .dict kvs, h => ok_showK kvs h
theorem ok_showL : ∀ xs : List PyData, OkL xs → PyData.showableAll xs = true
  | [], _ => rfl
  | x :: xs, h => by
    show (PyData.showable x && PyData.showableAll xs) = true
    rw [ok_show x h.1, ok_showL xs h.2]
    rfl
theorem ok_showK : ∀ xs : List (PyData × PyData), OkK xs → PyData.showableKv xs = true
  | [], _ => rfl
  | (k, v) :: xs, h => by
    show (PyData.showable k && PyData.showable v && PyData.showableKv xs) = true
    rw [ok_show k h.1, ok_show v h.2.1, ok_showK xs h.2.2]
    rfl
end
theorem textFrom_le : ∀ (ts : List Str) (k : Nat) (acc : Str), (textFrom k acc ts).length ≤ acc.length + (ts.map fun t => t.length + 2).sum
  | [], _, acc => Nat.le_add_right _ _
  | t :: r, k, acc => by
    have ih := textFrom_le r (k + 1) (acc ++ (if k > 0 then ", " else "" : String) ++ t)
    rw [strLen_append, strLen_append] at ih
    have e : (((if k > 0 then ", " else "" : String) : Str)).length ≤ 2 := by split <;> decide +kernel
    rw [List.map_cons, List.sum_cons]
    show (textFrom (k + 1) (acc ++ (if k > 0 then ", " else "" : String) ++ t) r).length ≤ _
    omega
theorem listText_le (ts : List Str) : (listText ts).length ≤ 2 + (ts.map fun t => t.length + 2).sum := by
  have h := textFrom_le ts 0 "["
  have e1 : (("[" : String) : Str).length = 1 := by decide +kernel
  have e2 : (("]" : String) : Str).length = 1 := by decide +kernel
  unfold listText
  rw [strLen_append]
  omega
theorem piled_map : ∀ ts : List Str, piled ts = (ts.map fun t => t.length + 2).sum
  | [] => rfl
  | t :: r => by
    rw [piled_cons, piled_map r, List.map_cons, List.sum_cons]
theorem join_le (ts : List Str) : (Str.join ", " ts).length ≤ (ts.map fun t => t.length + 2).sum := by
  by_cases h : ts = []
  · subst h
    decide +kernel
  · have := join_length_add ts h
    rw [piled_map] at this
    omega
theorem tupleText_le (ts : List Str) : (tupleText ts).length ≤ 3 + (ts.map fun t => t.length + 2).sum := by
  have e3 : (((if ts.length == 1 then ",)" else ")" : String) : Str)).length ≤ 2 := by split <;> decide +kernel
  have e1 : (("(" : String) : Str).length = 1 := by decide +kernel
  have h := join_le ts
  unfold tupleText
  rw [strLen_append, strLen_append]
  omega
theorem dictText_le (ts : List Str) : (dictText ts).length ≤ 2 + (ts.map fun t => t.length + 2).sum := by
  have e1 : (("{" : String) : Str).length = 1 := by decide +kernel
  have e2 : (("}" : String) : Str).length = 1 := by decide +kernel
  have h := join_le ts
  unfold dictText
  rw [strLen_append, strLen_append]
  omega
mutual
theorem wid_le : ∀ d : PyData, Ok1 d → d.shown.length ≤ wid d
  | .none, _ => by show (("None" : String) : Str).length ≤ 4; decide +kernel
  | .bool b, _ => by cases b <;> (show Str.length _ ≤ 5) <;> decide +kernel
  | .int i, _ => by
    have h := int_text_length_le (a := i) (k := i.natAbs.log2 + 1) (Nat.succ_pos _) (Nat.lt_succ_self _)
    show (Str.ofString (toString i)).length ≤ i.natAbs.log2 + 3
    have e : (Str.ofString (toString i)).length = (toString i).length := PySem.ofString_length _
    omega
  | .str x, h => StrLaws.reprText_len x h
  | .list xs, h => by
    have h1 := widL_le xs h
    have h2 := listText_le (PyData.shownAll xs)
    show (listText (PyData.shownAll xs)).length ≤ widL xs + 2
    omega
  | .tuple xs, h => by
    have h1 := widL_le xs h
    have h2 := tupleText_le (PyData.shownAll xs)
    show (tupleText (PyData.shownAll xs)).length ≤ widL xs + 3
    omega
  | .dict xs, h => by
    have h1 := widK_le xs h
    have h2 := dictText_le (PyData.shownKv xs)
    show (dictText (PyData.shownKv xs)).length ≤ widK xs + 2
    omega
theorem widL_le : ∀ xs : List PyData, OkL xs → ((PyData.shownAll xs).map fun t => t.length + 2).sum ≤ widL xs
  | [], _ => Nat.le_refl _
  | x :: xs, h => by
    have h1 := wid_le x h.1
    have h2 := widL_le xs h.2
    show (x.shown.length + 2) + ((PyData.shownAll xs).map fun t => t.length + 2).sum ≤ wid x + 2 + widL xs
    omega
theorem widK_le : ∀ xs : List (PyData × PyData), OkK xs → ((PyData.shownKv xs).map fun t => t.length + 2).sum ≤ widK xs
  | [], _ => Nat.le_refl _
  | (k, v) :: xs, h => by
    have h1 := wid_le k h.1
    have h2 := wid_le v h.2.1
    have h3 := widK_le xs h.2.2
    have e2 : ((": " : String) : Str).length = 2 := by decide +kernel
    show ((k.shown ++ ": " ++ v.shown).length + 2) + ((PyData.shownKv xs).map fun t => t.length + 2).sum ≤ wid k + wid v + 4 + widK xs
    rw [strLen_append, strLen_append]
    omega
end
/-- repr of data: the text, all else as it stood -/
theorem call_repr {X : Cx} (hc : Clean X.A) (hS : SysIn X.base) (hu : X.A.units + 100 < cLine) : CallR X (.builtin "repr") (fun xs H Q => ∃ x d, xs = [x] ∧ Da X.K H x d ∧ Ok1 d ∧ wid d ≤ sizeLine ∧ d.depth ≤ 64 ∧ Q (.str d.shown) H) := by
  intro pins s σ H xs us Q I r h
  obtain ⟨x, d, rfl, hd, ok, hz, hdp, q⟩ := h
  obtain ⟨u, rfl, ru⟩ := vals1 r
  have hz' : d.shown.length ≤ sizeLine := Nat.le_trans (wid_le d ok) hz
  obtain ⟨as, hr, hf⟩ := Da.reads I hS hd ru
  have fin : ∀ (t tk : Tok) (h' : Heap), (∀ b o, s.heap.get? b = some o → h'.get? b = some o) → EP X pins σ Q (.str d.shown t) { s with heap := h', toks := tk } :=
    fun t tk h' k => ⟨.str d.shown, H, I.kept k, ⟨t, rfl⟩, q⟩
  cases hd with
  | non =>
    cases ru
    exact PySem.P.repr_of_none (fin _ _ s.heap fun _ _ e => e)
  | bl b =>
    cases ru
    exact PySem.P.repr_of_bool (fin _ _ s.heap fun _ _ e => e)
  | int i =>
    obtain ⟨t, rfl⟩ := ru
    exact PySem.P.repr_of_int ok (fin _ _ s.heap fun _ _ e => e)
  | str y =>
    obtain ⟨t, rfl⟩ := ru
    exact PySem.P.repr_of_str (fin _ _ s.heap fun _ _ e => e) hz'
  | lst h1 h2 =>
    cases ru
    exact repr_of_reads' hr (ok_show _ ok) (fun _ => hf) hc (by omega) (fun _ _ e => e) (fun h' u tk k => fin u tk h' k) hz'
  | tup h1 h2 =>
    cases ru
    exact repr_of_reads' hr (ok_show _ ok) (fun _ => hf) hc (by omega) (fun _ _ e => e) (fun h' u tk k => fin u tk h' k) hz'
  | dct h1 h2 =>
    cases ru
    exact repr_of_reads' hr (ok_show _ ok) (fun _ => hf) hc (by omega) (fun _ _ e => e) (fun h' u tk k => fin u tk h' k) hz'
end Gd

namespace PySem
namespace EzValue
open PySem.W PySem.Calls PyProof.Rows PySem.HandSPX
/-! ### the text of __init__ -/
def iA (p1 p2 : Pos) : Arguments := { posonlyargs := [], args := [{ arg := "self", annotation := none, pos := p1 }, { arg := "value", annotation := none, pos := p2 }], vararg := none, kwonlyargs := [], kw_defaults := [], kwarg := none, defaults := [] }
def iB (q1 q2 q3 q4 : Pos) : List Stmt := [.Assign [.Attribute (.Name "self" q1) "value" q2] (.Name "value" q3) q4]
def iS : Scope := { kind := .function, names := [(PySem.Str.ofString "self", .local), (PySem.Str.ofString "value", .local)], isGenerator := false, isCoroutine := false, more := [] }
/-- what the written part says of Low, at C, and of its __init__, at fI -/
structure LowTxt (K : Frag) (mg : Str → Option Value) (nm : Str) (qn : String) (C fI : Addr) : Prop where
  gC : mg nm = some (.ref C)
  cls : ∃ nmC q N bs bm sn sub ab col dd k0 k1 k2 k3 k5, K.lookup C = some (excClassObj nmC q C N bs bm true sn sub ab col dd k0 k1 k2 k3 k5 "ValueError.__new__") ∧ refsVE bm = true
  sa : findIn K (.ref C) "__setattr__" = some (some (.builtin "object.__setattr__"))
  ga : findIn K (.ref C) "__getattribute__" = some (some (.builtin "BaseException.__getattribute__"))
  gg : findIn K (.ref C) "__getattr__" = some none
  noN : findIn K (.ref C) "value" = some none
  iC : findIn K (.ref C) "__init__" = some (some (.ref fI))
  tC : typeIn K (.ref fI) = some (.type "function")
  kC : keepIn K (.ref C) = true
  exC : subIn K (.ref C) (.type "BaseException") = some true
  tyC : typeIn K (.ref C) = some (.type "type")
  hdC : hasDictIn K C = true
  te : exmOne K (.ref C) (.ref C) = some true
  fn : ∃ (oc : Value) (od : Option Addr) (doc pm : Value) (an : Option Addr) (cdv ct : Value) (osl : Array (Option Value)) (p1 p2 q1 q2 q3 q4 : Pos),
    K.lookup fI = some ⟨oc, od, .func (fnOf "__init__" qn (iA p1 p2) (iB q1 q2 q3 q4) iS .none .none doc pm an cdv ct), osl⟩ ∧ codeIn K cdv qn = true
theorem one_size (v : Value) : [v].length ≤ sizeLine := by
  rw [sizeLine_eq]
  exact (by decide : 1 ≤ 16777216)
theorem kept_but {K : Frag} {h h' : Heap} {x : Addr} (X : K.In h) (hx : K.lookup x = none) (k : ∀ b o, b ≠ x → h.get? b = some o → h'.get? b = some o) : K.In h' := fun a o e =>
  k a o (fun z => by rw [z, hx] at e; cases e) (X a o e)
theorem ldC {M : Model} {s : Shared} {name : Str} {scope : Scope} {L a : Addr} {cd : Value} {m : Str → Option Value} {x : Str} {pos : Pos} {v : Value} {Q : Value → Shared → Prop} {A : Around} {E : Value → Shared → Prop} (hn : s.heap.Ns L m) (hv : m x = some v) (h : Q v s)
    (hk : scope.kind = .function := by rfl) (hl : (envOfC name scope L a cd).kindOf x = some .local := by rfl) (hd : (x == ("__debug__" : Str)) = false := by decide) :
    wpAny M A (eval (.Name x pos) (envOfC name scope L a cd)) Q E s := wpAny_Name (wpAny_loadName_local hk hl hn hv h) hd
/-- what __init__ leaves of a fresh exception at x -/
structure InitEnd (h h' : Heap) (x C dx t1 : Addr) (v : Value) : Prop where
  keep : ∀ b o, b ≠ x → h.get? b = some o → h'.get? b = some o
  obj : h'.get? x = some { cls := .ref C, dict := some dx, data := .fields #[.ref t1, .none, .none, .none, .bool false, .none] }
  dbig : h.objs.size ≤ dx
  dne : dx ≠ x
  ns : h'.Ns1 dx (fun y => if y = "value" then some v else none)
/-- a made Low -/
structure OwnMade (h h' : Heap) (e C d : Addr) (v : Value) : Prop where
  keep : ∀ b o, h.get? b = some o → h'.get? b = some o
  new : h.objs.size ≤ e
  obj : ∃ oe vs, h'.get? e = some oe ∧ oe.cls = .ref C ∧ oe.dict = some d ∧ oe.data = .fields vs ∧ vs[1]? = some .none
  dbig : h.objs.size ≤ d
  dne : d ≠ e
  ns : h'.Ns1 d (fun y => if y = "value" then some v else none)
section
variable {prog : Program} {w : World} {A : Around} {E : Value → Shared → Prop} {R : Result → Shared → Prop} {s : Shared} {K : Frag} {mg : Str → Option Value} {nm : Str} {qn : String} {C fI : Addr}
theorem low_init (T : LowTxt K mg nm qn C fI) {x t0 : Addr} {v : Value} (X : K.In s.heap) (hlim : s.heap.NoLimit) (hx : s.heap.get? x = some (excO C t0)) (hnx : K.lookup x = none) (hroom : A.depth < recursionLimit)
    (hq : ∀ h' tk dx, InitEnd s.heap h' x C dx t0 v → R (.ok (.ret .none)) { s with heap := h', toks := tk }) :
    codeAny (model prog w) A (.call (.ref fI) ⟨[.ref x, v], []⟩) R s := by
  obtain ⟨oc, od, doc, pm, an, cdv, ct, osl, p1, p2, q1, q2, q3, q4, ho, hcd⟩ := T.fn
  obtain ⟨nmC, q, N, bs, bm, sn, sub, ab, col, dd, k0, k1, k2, k3, k5, hC, hbm⟩ := T.cls
  have hcl : clsIn K C = some { name := nmC, bases := bs, mro := .ref C :: bm, ns := N, qualname := q, hasDict := true, slotNames := sn, subclasses := sub, abstract := ab, collection := col, hasDel := false } := by unfold clsIn; rw [hC] <;> rfl
  refine Att.call_fn (binds := [("self", .ref x), ("value", v)]) X hlim ho hcd hroom (BindsTo.of_eq (by first | rfl | with_unfolding_all rfl)) (by first | rfl | decide | with_unfolding_all rfl) (fun s₁ IC => ?_) rfl rfl rfl
  obtain ⟨h₁, tk₁, rfl⟩ := IC.toInCall.same
  have k : ∀ b o, s.heap.get? b = some o → h₁.get? b = some o := IC.toInCall.keep
  have hn := IC.toInCall.ns
  have hxL : s.heap.objs.size ≠ x := Nat.ne_of_gt (Heap.lt_size hx)
  have X₁ : K.In h₁ := X.keeps k
  have hx₁ := k _ _ hx
  -- self.by = by
  show wpAny _ _ (execs _ _) _ _ _
  refine wpAny_execs_cons (plainObj_wpAny_Assign_Attribute ?_)
  refine ldC (v := v) hn (by first | rfl | with_unfolding_all rfl | kernel_rfl) (ldC (v := .ref x) hn (by first | rfl | with_unfolding_all rfl | kernel_rfl) ?_)
  refine set_plain X₁ (ox := excO C t0) (od := none) ⟨hx₁, rfl, rfl, trivial⟩ T.sa ?_
  refine exc_osa X₁ hx₁ hcl (show refsVE (.ref C :: bm) = true from hbm) rfl T.noN (fun h₃ tk₃ dx k₃ dn dne hx₃ hn₃ => ?_)
  show wpAny _ _ (execs _ _) _ _ _
  have z : s.heap.objs.size < h₁.objs.size := hn.lt
  exact wpAny_execs_nil (hq h₃ tk₃ dx ⟨fun b o hb e => k₃ b o hb (k b o e), hx₃, Nat.le_of_lt (Nat.lt_of_lt_of_le z dn), dne, hn₃⟩)
theorem low_made (T : LowTxt K mg nm qn C fI) {v : Value} (X : K.In s.heap) (hlim : s.heap.NoLimit) (hroom : A.depth + 1 < recursionLimit)
    (hq : ∀ h' tk e d, OwnMade s.heap h' e C d v → R (.ok (.ret (.ref e))) { s with heap := h', toks := tk }) :
    codeAny (model prog w) A (.call (.ref C) ⟨[v], []⟩) R s := by
  obtain ⟨nmC, q, N, bs, bm, sn, sub, ab, col, dd, k0, k1, k2, k3, k5, hC, hbm⟩ := T.cls
  obtain ⟨hp, g, dr, tk, os⟩ := s
  have k : ∀ b o, hp.get? b = some o → ((hp.push (kdv_tup [v])).push (excO C hp.objs.size)).get? b = some o := fun b o e => Heap.get?_push_of_some _ (Heap.get?_push_of_some _ e)
  have hget : ((hp.push (kdv_tup [v])).push (excO C hp.objs.size)).get? (hp.objs.size + 1) = some (excO C hp.objs.size) := by heap_get
  have hnx : K.lookup (hp.objs.size + 1) = none := by
    cases e : K.lookup (hp.objs.size + 1) with
    | none => rfl
    | some o =>
      have z : hp.get? (hp.objs.size + 1) = some o := X _ _ e
      exact absurd (Nat.lt_of_succ_lt (Heap.lt_size z)) (Nat.lt_irrefl _)
  refine call_own F.excBase_ValueError (fun X => refsVE_contains X bm hbm) (X _ _ hC) (looks_findIn X T.iC) (fun self => bind_fn X self T.tC) (one_size v) ?_
  refine low_init (s := ⟨(hp.push (kdv_tup [v])).push (excO C hp.objs.size), g, dr, tk, os⟩) T (X.keeps k) (hlim.keeps k) hget hnx ?_ fun h' tk' dx ⟨k', hx, dn, dne, hns⟩ => ?_
  · show A.depth + 1 < recursionLimit
    exact hroom
  · have old : ∀ b o, hp.get? b = some o → h'.get? b = some o := fun b o e => k' b o (Nat.ne_of_lt (Nat.lt_succ_of_lt (Heap.lt_size e))) (k b o e)
    have z : hp.objs.size + 1 + 1 ≤ dx := by
      first
        | (simpa only [Heap.size_push] using dn)
        | exact dn
        | (have q := dn; rw [Heap.size_push, Heap.size_push] at q; exact q)
    exact ⟨rfl, hq h' tk' (hp.objs.size + 1) dx ⟨old, Nat.le_succ _, ⟨_, _, hx, rfl, rfl, rfl, rfl⟩, Nat.le_trans (Nat.le_trans (Nat.le_succ _) (Nat.le_succ _)) z, dne, hns⟩⟩
end
end EzValue
end PySem
namespace L2
open PySem PySem.Spec PyProof.Rows
theorem relO_value {v : V} {v' : Value} (r : RelV v v') (f : Str) : RelO (List.lookup f [(("value" : Str), v)]) (if f = "value" then some v' else none) := by
  by_cases hw : f = "value"
  · subst hw
    rw [if_pos rfl]
    have q : List.lookup ("value" : Str) [(("value" : Str), v)] = some v := by simp [List.lookup]
    rw [q]
    exact r
  · rw [if_neg hw]
    have qw : (f == ("value" : Str)) = false := by simpa using hw
    have q2 : List.lookup f [(("value" : Str), v)] = none := by simp [List.lookup, qw]
    rw [q2]
    trivial
section
variable {X : Cx} {nm : Str} {qn : String} {C fI : Addr}
/-- Low(e) -/
def tMk_value (C : Addr) (ta : TA) : L2.St → Hp → XK → Prop := fun σ H Q => ta σ H fun vs H1 => ∃ v, vs = [v] ∧ ∀ d, H1 d = none → Q (.ref C) (some d) (upd H1 d (.xd [(("value" : Str), v)]))
theorem pmk_value {a : Expr} {ta : TA} {p pos : Pos} {k : Nat} (T : PySem.EzValue.LowTxt X.K X.mg nm qn C fI) (hr : Room k X.A) (ha : PA X [a] ta) (hg : Gl X nm := by rfl) (hdb : (nm == ("__debug__" : Str)) = false := by decide)
    (he : starEach (a :: []) X.env = (false, eval a X.env) :: starEach [] X.env := by rfl) (hpl : (backTo pos (starEach [] X.env)).any (·.1) = false := by rfl) :
    PMk X (.Call (.Name nm p) [a] [] pos) (tMk_value C ta) := by
  intro pins s σ H Q I h
  refine wpAny_Call_Name_kw (ld_glob I hg T.gC ?_ hdb)
  refine PySem.W.callWith_K (h₀ := X.base) I.ok.mod.kin T.kC (thn (ha.run pos pins s σ H _ I h) fun us s1 hh => ?_) he hpl
  obtain ⟨vs, H1, I1, r1, v, ev, q1⟩ := hh
  subst ev
  refine ⟨I1.kIn, ?_⟩
  cases r1 with
  | cons rv rn =>
    rename_i v' us'
    cases rn
    show wpAny _ _ (call (.ref C) [v']) _ _ _
    have hlim := I1.nolimit
    obtain ⟨hp, g, dr, tk, os⟩ := s1
    refine wpAny_call (PySem.EzValue.low_made T I1.kIn hlim (by have := hr.dp; omega) fun h' tk' e d M => ?_)
    show MkP X pins σ Q (.ref e) ⟨h', g, dr, tk', os⟩
    obtain ⟨oe, fv, hoe, hc, hd, hdat, h1⟩ := M.obj
    have hns := M.ns
    obtain ⟨G', g1, g2⟩ := restrict h' fun b => decide (b ≠ e)
    have gk : ∀ b, b ≠ e → G'.get? b = h'.get? b := fun b hb => g1 b (decide_eq_true hb)
    have ge : G'.get? e = none := g2 e (by simp)
    have old : ∀ b o, hp.get? b = some o → G'.get? b = some o := fun b o q => (gk b (Nat.ne_of_lt (Nat.lt_of_lt_of_le (Heap.lt_size q) M.new))).trans (M.keep b o q)
    have ob : ObjOk X.prog X.w (upd H1 d (.xd [(("value" : Str), v)])) G' d (.xd [(("value" : Str), v)]) :=
      ⟨_, hns.at (fun o q => (gk d M.dne).trans q), fun f => relO_value rv f⟩
    have J : Inv X pins σ (upd H1 d (.xd [(("value" : Str), v)])) ⟨G', g, dr, tk', os⟩ := I1.laid (t' := tk') old M.dbig ob
    refine ⟨e, oe, fv, ⟨G', g, dr, tk', os⟩, _, .ref C, some d, rfl, J, fun b o q => ?_, ge, hoe, ⟨hc, hd⟩, hdat, h1, ?_, rfl, I1.bare, raises_own T.exC T.tyC, q1 d (I1.hok.fresh M.dbig)⟩
    · by_cases hb : b = e
      · have q' : G'.get? b = some o := q
        rw [hb, ge] at q'; cases q'
      · exact (gk b hb).symm.trans q
    · rw [upd_ne (Ne.symm M.dne)]
      exact I1.hok.fresh M.new
/-- raise Low(e) -/
def tRaise_value (C : Addr) (W : WX) (ta : TA) : TS := fun _ σ H => tMk_value C ta σ H fun cls d H' => W cls d σ H'
theorem ps_raise_value {a : Expr} {ta : TA} {W : WX} {p pos pos2 : Pos} {k : Nat} (hc : X.calm = true) (T : PySem.EzValue.LowTxt X.K X.mg nm qn C fI) (hr : Room k X.A) (tk : Takes X W) (ha : PA X [a] ta) (hg : Gl X nm := by rfl) (hdb : (nm == ("__debug__" : Str)) = false := by decide)
    (he : starEach (a :: []) X.env = (false, eval a X.env) :: starEach [] X.env := by rfl) (hpl : (backTo pos (starEach [] X.env)).any (·.1) = false := by rfl) :
    PS X (.Raise (some (.Call (.Name nm p) [a] [] pos)) none pos2) (tRaise_value C W ta) := ps_raise hc tk (pmk_value T hr ha hg hdb he hpl)
/-- low.by, low the exception that the suite holds (at a; its class cls, its dict d) -/
def tBy_value (C : Addr) (a : Addr) (cls : Value) (d : Option Addr) (te : TE) : TE := fun σ H Q => te σ H fun x H1 => x = .ref a ∧ cls = .ref C ∧ ∃ (dd : Addr) (v : V), d = some dd ∧ H1 dd = some (.xd [(("value" : Str), v)]) ∧ Q v H1
theorem pe_by_value {a : Addr} {oe : Obj} {cls : Value} {d : Option Addr} {pn : List (Addr × Obj)} {e : Expr} {te : TE} {pos : Pos} (T : PySem.EzValue.LowTxt X.K X.mg nm qn C fI) (hz : Zc cls d oe) (hf : ∃ vs, oe.data = .fields vs) (he : PE (X.suite a ((a, oe) :: pn)) e te)
    (hb : attributeBase e "value" X.env (eval e X.env) = eval e X.env := by rfl) :
    PE (X.suite a ((a, oe) :: pn)) (.Attribute e "value" pos) (tBy_value C a cls d te) := by
  refine ⟨fun pins s σ H Q I h => ?_⟩
  refine attr_of hb (thn (he.run pins s σ H _ I h) fun u s1 hh => ?_)
  obtain ⟨x, H1, I1, rx, ex, ec, dd, v, ed, ea, q⟩ := hh
  subst ex
  obtain rfl : u = Value.ref a := rx
  subst ec
  subst ed
  obtain ⟨ha, _⟩ := I1.pin (a, oe) (List.mem_append_left _ List.mem_cons_self)
  obtain ⟨vs, hd⟩ := hf
  have hx : ObjOk X.prog X.w H1 s1.heap dd (.xd [(("value" : Str), v)]) := I1.hok dd _ ea
  obtain ⟨mA, hns, hr⟩ := hx
  obtain ⟨od, ho, hl⟩ := lookIn_ns hns
  have l : List.lookup ("value" : Str) [(("value" : Str), v)] = some v := by simp [List.lookup]
  obtain ⟨u, hu, ru⟩ := RelO.some_of (v := v) (o := mA "value") (by rw [← l]; exact hr "value")
  have J : PySem.W.InstAt s1.heap a oe C (some od) := ⟨ha, hz.1, by unfold PySem.W.notCls; rw [hd] <;> rfl, by rw [hz.2]; exact ho⟩
  exact HandSPX.exc_get I1.kIn J T.ga T.gg T.exC (PySem.W.findObj_own T.hdC T.noN rfl (by rw [hl, hu])) (handed_of ru) ⟨v, H1, I1.tok _, ru, q⟩
end
end L2


namespace Gd
open PySem PySem.Spec PyProof.Rows L2
/-- an except clause: its class, the slot of its name, what its suite reads -/
structure Cl where
  c : Value
  i : Option Nat
  ts : Addr → Value → Option Addr → TS
/-- behind the suite of a clause with a name the name is gone -/
def gone (D : Ends) (i : Nat) : Ends :=
  { nx := fun σ H => D.nx (σ.set i none) H, rt := D.rt, bk := fun σ H => D.bk (σ.set i none) H, ct := fun σ H => D.ct (σ.set i none) H }
/-- what the suite of a clause is asked -/
def atCl (q : Cl) (D : Ends) (a : Addr) (cls : Value) (d : Option Addr) (σ : L2.St) (H : Hp) : Prop :=
  match q.i with
  | some i => q.ts a cls d (gone D i) (σ.set i (some (.ref a))) H
  | none => q.ts a cls d D σ H
/-- what the clauses wish of an exception; where none of the told ones takes it, that can't be -/
def wCl (K : PySem.W.Frag) (D : Ends) : List Cl → WX
  | [] => fun _ _ _ _ => False
  | q :: r => fun cls d σ H => ∃ b, PySem.W.exmOne K cls q.c = some b ∧ (b = true → ∀ a, H a = none → atCl q D a cls d σ H) ∧ (b = false → wCl K D r cls d σ H)
inductive HdG (X : Cx) : List ExceptHandler → List Cl → Prop
  | stop (hds : List ExceptHandler) : HdG X hds []
  | as {x n : Str} {i : Nat} {c : Value} {ts : Addr → Value → Option Addr → TS} {b₀ : Stmt} {suite : List Stmt} {np ps : Pos} {hds : List ExceptHandler} {l : List Cl} (hi : X.N[i]? = some n) (hl : X.env.kindOf n = some .local) (hc : Names X x c)
      (hsu : ∀ (a : Addr) (oe : Obj) (cls : Value) (d : Option Addr) (pn : List (Addr × Obj)), Zc cls d oe → (∃ vs, oe.data = .fields vs) → PSs (X.suite a ((a, oe) :: pn)) (b₀ :: suite) (ts a cls d)) (r : HdG X hds l) :
      HdG X (.ExceptHandler (some (.Name x np)) (some n) (b₀ :: suite) ps :: hds) (⟨c, some i, ts⟩ :: l)
  | bare {x : Str} {c : Value} {ts : Addr → Value → Option Addr → TS} {b₀ : Stmt} {suite : List Stmt} {np ps : Pos} {hds : List ExceptHandler} {l : List Cl} (hc : Names X x c)
      (hsu : ∀ (a : Addr) (oe : Obj) (cls : Value) (d : Option Addr) (pn : List (Addr × Obj)), Zc cls d oe → (∃ vs, oe.data = .fields vs) → PSs (X.suite a ((a, oe) :: pn)) (b₀ :: suite) (ts a cls d)) (r : HdG X hds l) :
      HdG X (.ExceptHandler (some (.Name x np)) none (b₀ :: suite) ps :: hds) (⟨c, none, ts⟩ :: l)
section
variable {X : Cx} {body : List Stmt} {h₀ : ExceptHandler} {hds : List ExceptHandler} {l : List Cl} {pos : Pos} {tb : WX → TS}
theorem ps_tryG (hs : X.stack = X.env :: X.outer) (hf : X.env.frame = some X.env.locals) (hN : X.N.Nodup)
    (hb : ∀ (W : WX) (pn : List (Addr × Obj)) (xe : Value → Shared → Prop), Takes (X.tr pn xe) W → PassesOwn (model X.prog X.w) X.A X.env xe → PSs (X.tr pn xe) body (tb W))
    (hh : HdG X (h₀ :: hds) l) : PS X (.Try body (h₀ :: hds) [] [] pos) (fun D σ H => tb (wCl X.K D l) D σ H) := by
  refine ⟨fun pins s σ H D I h => ?_⟩
  have ok := I.ok
  have hfr : X.A.frames = some (X.env :: X.outer) := ok.frames.trans (congrArg some hs)
  refine wpAny_Try_except (wpAny_mono ((hb (wCl X.K D l) (X.pn ++ pins) _ ?caught PassesOwn.looking).run [] s σ H D (I.toTry _) h) ?norm fun _ _ z => z)
  case norm =>
    intro f s1 hsp
    match f, hsp with
    | .next, ⟨σ', H', J, q⟩ => exact wpAny_execs_nil ⟨σ', H', J.ofTry ok, q⟩
    | .brk, ⟨σ', H', J, q⟩ => exact ⟨σ', H', J.ofTry ok, q⟩
    | .cont, ⟨σ', H', J, q⟩ => exact ⟨σ', H', J.ofTry ok, q⟩
    | .ret u, ⟨v, σ', H', J, r, q⟩ => exact ⟨v, σ', H', J.ofTry ok, r, q⟩
  case caught =>
    intro u s' xx
    obtain ⟨a, B, sI, pins', σ', H', cls, d, rfl, J', nb, up, sky, na, os, ag, w⟩ := xx
    have J : Inv X pins σ' H' sI := J'.ofTry ok
    rw [show (X.tr (X.pn ++ pins) _).stack = X.env :: X.outer from hs] at sky
    show wpAny _ X.A (noteFrame (.ref a) X.env) _ _ _
    refine Sky.land Zc.steady hfr hf sky fun h3 fl3 up3 => ?_
    have J3 : Inv X pins σ' H' { s' with heap := h3 } := J.landed nb fl3.1 (up.trans up3) os ag
    obtain ⟨oe3, vs3, he3, hz3, hd3⟩ := fl3.there
    have nfr : a ∉ frs (X.env :: X.outer) := fun hm => by
      obtain ⟨_, o, e, hn⟩ := fl3.2.2.1.mem hm
      rw [he3] at e
      cases e
      exact hn _ hd3
    have nL : a ≠ X.env.locals := fun z => nfr (List.mem_filterMap.mpr ⟨X.env, List.mem_cons_self, by rw [hf, z]⟩)
    have nF : a ∉ X.fs := fun hm => nfr (let ⟨e, he, q⟩ := List.mem_filterMap.mp hm; List.mem_filterMap.mpr ⟨e, List.mem_cons_of_mem _ he, q⟩)
    have S3 := J3.suite he3 hd3 na nL nF
    have LT : PySem.W.Looks (model X.prog X.w) h3 (typeOf (.ref a)) cls := fun A Q E s k q => wpAny_typeOf_ref (k _ _ he3) (by rw [hz3.1]; exact q)
    have test : ∀ {x : Str} {c : Value} {np : Pos} {Q E : Value → Shared → Prop}, Names X x c → Q c { s' with heap := h3 } → wpAny (model X.prog X.w) (X.A.mark (some (.ref a))) (eval (.Name x np) X.env) Q E { s' with heap := h3 } := by
      rintro x c np Q E ⟨hg, hdb, hm | ⟨hm, hv, hn⟩⟩ q
      · exact ld_glob (X := X.suite a ((a, oe3) :: (X.pn ++ pins))) S3 hg hm q hdb
      · exact ld_blt (X := X.suite a ((a, oe3) :: (X.pn ++ pins))) S3 hg hm hv q hn hdb
    suffices go : ∀ {hs : List ExceptHandler} {cl : List Cl}, HdG X hs cl → wCl X.K D cl cls d σ' H' → wpAny (model X.prog X.w) X.A (handleBy (.ref a) X.env hs) (SP X pins D) X.xe { s' with heap := h3 } from go hh w
    intro hs' cl k
    induction k with
    | stop => exact fun w => w.elim
    | @as x n i c ts b₀ suite np ps hds l hi hl hc hsu r ih =>
      rintro ⟨b, hb1, yes, no⟩
      have hb2 := PySem.W.exm_one (M := model X.prog X.w) J3.kIn LT hb1
      refine wpAny_handleBy_cons (codeAny_handlers_test (test hc (hb2.here ?_))) (fun q => nomatch q)
      cases b with
      | false => exact ih (no rfl)
      | true =>
        refine codeAny_handlers_suite_as (HandSPX.lands_againZ fl3 fun h4 fl4 up4 => ?_)
        have J4 : Inv X pins σ' H' { s' with heap := h4 } := J.landed nb fl4.1 ((up.trans up3).trans up4) os ag
        obtain ⟨oe4, vs4, he4, hz4, hd4⟩ := fl4.there
        refine store_ok (X := X.suite a ((a, oe4) :: (X.pn ++ pins))) (v := .ref a) (J4.suite he4 hd4 na nL nF) hN hi (.inl hl) rfl (fun s5 S5 => ?_) (.inr hl)
        refine wpAny_mono ((hsu a oe4 cls d (X.pn ++ pins) hz4 ⟨_, hd4⟩).run [] s5 _ H' (gone D i) S5 (yes rfl a na)) (fun f s6 hsp => ?_) fun _ _ z => z.elim
        have fin : ∀ {σ6 : L2.St} {H6 : Hp} {Q : Shared → Prop}, Inv (X.suite a ((a, oe4) :: (X.pn ++ pins))) [] σ6 H6 s6 → (∀ s7, Inv X pins (σ6.set i none) H6 s7 → Q s7) →
          wpAny (model X.prog X.w) X.A (do bindName X.env n .none; unbindBehindTheSuite X.env n ps) (fun _ s7 => Q s7) X.xe s6 := fun S6 hq => gone_ok (S6.unsuite ok) hN hi hl hq
        match f, hsp with
        | .next, ⟨σ6, H6, S6, q6⟩ => exact fin S6 fun s7 J7 => ⟨_, _, J7, q6⟩
        | .brk, ⟨σ6, H6, S6, q6⟩ => exact fin S6 fun s7 J7 => ⟨_, _, J7, q6⟩
        | .cont, ⟨σ6, H6, S6, q6⟩ => exact fin S6 fun s7 J7 => ⟨_, _, J7, q6⟩
        | .ret u, ⟨v6, σ6, H6, S6, r6, q6⟩ => exact fin S6 fun s7 J7 => ⟨_, _, _, J7, r6, q6⟩
    | @bare x c ts b₀ suite np ps hds l hc hsu r ih =>
      rintro ⟨b, hb1, yes, no⟩
      have hb2 := PySem.W.exm_one (M := model X.prog X.w) J3.kIn LT hb1
      refine wpAny_handleBy_cons (codeAny_handlers_test (test hc (hb2.here ?_))) (fun q => nomatch q)
      cases b with
      | false => exact ih (no rfl)
      | true =>
        refine codeAny_handlers_suite (HandSPX.lands_againZ fl3 fun h4 fl4 up4 => ?_)
        have J4 : Inv X pins σ' H' { s' with heap := h4 } := J.landed nb fl4.1 ((up.trans up3).trans up4) os ag
        obtain ⟨oe4, vs4, he4, hz4, hd4⟩ := fl4.there
        refine wpAny_mono ((hsu a oe4 cls d (X.pn ++ pins) hz4 ⟨_, hd4⟩).run [] _ _ H' D (J4.suite he4 hd4 na nL nF) (yes rfl a na)) (fun f s6 hsp => ?_) fun _ _ z => z.elim
        match f, hsp with
        | .next, ⟨σ6, H6, S6, q6⟩ => exact ⟨_, _, S6.unsuite ok, q6⟩
        | .brk, ⟨σ6, H6, S6, q6⟩ => exact ⟨_, _, S6.unsuite ok, q6⟩
        | .cont, ⟨σ6, H6, S6, q6⟩ => exact ⟨_, _, S6.unsuite ok, q6⟩
        | .ret u, ⟨v6, σ6, H6, S6, r6, q6⟩ => exact ⟨_, _, _, S6.unsuite ok, r6, q6⟩
end
end Gd

namespace Gd
open PySem PySem.Spec PyProof.Rows L2
/-- a call of a def: the written arguments, then the defaults; what may be let out, at the slots -/
def tCallG (sp : Sp) (dvs : List V) (E : L2.St → XK) (t : TA) : TE := fun σ H Q => t σ H fun vs H1 => sp (vs ++ dvs) H1 Q (E σ)
/-- .. with keywords -/
def tCallH (n m : Nat) (sp : Sp) (gV : List V → List V → List V) (E : L2.St → XK) (t tk : TA) : TE := fun σ H Q => t σ H fun vs H1 => tk σ H1 fun zs H2 => vs.length = n ∧ zs.length = m ∧ sp (gV vs zs) H2 Q (E σ)
section
variable {X : Cx} {CX : CXT} {k n : Nat} {f : Addr} {fd : FuncData} {ps ks : List Str} {sp : Sp} {dvs : List V} {ds : List Value} {E : L2.St → XK} {x : Str} {p pos : Pos} {e : Expr} {es : List Expr} {t tk : TA} {kws : List Keyword}
  {g : List Value → List Value → List Value} {gV : List V → List V → List V}
theorem passN {σ : L2.St} : PassesAt CX0 X σ E0 := fun _ _ _ _ _ _ h => h.elim
theorem passM {σ : L2.St} : PassesAt (L2.CX X.prog X.w) X σ E0 := fun _ _ _ _ _ _ h => by
  obtain ⟨_, _, _, _, _, _, _, _, _, _, _, _, z⟩ := h
  exact z.elim
theorem endC {pins : List (Addr × Obj)} {σ : L2.St} {H : Hp} {s s' : Shared} {Q : VK} {E1 : XK} {r : Result} (hx : PassesAt CX X σ E1) (I : Inv X pins σ H s) (hq : CR CX X.stack X.prog X.w H s Q E1 r s') :
    match (motive := Result → Prop) r with
    | .ok (.ret v) => EP X pins σ Q v s'
    | .ok _ => False
    | .error e => X.xe e s' := by
  match r, hq with
  | .error e, hq => exact hx pins H s e s' I hq
  | .ok (.ret u), hq => exact I.after hq
  | .ok .next, hq => exact False.elim hq
  | .ok .brk, hq => exact False.elim hq
  | .ok .cont, hq => exact False.elim hq
theorem runC {pins : List (Addr × Obj)} {σ : L2.St} {H : Hp} {s : Shared} {Q : VK} {us : List Value} {vs : List V} (F : FnG X.prog X.w X.K X.mg X.base CX k f fd ps sp) (hc : Clean X.A) (hr : Room k X.A)
    (hb : Binds X.K fd ps ds) (hd : Vals dvs ds) (hx : PassesAt CX X σ (E σ)) (I : Inv X pins σ H s) (r : Vals vs us) (h : sp (vs ++ dvs) H Q (E σ)) :
    wpAny (model X.prog X.w) X.A (call (.ref f) us) (EP X pins σ Q) X.xe s := by
  have r2 := r.append hd
  have hl : (us ++ ds).length = ps.length := r2.length ▸ F.len _ _ _ _ h
  refine wpAny_call (codeAny_mono (F.run X.A X.stack s H ⟨us, []⟩ (us ++ ds) (vs ++ dvs) Q (E σ) hc hr I.env0 (hb s us I.kIn hl) r2 h) ?_)
  intro r s' hq
  have z := endC hx I hq
  match r, z with
  | .error e, z => exact z
  | .ok (.ret u), z => exact z
  | .ok .next, z => exact False.elim z
  | .ok .brk, z => exact False.elim z
  | .ok .cont, z => exact False.elim z
theorem runH {pins : List (Addr × Obj)} {σ : L2.St} {H : Hp} {s : Shared} {Q : VK} {us ws : List Value} {vs zs : List V} (F : FnG X.prog X.w X.K X.mg X.base CX k f fd ps sp) (hc : Clean X.A) (hr : Room k X.A)
    (hb : KBn X.K fd ps n ks g gV) (hx : PassesAt CX X σ (E σ)) (I : Inv X pins σ H s) (r : Vals vs us) (rz : Vals zs ws) (l1 : vs.length = n) (l2 : zs.length = ks.length) (h : sp (gV vs zs) H Q (E σ)) :
    wpAny (model X.prog X.w) X.A (call (.ref f) us (ks.zip ws)) (EP X pins σ Q) X.xe s := by
  refine wpAny_call (codeAny_mono (F.run X.A X.stack s H ⟨us, ks.zip ws⟩ (g us ws) (gV vs zs) Q (E σ) hc hr I.env0 (hb.to s us ws I.kIn (r.length.symm.trans l1) (rz.length.symm.trans l2)) (hb.rel r rz) h) ?_)
  intro r s' hq
  have z := endC hx I hq
  match r, z with
  | .error e, z => exact z
  | .ok (.ret u), z => exact z
  | .ok .next, z => exact False.elim z
  | .ok .brk, z => exact False.elim z
  | .ok .cont, z => exact False.elim z
/-- f(e, ..) -/
theorem pe_c (F : FnG X.prog X.w X.K X.mg X.base CX k f fd ps sp) (hc : Clean X.A) (hr : Room k X.A) (hg : Gl X x) (hm : X.mg x = some (.ref f)) (hk : PySem.W.keepIn X.K (.ref f) = true)
    (hb : Binds X.K fd ps ds) (hd : Vals dvs ds) (hx : ∀ σ, PassesAt CX X σ (E σ)) (ha : PA X (e :: es) t) (hdb : (x == ("__debug__" : Str)) = false := by decide)
    (he : starEach (e :: es) X.env = (false, eval e X.env) :: starEach es X.env := by rfl) (hpl : (backTo pos (starEach es X.env)).any (·.1) = false := by rfl) :
    PE X (.Call (.Name x p) (e :: es) [] pos) (tCallG sp dvs E t) := by
  refine ⟨fun pins s σ H Q I h => wpAny_Call_Name_kw (ld_glob I hg hm ?_ hdb)⟩
  exact PySem.W.callWith_K (h₀ := X.base) I.ok.mod.kin hk (thn (ha.run pos pins s σ H _ I h) fun us s1 ⟨vs, H1, I1, r, q⟩ => ⟨I1.kIn, runC F hc hr hb hd (hx σ) I1 r q⟩) he hpl
/-- f() -/
theorem pe_c0 (F : FnG X.prog X.w X.K X.mg X.base CX k f fd ps sp) (hc : Clean X.A) (hr : Room k X.A) (hg : Gl X x) (hm : X.mg x = some (.ref f)) (hk : PySem.W.keepIn X.K (.ref f) = true)
    (hb : Binds X.K fd ps ds) (hd : Vals dvs ds) (hx : ∀ σ, PassesAt CX X σ (E σ)) (hdb : (x == ("__debug__" : Str)) = false := by decide) :
    PE X (.Call (.Name x p) [] [] pos) (tCallG sp dvs E tNil) := by
  refine ⟨fun pins s σ H Q I h => wpAny_Call_Name_kw (ld_glob I hg hm ?_ hdb)⟩
  exact PySem.W.callWith_K0 I.kIn hk (runC (us := []) F hc hr hb hd (hx σ) I .nil h)
/-- f(e, .., k = v, ..) -/
theorem pe_h (F : FnG X.prog X.w X.K X.mg X.base CX k f fd ps sp) (hc : Clean X.A) (hr : Room k X.A) (hg : Gl X x) (hm : X.mg x = some (.ref f)) (hk : PySem.W.keepIn X.K (.ref f) = true)
    (hb : KBn X.K fd ps n ks g gV) (hx : ∀ σ, PassesAt CX X σ (E σ)) (ha : PA X (e :: es) t) (hkw : PK X kws tk)
    (hall : (backToKw pos (keywordEach kws X.env)).all (·.1.isSome) = true := by rfl) (hks : (backToKw pos (keywordEach kws X.env)).filterMap (·.1) = ks := by rfl) (hdb : (x == ("__debug__" : Str)) = false := by decide)
    (he : starEach (e :: es) X.env = (false, eval e X.env) :: starEach es X.env := by rfl)
    (hpl : ((backTo pos (starEach (e :: es) X.env)).any (·.1) || (backToKw pos (keywordEach kws X.env)).any (·.1.isNone)) = false := by rfl) :
    PE X (.Call (.Name x p) (e :: es) kws pos) (tCallH n ks.length sp gV E t tk) := by
  refine ⟨fun pins s σ H Q I h => wpAny_Call_Name_kw (ld_glob I hg hm ?_ hdb)⟩
  refine PySem.W.callWith_KW (h₀ := X.base) I.ok.mod.kin hk hall (thn (ha.run pos pins s σ H _ I h) fun us s1 ⟨vs, H1, I1, r, q⟩ => ?_) hpl he
  refine thn (hkw.run pos pins s1 σ H1 _ I1 q) fun ws s2 ⟨zs, H2, I2, rz, l1, l2, q2⟩ => ⟨I2.kIn, ?_⟩
  rw [hks]
  exact runH F hc hr hb (hx σ) I2 r rz l1 l2 q2
/-- f(k = v, ..) -/
theorem pe_h0 (F : FnG X.prog X.w X.K X.mg X.base CX k f fd ps sp) (hc : Clean X.A) (hr : Room k X.A) (hg : Gl X x) (hm : X.mg x = some (.ref f)) (hk : PySem.W.keepIn X.K (.ref f) = true)
    (hb : KBn X.K fd ps 0 ks g gV) (hx : ∀ σ, PassesAt CX X σ (E σ)) (hkw : PK X kws tk)
    (hall : (backToKw pos (keywordEach kws X.env)).all (·.1.isSome) = true := by rfl) (hks : (backToKw pos (keywordEach kws X.env)).filterMap (·.1) = ks := by rfl) (hdb : (x == ("__debug__" : Str)) = false := by decide)
    (hpl : ((backTo pos (starEach [] X.env)).any (·.1) || (backToKw pos (keywordEach kws X.env)).any (·.1.isNone)) = false := by rfl) :
    PE X (.Call (.Name x p) [] kws pos) (tCallH 0 ks.length sp gV E tNil tk) := by
  refine ⟨fun pins s σ H Q I h => wpAny_Call_Name_kw (ld_glob I hg hm ?_ hdb)⟩
  refine PySem.W.callWith_KW0 (h₀ := X.base) I.ok.mod.kin hk hall (thn (hkw.run pos pins s σ H _ I h) fun ws s2 ⟨zs, H2, I2, rz, l1, l2, q2⟩ => ⟨I2.kIn, ?_⟩) hpl
  rw [hks]
  exact runH (us := []) F hc hr hb (hx σ) I2 .nil rz l1 l2 q2
end
end Gd

namespace Gd
open PySem PySem.Spec PyProof.Rows L2
/-! ### a def as its callers see it -/
structure Df (P : Program) (w : World) (K : PySem.W.Frag) (mg : Str → Option Value) (base : Heap) (CX : CXT) (k : Nat) (x : Str) (f : Addr) (fd : FuncData) (ps : List Str) (sp : Sp) : Prop where
  G : FnG P w K mg base CX k f fd ps sp
  m : mg x = some (.ref f)
  kp : PySem.W.keepIn K (.ref f) = true
  b : Binds K fd ps []
theorem room100 {k : Nat} {A : Around} (r : Room k A) : A.units + 100 < cLine := by
  have := r.un
  omega
section
variable {X : Cx} {CX : CXT} {k n : Nat} {f : Addr} {fd : FuncData} {ps ks : List Str} {sp : Sp} {E : L2.St → XK} {x : Str} {p pos : Pos} {e : Expr} {es : List Expr} {t tk : TA} {kws : List Keyword}
  {g : List Value → List Value → List Value} {gV : List V → List V → List V}
theorem pe_k {v : V} {x : Str} {pos : Pos} (hg : Gl X x) (h : ∃ u, X.mg x = some u ∧ RelV v u) (hd : (x == ("__debug__" : Str)) = false := by decide) : PE X (.Name x pos) (tC v) :=
  let ⟨_, h1, h2⟩ := h
  pe_glob hg h1 h2 hd
theorem pe_d (D : Df X.prog X.w X.K X.mg X.base CX k x f fd ps sp) (hc : Clean X.A) (hr : Room k X.A) (hg : Gl X x) (hx : ∀ σ, PassesAt CX X σ (E σ)) (ha : PA X (e :: es) t) (hdb : (x == ("__debug__" : Str)) = false := by decide)
    (he : starEach (e :: es) X.env = (false, eval e X.env) :: starEach es X.env := by rfl) (hpl : (backTo pos (starEach es X.env)).any (·.1) = false := by rfl) :
    PE X (.Call (.Name x p) (e :: es) [] pos) (tCallG sp [] E t) := pe_c D.G hc hr hg D.m D.kp D.b .nil hx ha hdb he hpl
theorem pe_d0 (D : Df X.prog X.w X.K X.mg X.base CX k x f fd ps sp) (hc : Clean X.A) (hr : Room k X.A) (hg : Gl X x) (hx : ∀ σ, PassesAt CX X σ (E σ)) (hdb : (x == ("__debug__" : Str)) = false := by decide) :
    PE X (.Call (.Name x p) [] [] pos) (tCallG sp [] E tNil) := pe_c0 D.G hc hr hg D.m D.kp D.b .nil hx hdb
/-- with defaults -/
structure Dd (P : Program) (w : World) (K : PySem.W.Frag) (mg : Str → Option Value) (base : Heap) (CX : CXT) (k : Nat) (x : Str) (f : Addr) (fd : FuncData) (ps : List Str) (dvs : List V) (sp : Sp) : Prop where
  G : FnG P w K mg base CX k f fd ps sp
  m : mg x = some (.ref f)
  kp : PySem.W.keepIn K (.ref f) = true
  b : ∃ ds, Vals dvs ds ∧ Binds K fd ps ds
theorem pe_dd {dvs : List V} (D : Dd X.prog X.w X.K X.mg X.base CX k x f fd ps dvs sp) (hc : Clean X.A) (hr : Room k X.A) (hg : Gl X x) (hx : ∀ σ, PassesAt CX X σ (E σ)) (ha : PA X (e :: es) t) (hdb : (x == ("__debug__" : Str)) = false := by decide)
    (he : starEach (e :: es) X.env = (false, eval e X.env) :: starEach es X.env := by rfl) (hpl : (backTo pos (starEach es X.env)).any (·.1) = false := by rfl) :
    PE X (.Call (.Name x p) (e :: es) [] pos) (tCallG sp dvs E t) :=
  let ⟨_, hd, hb⟩ := D.b
  pe_c D.G hc hr hg D.m D.kp hb hd hx ha hdb he hpl
/-- called with keywords -/
structure Dk (P : Program) (w : World) (K : PySem.W.Frag) (mg : Str → Option Value) (base : Heap) (CX : CXT) (k : Nat) (x : Str) (f : Addr) (fd : FuncData) (ps : List Str) (sp : Sp) (n : Nat) (ks : List Str) (gV : List V → List V → List V) : Prop where
  G : FnG P w K mg base CX k f fd ps sp
  m : mg x = some (.ref f)
  kp : PySem.W.keepIn K (.ref f) = true
  b : ∃ g, KBn K fd ps n ks g gV
theorem pe_dk (D : Dk X.prog X.w X.K X.mg X.base CX k x f fd ps sp n ks gV) (hc : Clean X.A) (hr : Room k X.A) (hg : Gl X x) (hx : ∀ σ, PassesAt CX X σ (E σ)) (ha : PA X (e :: es) t) (hkw : PK X kws tk)
    (hall : (backToKw pos (keywordEach kws X.env)).all (·.1.isSome) = true := by rfl) (hks : (backToKw pos (keywordEach kws X.env)).filterMap (·.1) = ks := by rfl) (hdb : (x == ("__debug__" : Str)) = false := by decide)
    (he : starEach (e :: es) X.env = (false, eval e X.env) :: starEach es X.env := by rfl)
    (hpl : ((backTo pos (starEach (e :: es) X.env)).any (·.1) || (backToKw pos (keywordEach kws X.env)).any (·.1.isNone)) = false := by rfl) :
    PE X (.Call (.Name x p) (e :: es) kws pos) (tCallH n ks.length sp gV E t tk) :=
  let ⟨_, hb⟩ := D.b
  pe_h D.G hc hr hg D.m D.kp hb hx ha hkw hall hks hdb he hpl
theorem pe_dk0 (D : Dk X.prog X.w X.K X.mg X.base CX k x f fd ps sp 0 ks gV) (hc : Clean X.A) (hr : Room k X.A) (hg : Gl X x) (hx : ∀ σ, PassesAt CX X σ (E σ)) (hkw : PK X kws tk)
    (hall : (backToKw pos (keywordEach kws X.env)).all (·.1.isSome) = true := by rfl) (hks : (backToKw pos (keywordEach kws X.env)).filterMap (·.1) = ks := by rfl) (hdb : (x == ("__debug__" : Str)) = false := by decide)
    (hpl : ((backTo pos (starEach [] X.env)).any (·.1) || (backToKw pos (keywordEach kws X.env)).any (·.1.isNone)) = false := by rfl) :
    PE X (.Call (.Name x p) [] kws pos) (tCallH 0 ks.length sp gV E tNil tk) :=
  let ⟨_, hb⟩ := D.b
  pe_h0 D.G hc hr hg D.m D.kp hb hx hkw hall hks hdb hpl
end
/-! ### is True, is not False -/
section
variable {X : Cx}
theorem rel_bl {x : V} {u : Value} {b : Bool} (r : RelV x u) (h : x ≠ .bl b) : u ≠ Value.bool b := by
  intro e
  subst e
  cases x with
  | bl c =>
    have : Value.bool b = Value.bool c := r
    cases this
    exact h rfl
  | non => exact nomatch (r : Value.bool b = Value.none)
  | int _ => obtain ⟨_, q⟩ := r; exact nomatch q
  | str _ => obtain ⟨_, q⟩ := r; exact nomatch q
  | byt _ => obtain ⟨_, q⟩ := r; exact nomatch q
  | flt _ => obtain ⟨_, q⟩ := r; exact nomatch q
  | ref a => exact nomatch (r : Value.bool b = Value.ref a)
  | ty n => exact nomatch (r : Value.bool b = Value.type n)
theorem plain_bl {x : V} {u : Value} {b : Bool} (r : RelV x u) : plainIs u (Value.bool b) = true := by
  cases x with
  | bl c => cases (show u = Value.bool c from r); rfl
  | non => cases (show u = Value.none from r); rfl
  | int _ => obtain ⟨_, q⟩ := r; subst q; rfl
  | str _ => obtain ⟨_, q⟩ := r; subst q; rfl
  | byt _ => obtain ⟨_, q⟩ := r; subst q; rfl
  | flt _ => obtain ⟨_, q⟩ := r; subst q; rfl
  | ref a => cases (show u = Value.ref a from r); rfl
  | ty n => cases (show u = Value.type n from r); rfl
theorem op_isB : OpR X (compareOp .Is) (fun x y H Q => ∃ b, y = .bl b ∧ Q (.bl (decide (x = .bl b))) H) := by
  intro pins s σ H x y v u Q I rx ry h
  obtain ⟨b, rfl, q⟩ := h
  cases (show u = Value.bool b from ry)
  by_cases e : x = .bl b
  · subst e
    cases (show v = Value.bool b from rx)
    exact wpAny_is_self rfl ⟨.bl true, H, I, rfl, by simpa using q⟩
  · exact wpAny_is_other (plain_bl rx) (rel_bl rx e) ⟨.bl false, H, I, rfl, by simpa [e] using q⟩
theorem op_notB : OpR X (compareOp .IsNot) (fun x y H Q => ∃ b, y = .bl b ∧ Q (.bl (!decide (x = .bl b))) H) := by
  intro pins s σ H x y v u Q I rx ry h
  obtain ⟨b, rfl, q⟩ := h
  cases (show u = Value.bool b from ry)
  by_cases e : x = .bl b
  · subst e
    cases (show v = Value.bool b from rx)
    exact wpAny_isNot_self rfl ⟨.bl false, H, I, rfl, by simpa using q⟩
  · exact wpAny_isNot_other (plain_bl rx) (rel_bl rx e) ⟨.bl true, H, I, rfl, by simpa [e] using q⟩
/-! ### s * n -/
def repS (x : Str) (n : Int) : Str := ⟨(List.replicate n.toNat x.cps).foldl (· ++ ·) #[]⟩
theorem fold_app (c : Array Nat) : ∀ (n : Nat) (a : Array Nat), ((List.replicate n c).foldl (· ++ ·) a).toList = a.toList ++ (List.replicate n c.toList).flatten
  | 0, a => by simp
  | n + 1, a => by
    rw [List.replicate_succ, List.foldl_cons, fold_app c n (a ++ c), List.replicate_succ, List.flatten_cons, Array.toList_append, List.append_assoc]
theorem repS_list (x : Str) (n : Int) : (repS x n).cps.toList = (List.replicate n.toNat x.cps.toList).flatten := by
  show ((List.replicate n.toNat x.cps).foldl (· ++ ·) #[]).toList = _
  rw [fold_app]
  rfl
theorem op_repS : OpR X (binaryOp .Mult) (fun x y H Q => ∃ z n, x = .str z ∧ y = .int n ∧ 1 < n ∧ n < 1000000 ∧ z.length ≠ 0 ∧ z.length * n.toNat ≤ sizeLine ∧ Q (.str (repS z n)) H) := by
  intro pins s σ H x y v u Q I rx ry h
  obtain ⟨z, n, rfl, rfl, h1, h2, h0, hz, q⟩ := h
  obtain ⟨t, rfl⟩ := rx
  obtain ⟨t', rfl⟩ := ry
  have e1 : (n == 1 || z.length == 0) = false := by
    rw [Bool.or_eq_false_iff]
    exact ⟨beq_eq_false_iff_ne.mpr (by omega), beq_eq_false_iff_ne.mpr h0⟩
  have hb : ¬ (z.length : Int) > (2 ^ 63 - 1) / n := by
    intro c
    have hs := hz
    rw [sizeLine_eq] at hs
    have h3 : (z.length : Int) * n ≤ 16777216 := by
      have h4 : ((z.length * n.toNat : Nat) : Int) ≤ 16777216 := Int.ofNat_le.mpr hs
      rw [Int.natCast_mul, Int.toNat_of_nonneg (by omega)] at h4
      exact h4
    have h5 : (z.length : Int) ≤ 16777216 := by
      have h6 : (1 : Int) ≤ z.length := by omega
      have h7 : (z.length : Int) * 1 ≤ (z.length : Int) * n := Int.mul_le_mul_of_nonneg_left (by omega) (by omega)
      omega
    have h8 : (2 ^ 63 - 1 : Int) / n ≥ (2 ^ 63 - 1) / 1000000 := by
      have : (2 ^ 63 - 1 : Int) / 1000000 * n ≤ (2 ^ 63 - 1) := by
        have h9 : (2 ^ 63 - 1 : Int) / 1000000 = 9223372036854 := by decide
        rw [h9]
        omega
      exact (Int.le_ediv_iff_mul_le (by omega)).mpr this
    have h10 : (2 ^ 63 - 1 : Int) / 1000000 = 9223372036854 := by decide
    omega
  refine PySem.P.mul_str (by rw [Bool.or_eq_false_iff]; exact ⟨decide_eq_false (by omega), decide_eq_false (by omega)⟩) (fun _ _ => hb) (fun _ _ => ?_) ?_
  · unfold Builtin.Str.tooLong
    exact decide_eq_false (by omega)
  · rw [if_neg (by omega), if_neg (by rw [e1]; exact Bool.false_ne_true)]
    have hl : (repS z n).length ≤ sizeLine := by
      have e : (repS z n).length = z.length * n.toNat := by
        show (repS z n).cps.size = _
        rw [← Array.length_toList, repS_list, List.length_flatten, List.map_replicate, List.sum_replicate_nat]
        show n.toNat * z.cps.toList.length = _
        rw [Array.length_toList, Nat.mul_comm]
        rfl
      omega
    exact ⟨hl, ⟨.str (repS z n), H, I.tok _, ⟨_, rfl⟩, q⟩⟩
end
end Gd

namespace Gd
open PySem PySem.Spec PyProof.Rows L2
/-! ### the kind of a value -/
inductive Kind where
  | non | bl | int | str | lst | tup | dct | odd
  deriving DecidableEq
def Kind.name : Kind → String
  | .non => "NoneType"
  | .bl => "bool"
  | .int => "int"
  | .str => "str"
  | .lst => "list"
  | .tup => "tuple"
  | .dct => "dict"
  | .odd => "?"
def kindO : Option HO → Kind
  | some (.lst _) => .lst
  | some (.tup _) => .tup
  | some (.dK _) => .dct
  | _ => .odd
def kind (H : Hp) : V → Kind
  | .non => .non
  | .bl _ => .bl
  | .int _ => .int
  | .str _ => .str
  | .ref a => kindO (H a)
  | _ => .odd
abbrev Pv (H : Hp) (v : V) : Prop := kind H v ≠ .odd
/-- isinstance of such a value -/
def inst (n : String) (k : Kind) : Bool := k.name == n || (n == "int" && k == .bl)
theorem kind_ty {K : PySem.W.Frag} {H : Hp} {v : V} (h : Pv H v) : TyX K H v (.type (kind H v).name) := by
  cases v with
  | non => exact .base .non
  | bl b => exact .base (.bl b)
  | int i => exact .base (.int i)
  | str x => exact .base (.str x)
  | byt b => exact absurd rfl h
  | flt b => exact absurd rfl h
  | ty n => exact absurd rfl h
  | ref a =>
    change kindO (H a) ≠ .odd at h
    show TyX K H (.ref a) (.type (kindO (H a)).name)
    cases e : H a with
    | none => rw [e] at h; exact absurd rfl h
    | some o =>
      rw [e] at h
      cases o with
      | lst xs => exact .base (.lst e)
      | tup xs => exact .base (.tup e)
      | dK kvs => exact .base (.dK e)
      | _ => exact absurd rfl h
abbrev Cn (n : String) : Prop := n = "int" ∨ n = "str" ∨ n = "bool" ∨ n = "list" ∨ n = "tuple" ∨ n = "dict"
theorem kit_kind {K : PySem.W.Frag} {H : Hp} {v : V} (h : Pv H v) {n : String} (hn : Cn n) : PySem.W.kitOne K (.type (kind H v).name) (.type n) = some (inst n (kind H v)) := by
  apply kit_ty
  revert h
  unfold Pv
  generalize kind H v = k
  intro h
  rcases hn with rfl | rfl | rfl | rfl | rfl | rfl <;> cases k <;> first | exact absurd rfl h | decide +kernel
section
variable {X : Cx}
theorem call_isk : CallR X (.builtin "isinstance") (fun xs H Q => ∃ x n, xs = [x, .ty n] ∧ Cn n ∧ Pv H x ∧ Q (.bl (inst n (kind H x))) H) := by
  intro pins s σ H xs us Q I r h
  obtain ⟨x, n, rfl, hn, hv, q⟩ := h
  exact call_isi pins s σ H _ us Q I r ⟨x, .ty n, _, _, _, rfl, .ty n, kind_ty hv, kit_kind hv hn, q⟩
/-- (list, tuple) and its like -/
theorem call_isk2 : CallR X (.builtin "isinstance") (fun xs H Q => ∃ x t n m, xs = [x, .ref t] ∧ H t = some (.tup [.ty n, .ty m]) ∧ Cn n ∧ Cn m ∧ Pv H x ∧ Q (.bl (inst n (kind H x) || inst m (kind H x))) H) := by
  intro pins s σ H xs us Q I r h
  obtain ⟨x, t, n, m, rfl, ht, hn, hm, hv, q⟩ := h
  refine call_isiT pins s σ H _ us Q I r ⟨x, t, [.ty n, .ty m], _, [.type n, .type m], _, rfl, ht, .cons (.ty n) (.cons (.ty m) .nil), kind_ty hv, ?_, q⟩
  refine kitAny_cons (kit_kind hv hn) (fun e1 => ?_) (fun e1 => ?_)
  · rw [e1, Bool.false_or]
    exact kitAny_cons (kit_kind hv hm) (fun e2 => by rw [e2]; exact kitAny_nil) fun e2 => e2
  · rw [e1]
    rfl
end
/-- an int other than True and False -/
def isInt : V → Bool
  | .int _ => true
  | _ => false
def isStr : V → Bool
  | .str _ => true
  | _ => false
theorem kind_ref {H : Hp} {a : Addr} : kind H (.ref a) = .lst ∨ kind H (.ref a) = .tup ∨ kind H (.ref a) = .dct ∨ kind H (.ref a) = .odd := by
  show kindO (H a) = _ ∨ kindO (H a) = _ ∨ kindO (H a) = _ ∨ kindO (H a) = _
  cases H a with
  | none => exact .inr (.inr (.inr rfl))
  | some o =>
    cases o <;> first | exact .inl rfl | exact .inr (.inl rfl) | exact .inr (.inr (.inl rfl)) | exact .inr (.inr (.inr rfl))
theorem isInt_kind (H : Hp) (v : V) : (inst "int" (kind H v) && !inst "bool" (kind H v)) = isInt v := by
  cases v with
  | ref a =>
    show _ = false
    rcases kind_ref (H := H) (a := a) with e | e | e | e <;> rw [e] <;> decide +kernel
  | _ => rfl
theorem isStr_kind (H : Hp) (v : V) : inst "str" (kind H v) = isStr v := by
  cases v with
  | ref a =>
    show _ = false
    rcases kind_ref (H := H) (a := a) with e | e | e | e <;> rw [e] <;> decide +kernel
  | _ => rfl
theorem kind_same {H H' : Hp} (e : Same H H') {v : V} (h : Pv H v) : kind H' v = kind H v := by
  cases v with
  | ref a =>
    change kindO (H a) ≠ .odd at h
    show kindO (H' a) = kindO (H a)
    cases q : H a with
    | none => rw [q] at h; exact absurd rfl h
    | some o => rw [e a o q]
  | _ => rfl
theorem Pv.same {H H' : Hp} (e : Same H H') {v : V} (h : Pv H v) : Pv H' v := by
  unfold Pv
  rw [kind_same e h]
  exact h
theorem isStr_iff {v : V} (h : isStr v = true) : ∃ x, v = .str x := by
  cases v <;> first | exact ⟨_, rfl⟩ | exact absurd h Bool.false_ne_true
theorem isInt_iff {v : V} (h : isInt v = true) : ∃ x, v = .int x := by
  cases v <;> first | exact ⟨_, rfl⟩ | exact absurd h Bool.false_ne_true
end Gd

namespace Gd
open PySem L2
/-! ### the law's pool of digits -/
/-- it stands at p -/
def BoxAt (H : Hp) (p : Addr) : Prop := ∃ a b c : Int, H p = some (.lst [.int a, .int b, .int c]) ∧ 0 ≤ b ∧ b < 2147483647
/-- it may have turned, nothing else has -/
def Turned (H H' : Hp) (p : Addr) : Prop := BoxAt H' p ∧ ∀ q, q ≠ p → H' q = H q
theorem Turned.refl {H : Hp} {p : Addr} (b : BoxAt H p) : Turned H H p := ⟨b, fun _ _ => rfl⟩
theorem Turned.trans {H H1 H2 : Hp} {p : Addr} (a : Turned H H1 p) (b : Turned H1 H2 p) : Turned H H2 p := ⟨b.1, fun q hq => (b.2 q hq).trans (a.2 q hq)⟩
theorem Turned.box {H H' : Hp} {p : Addr} (t : Turned H H' p) : BoxAt H' p := t.1
theorem Turned.at {H H' : Hp} {p q : Addr} {o : HO} (t : Turned H H' p) (hq : q ≠ p) (h : H q = some o) : H' q = some o := (t.2 q hq).trans h
theorem turned_upd {H : Hp} {p : Addr} {a b c : Int} (h0 : 0 ≤ b) (h1 : b < 2147483647) : Turned H (upd H p (.lst [.int a, .int b, .int c])) p :=
  ⟨⟨a, b, c, upd_same, h0, h1⟩, fun q hq => upd_ne hq⟩
theorem BoxAt.some {H : Hp} {p : Addr} (b : BoxAt H p) : ∃ o, H p = some o := let ⟨_, _, _, h, _⟩ := b; ⟨_, h⟩
theorem BoxAt.upd {H : Hp} {p q : Addr} {o : HO} (b : BoxAt H p) (hq : H q = none) : BoxAt (upd H q o) p := by
  obtain ⟨x, y, z, h, r⟩ := b
  exact ⟨x, y, z, by rw [upd_ne (ne_of_none h hq)]; exact h, r⟩
def spScr (K : PySem.W.Frag) : Sp := fun vs H Q _ => ∃ (a : Addr) (ns : List Int) (k : Int), vs = [.ref a, .int k] ∧ SqL K H a (ns.map V.int) ∧ 0 ≤ k ∧ k < 1000 ∧ ∀ z, Q (.int z) H
def spBox : Sp := fun vs H Q _ => ∃ z : Int, vs = [.int z] ∧ ∀ (p : Addr) (o : HO), H p = none → BoxAt (upd H p o) p → Q (.ref p) (upd H p o)
def spTake : Sp := fun vs H Q _ => ∃ (p : Addr) (n : Int), vs = [.ref p, .int n] ∧ BoxAt H p ∧ 0 < n ∧ n < 1000000 ∧ ∀ (d : Int) (H' : Hp), 0 ≤ d → d < n → Turned H H' p → Q (.int d) H'
/-- an item of the script -/
theorem at_script {ns : List Int} {k : Int} (h0 : 0 ≤ k) (h1 : k < ns.length) : ∃ z, atI (ns.map V.int) k = some (.int z) := by
  obtain ⟨j, rfl⟩ := Int.eq_ofNat_of_zero_le h0
  have hj : j < ns.length := by omega
  refine ⟨ns[j], atI_nat ?_⟩
  rw [List.getElem?_map, List.getElem?_eq_getElem hj]
  rfl
theorem mod_pos {i j : Int} (h : 0 < j) : 0 ≤ i % j ∧ i % j < j := ⟨Int.emod_nonneg _ (by omega), Int.emod_lt_of_pos _ h⟩
end Gd

namespace Gd
open PySem L2
theorem iteB {c : Bool} {A B : Prop} (h1 : c = true → A) (h2 : c = false → B) : if c = true then A else B := by
  cases c with
  | true => exact iteT (h1 rfl)
  | false => exact iteF (h2 rfl)
/-- what a comprehension over J asks, its list at D -/
def LcW (J : It) (g : TG) (tt : TT) (te : TE) (vs : List Nat) (σ : L2.St) (H1 : Hp) (D : Addr) (Qd : Hp → Prop) : Prop :=
  ∃ W : Nat → Nat → Hp → Prop, (∃ m, W 0 m (upd H1 D (.lst []))) ∧ ∀ i m H, W i m H →
    (J.stop i H ∧ Qd H) ∨ (J.go i H ∧ ∃ Nx : Hp → Prop, (∀ H', Nx H' → ∃ m', m' < m ∧ W (i + 1) m' H') ∧ ∀ x H', J.yld i H x H' →
      g x (wipe σ vs) H' fun σ2 H2 => wipe σ2 vs = wipe σ vs ∧ tt σ2 H2 fun b H3 => if b = true then te σ2 H3 fun y H4 => ∃ acc, H4 D = some (.lst acc) ∧ acc.length < sizeLine ∧ Nx (upd H4 D (.lst (acc ++ [y]))) else Nx H3)
theorem wipe1 (σ : L2.St) (j : Nat) (v : Option V) : wipe ((wipe σ [j]).set j v) [j] = wipe σ [j] := by
  show ((σ.set j none).set j v).set j none = σ.set j none
  rw [List.set_set, List.set_set]
theorem take_snoc {α : Type} {l : List α} {i : Nat} {x : α} (h : l[i]? = some x) : l.take (i + 1) = l.take i ++ [x] := by
  rw [List.take_succ, h]
  rfl
section
variable {K : PySem.W.Frag} {tt : TT} {te : TE} {j : Nat} {σ : L2.St} {H1 : Hp} {D : Addr} {Qd : Hp → Prop}
/-- over a text, all else as it stood -/
theorem lc_text {z : Str} (f : Nat → V) (p : Nat → Bool) (hz : z.length < sizeLine)
    (ht : ∀ c acc (Q : Bool → Hp → Prop), c ∈ z.cps.toList → Q (p c) (upd H1 D (.lst acc)) → tt ((wipe σ [j]).set j (some (.str ⟨#[c]⟩))) (upd H1 D (.lst acc)) Q)
    (he : ∀ c acc (Q : VK), c ∈ z.cps.toList → p c = true → Q (f c) (upd H1 D (.lst acc)) → te ((wipe σ [j]).set j (some (.str ⟨#[c]⟩))) (upd H1 D (.lst acc)) Q)
    (hd : Qd (upd H1 D (.lst ((z.cps.toList.filter p).map f)))) : LcW (Its z) (gName j) tt te [j] σ H1 D Qd := by
  have hl : z.cps.toList.length = z.cps.size := Array.length_toList
  refine lc_it walk_str (fun i H => H = upd H1 D (.lst (((z.cps.toList.take i).filter p).map f))) rfl (fun _ _ _ _ => trivial) ?_ ?_
  · rintro i x H H' hi e ⟨e', c, hc, rfl⟩
    subst e'
    have hc' : z.cps.toList[i]? = some c := by rw [Array.getElem?_toList]; exact hc
    have hm : c ∈ z.cps.toList := List.mem_of_getElem? hc'
    show gName j _ (wipe σ [j]) H' _
    refine ⟨wipe1 _ _ _, ?_⟩
    rw [e]
    refine ht c _ _ hm ?_
    have es := take_snoc hc'
    refine iteB (fun b => ?_) (fun b => ?_)
    · refine he c _ _ hm b ⟨_, upd_same, ?_, ?_⟩
      · rw [List.length_map]
        refine Nat.lt_of_le_of_lt (List.length_filter_le _ _) ?_
        rw [List.length_take]
        have : z.length = z.cps.size := rfl
        omega
      · rw [upd_upd, es, List.filter_append, List.map_append]
        have e1 : [c].filter p = [c] := by rw [List.filter_cons, if_pos b]; rfl
        rw [e1]
        rfl
    · rw [es, List.filter_append, List.map_append]
      have e1 : [c].filter p = [] := by rw [List.filter_cons, if_neg (by rw [b]; exact Bool.false_ne_true)]; rfl
      rw [e1]
      show upd H1 D _ = _
      rw [List.map_nil, List.append_nil]
  · intro H e
    subst e
    rw [← hl, List.take_length]
    exact hd
end
/-- order of single signs -/
theorem lt_sign (a b : Nat) : decide (([a] : List Nat) < [b]) = decide (a < b) := by
  by_cases h : a < b
  · rw [decide_eq_true h]
    exact decide_eq_true (List.Lex.rel h)
  · rw [decide_eq_false h]
    refine decide_eq_false fun z => ?_
    cases z with
    | rel h' => exact h h'
    | cons h' => cases h'
end Gd

namespace Gd
open PySem L2
/-! ### plain texts of a size -/
structure Tx (n : Nat) (x : Str) : Prop where
  len : x.length ≤ n
  asc : ∀ c ∈ x.cps.toList, c < 128
theorem len_list (x : Str) : x.length = x.cps.toList.length := (Array.length_toList).symm
theorem Tx.mono {n m : Nat} {x : Str} (t : Tx n x) (h : n ≤ m) : Tx m x := ⟨Nat.le_trans t.len h, t.asc⟩
theorem app_list (x y : Str) : (x ++ y).cps.toList = x.cps.toList ++ y.cps.toList := Array.toList_append
theorem Tx.app {n m : Nat} {x y : Str} (t : Tx n x) (u : Tx m y) : Tx (n + m) (x ++ y) := by
  refine ⟨?_, fun c hc => ?_⟩
  · have := t.len
    have := u.len
    rw [len_list, app_list, List.length_append, ← len_list, ← len_list]
    omega
  · rw [app_list] at hc
    rcases List.mem_append.mp hc with h | h
    · exact t.asc c h
    · exact u.asc c h
theorem cut_mem {z : Str} {lo hi : Option Int} {c : Nat} (h : c ∈ (cutS z lo hi).cps.toList) : c ∈ z.cps.toList := by
  have h' : c ∈ (z.cps.toList.drop (HT.sIx z.length 0 lo)).take (HT.sIx z.length z.length hi - HT.sIx z.length 0 lo) := h
  exact List.mem_of_mem_drop (List.mem_of_mem_take h')
theorem Tx.cut {n : Nat} {z : Str} (t : Tx n z) (lo hi : Option Int) : Tx n (cutS z lo hi) := ⟨Nat.le_trans (cutS_length z lo hi) t.len, fun c hc => t.asc c (cut_mem hc)⟩
theorem Tx.sign {n : Nat} {z : Str} (t : Tx n z) {c : Nat} (h : c ∈ z.cps.toList) : Tx 1 ⟨#[c]⟩ := ⟨Nat.le_refl _, fun d hd => by
  have : d = c := by simpa using hd
  rw [this]
  exact t.asc c h⟩
/-- a written one: by decide +kernel -/
theorem Tx.of {n : Nat} {x : Str} (h : (decide (x.length ≤ n) && x.cps.toList.all fun c => decide (c < 128)) = true) : Tx n x := by
  rw [Bool.and_eq_true, decide_eq_true_eq, List.all_eq_true] at h
  exact ⟨h.1, fun c hc => of_decide_eq_true (h.2 c hc)⟩
theorem Tx.big {n : Nat} {x : Str} (t : Tx n x) : ∀ c ∈ x.cps.toList, c < 16 ^ 8 := fun c hc => Nat.lt_trans (t.asc c hc) (by decide)
theorem atI_mem {α : Type} {l : List α} {i : Int} {v : α} (h : atI l i = some v) : v ∈ l := by
  unfold atI at h
  cases e : ixN l.length i with
  | none => rw [e] at h; exact nomatch h
  | some j =>
    rw [e] at h
    exact List.mem_of_getElem? h
/-- an item that all of them are like -/
theorem atI_all {α : Type} {l : List α} {p : α → Prop} (h : ∀ v ∈ l, p v) {d : Int} (h0 : 0 ≤ d) (h1 : d < l.length) : ∃ v, atI l d = some v ∧ p v := by
  obtain ⟨j, rfl⟩ := Int.eq_ofNat_of_zero_le h0
  have hj : j < l.length := by omega
  exact ⟨l[j], atI_nat (List.getElem?_eq_getElem hj), h _ (List.getElem_mem hj)⟩
/-- a sign of a text -/
theorem atI_sign {n : Nat} {z : Str} (t : Tx n z) {d : Int} (h0 : 0 ≤ d) (h1 : d < z.length) : ∃ c, atI z.cps.toList d = some c ∧ Tx 1 ⟨#[c]⟩ ∧ c ∈ z.cps.toList := by
  obtain ⟨c, h, hm⟩ := atI_all (l := z.cps.toList) (p := fun c => c ∈ z.cps.toList) (fun _ h => h) h0 (by rw [← len_list]; exact h1)
  exact ⟨c, h, t.sign hm, hm⟩
/-! ### parts and equality of texts -/
theorem str_ext {x y : Str} (h : x.cps.toList = y.cps.toList) : x = y := by
  obtain ⟨a⟩ := x
  obtain ⟨b⟩ := y
  exact congrArg Str.mk (Array.toList_inj.mp h)
theorem str_eq (x y : Str) : decide (V.str x = V.str y) = decide (x.cps.toList = y.cps.toList) :=
  decide_eq_decide.mpr ⟨fun z => by rw [V.str.injEq] at z; rw [z], fun z => by rw [str_ext z]⟩
theorem cut_take (x : Str) (k : Nat) : (cutS x none (some (k : Int))).cps.toList = x.cps.toList.take k := by
  show (x.cps.toList.drop (HT.sIx x.length 0 none)).take (HT.sIx x.length x.length (some (k : Int)) - HT.sIx x.length 0 none) = _
  rw [HT.sIx_none, HT.sIx_nat, List.drop_zero, Nat.sub_zero, len_list]
  rcases Nat.le_total k x.cps.toList.length with h | h
  · rw [Nat.min_eq_left h]
  · rw [Nat.min_eq_right h, List.take_length, List.take_of_length_le h]
theorem cut_drop (x : Str) (k : Nat) : (cutS x (some (k : Int)) none).cps.toList = x.cps.toList.drop k := by
  show (x.cps.toList.drop (HT.sIx x.length 0 (some (k : Int)))).take (HT.sIx x.length x.length none - HT.sIx x.length 0 (some (k : Int))) = _
  rw [HT.sIx_none, HT.sIx_nat, len_list]
  rcases Nat.le_total k x.cps.toList.length with h | h
  · rw [Nat.min_eq_left h, List.take_of_length_le (by rw [List.length_drop]; exact Nat.le_refl _)]
  · rw [Nat.min_eq_right h, Nat.sub_self, List.take_zero, List.drop_of_length_le h]
/-! ### joined -/
theorem join_str (sep : Str) (l : List Str) : Txt.join sep l = Str.join sep l := eq_of_beq (PyProof.Rows.join_plain_closes sep l)
theorem join_len (sep : Str) : ∀ l : List Str, (Str.join sep l).length ≤ (l.map (·.length)).sum + l.length * sep.length
  | [] => Nat.zero_le _
  | [x] => by
    show x.length ≤ _
    simp
  | x :: y :: r => by
    have ih := join_len sep (y :: r)
    show (x ++ sep ++ Str.join sep (y :: r)).length ≤ _
    rw [len_list, app_list, app_list, List.length_append, List.length_append, ← len_list, ← len_list, ← len_list, List.map_cons, List.sum_cons, List.length_cons, Nat.succ_mul]
    omega
theorem join_mem (sep : Str) {c : Nat} : ∀ {l : List Str}, c ∈ (Str.join sep l).cps.toList → c ∈ sep.cps.toList ∨ ∃ y ∈ l, c ∈ y.cps.toList
  | [], h => nomatch (show c ∈ ([] : List Nat) from h)
  | [x], h => .inr ⟨x, List.mem_cons_self, h⟩
  | x :: y :: r, h => by
    have h' : c ∈ (x ++ sep ++ Str.join sep (y :: r)).cps.toList := h
    rw [app_list, app_list, List.mem_append, List.mem_append] at h'
    rcases h' with (h | h) | h
    · exact .inr ⟨x, List.mem_cons_self, h⟩
    · exact .inl h
    · rcases join_mem sep h with h | ⟨z, hz, h⟩
      · exact .inl h
      · exact .inr ⟨z, List.mem_cons_of_mem _ hz, h⟩
theorem join_empty_len : ∀ l : List Str, (Str.join "" l).length = (l.map (·.length)).sum
  | [] => rfl
  | [x] => by
    show x.length = _
    simp
  | x :: y :: r => by
    have ih := join_empty_len (y :: r)
    show (x ++ "" ++ Str.join "" (y :: r)).length = _
    have e : (("" : String) : Str).cps.toList = [] := by decide +kernel
    rw [len_list, app_list, app_list, e, List.append_nil, List.length_append, ← len_list, ← len_list, List.map_cons, List.sum_cons, ih]
theorem sum_le {l : List Nat} {n : Nat} (h : ∀ x ∈ l, x ≤ n) : l.sum ≤ l.length * n := by
  induction l with
  | nil => exact Nat.zero_le _
  | cons a l ih =>
    have := ih fun x hx => h x (List.mem_cons_of_mem _ hx)
    have := h a List.mem_cons_self
    rw [List.sum_cons, List.length_cons, Nat.succ_mul]
    omega
theorem Tx.join {n m k : Nat} {sep : Str} {l : List Str} (s : Tx m sep) (h : ∀ y ∈ l, Tx n y) (hl : l.length ≤ k) : Tx (k * n + k * m) (Txt.join sep l) := by
  rw [join_str]
  refine ⟨?_, fun c hc => ?_⟩
  · have h1 := join_len sep l
    have h2 : (l.map (·.length)).sum ≤ l.length * n := by
      have := sum_le (l := l.map (·.length)) (n := n) fun x hx => by
        obtain ⟨y, hy, rfl⟩ := List.mem_map.mp hx
        exact (h y hy).len
      rw [List.length_map] at this
      exact this
    have h3 : l.length * n ≤ k * n := Nat.mul_le_mul_right _ hl
    have h4 : l.length * sep.length ≤ k * m := Nat.mul_le_mul hl s.len
    omega
  · rcases join_mem sep hc with h' | ⟨y, hy, h'⟩
    · exact s.asc c h'
    · exact (h y hy).asc c h'
/-! ### all but the pool is kept -/
def Kept (H H' : Hp) (p : Addr) : Prop := BoxAt H' p ∧ ∀ q o, q ≠ p → H q = some o → H' q = some o
theorem Kept.refl {H : Hp} {p : Addr} (b : BoxAt H p) : Kept H H p := ⟨b, fun _ _ _ h => h⟩
theorem Kept.trans {H H1 H2 : Hp} {p : Addr} (a : Kept H H1 p) (b : Kept H1 H2 p) : Kept H H2 p := ⟨b.1, fun q o hq h => b.2 q o hq (a.2 q o hq h)⟩
theorem Kept.box {H H' : Hp} {p : Addr} (k : Kept H H' p) : BoxAt H' p := k.1
theorem Turned.kept {H H' : Hp} {p : Addr} (t : Turned H H' p) : Kept H H' p := ⟨t.1, fun q o hq h => t.at hq h⟩
theorem Kept.new {H H' : Hp} {p l : Addr} {o : HO} (k : Kept H H' p) (h : H' l = none) : Kept H (upd H' l o) p :=
  ⟨k.1.upd h, fun q u hq hu => by rw [upd_ne (ne_of_none (k.2 q u hq hu) h)]; exact k.2 q u hq hu⟩
theorem Kept.turn {H H1 H2 : Hp} {p : Addr} (k : Kept H H1 p) (t : Turned H1 H2 p) : Kept H H2 p := k.trans t.kept
theorem Kept.same {H H1 H2 : Hp} {p : Addr} (k : Kept H H1 p) (s : Same H1 H2) : Kept H H2 p := by
  obtain ⟨⟨a, b, c, h, r⟩, f⟩ := k
  exact ⟨⟨a, b, c, s _ _ h, r⟩, fun q o hq hh => s _ _ (f q o hq hh)⟩
/-- fresh behind is fresh ahead -/
theorem Kept.free {H H' : Hp} {p q : Addr} (k : Kept H H' p) (hb : BoxAt H p) (h : H' q = none) : H q = none := by
  cases e : H q with
  | none => rfl
  | some o =>
    by_cases hq : q = p
    · subst hq
      obtain ⟨_, hh⟩ := k.1.some
      rw [hh] at h
      exact nomatch h
    · rw [k.2 q o hq e] at h
      exact nomatch h
theorem Kept.ne {H : Hp} {p q : Addr} (b : BoxAt H p) (h : H q = none) : q ≠ p := by
  rintro rfl
  obtain ⟨_, hh⟩ := b.some
  rw [hh] at h
  exact nomatch h
theorem Kept.put {H H' : Hp} {p D : Addr} {o : HO} (k : Kept H H' p) (hb : BoxAt H p) (h : H D = none) : Kept H (upd H' D o) p := by
  have hne : D ≠ p := Kept.ne hb h
  obtain ⟨⟨a, b, c, hh, r⟩, f⟩ := k
  exact ⟨⟨a, b, c, by rw [upd_ne hne.symm]; exact hh, r⟩, fun q u hq hu => by rw [upd_ne (ne_of_none hu h)]; exact f q u hq hu⟩
/-- no test: the turn gives -/
theorem yes_go {σ : L2.St} {H : Hp} {A B : Hp → Prop} (h : A H) : tYes σ H (fun b H' => if b = true then A H' else B H') := by
  show if true = true then A H else B H
  exact iteT h
/-! a word between a statement and what follows -/
def tMid (t u : TS) : TS := fun D σ H => ∃ M : L2.St → Hp → Prop, t { D with nx := M } σ H ∧ ∀ σ' H', M σ' H' → u D σ' H'
theorem pss_mid {X : Cx} {st : Stmt} {rest : List Stmt} {t u : TS} (h1 : PS X st t) (h2 : PSs X rest u) : PSs X (st :: rest) (tMid t u) := by
  refine ⟨fun pins s σ H D I ⟨M, hm, hu⟩ => ?_⟩
  refine wpAny_execs_cons (thn (h1.run pins s σ H { D with nx := M } I hm) fun f s1 q => ?_)
  match f, q with
  | .next, ⟨σ', H', I', q⟩ => exact h2.run pins s1 σ' H' D I' (hu σ' H' q)
  | .ret _, q => exact q
  | .brk, q => exact q
  | .cont, q => exact q
end Gd

namespace K2
open PySem L2 Gd
/-! ### a number's signs -/
def isDg (c : Nat) : Bool := decide (48 ≤ c) && decide (c ≤ 57)
/-- what stands behind the sign -/
def body : List Nat → List Nat
  | [] => []
  | c :: r => if c = 45 then r else c :: r
def dOk (d : List Nat) : Bool := decide (1 ≤ d.length) && decide (d.length ≤ 30) && d.all isDg
def nOk (l : List Nat) : Bool := dOk (body l) && (!decide ((body l).head? = some 48) || decide (l = [48]))
def stp (a : Int) (c : Nat) : Int := a * 10 + ((c : Int) - 48)
def foldV (d : List Nat) : Int := d.foldl stp 0
def valL (l : List Nat) : Int := if l.head? = some 45 then -foldV (body l) else foldV (body l)
/-- the number that a value's signs say -/
def numV : V → Option Int
  | .str x => if nOk x.cps.toList = true then some (valL x.cps.toList) else none
  | _ => none
theorem isDg_iff {c : Nat} : isDg c = true ↔ 48 ≤ c ∧ c ≤ 57 := by
  unfold isDg
  rw [Bool.and_eq_true, decide_eq_true_eq, decide_eq_true_eq]
theorem fold_nat : ∀ (d : List Nat) (a : Nat), (∀ c ∈ d, 48 ≤ c ∧ c ≤ 57) → d.foldl stp (a : Int) = ((d.foldl (fun a c => a * 10 + (c - 48)) a : Nat) : Int)
  | [], _, _ => rfl
  | c :: d, a, h => by
    have hc := h c List.mem_cons_self
    have e : stp (a : Int) c = ((a * 10 + (c - 48) : Nat) : Int) := by unfold stp; omega
    rw [List.foldl_cons, List.foldl_cons, e]
    exact fold_nat d _ fun x hx => h x (List.mem_cons_of_mem _ hx)
theorem dOk_iff {d : List Nat} : dOk d = true ↔ 1 ≤ d.length ∧ d.length ≤ 30 ∧ ∀ c ∈ d, 48 ≤ c ∧ c ≤ 57 := by
  unfold dOk
  rw [Bool.and_eq_true, Bool.and_eq_true, decide_eq_true_eq, decide_eq_true_eq, List.all_eq_true]
  constructor
  · exact fun ⟨⟨a, b⟩, c⟩ => ⟨a, b, fun x hx => isDg_iff.mp (c x hx)⟩
  · exact fun ⟨a, b, c⟩ => ⟨⟨a, b⟩, fun x hx => isDg_iff.mpr (c x hx)⟩
theorem foldV_nat {d : List Nat} (h : ∀ c ∈ d, 48 ≤ c ∧ c ≤ 57) : foldV d = ((NumText.digitsVal d : Nat) : Int) := by
  have := fold_nat d 0 h
  exact this
/-- int(text) -/
theorem int_num {x : Str} (h : nOk x.cps.toList = true) : intText? x = some (valL x.cps.toList) ∧ x.length ≤ 31 := by
  unfold nOk at h
  rw [Bool.and_eq_true, dOk_iff] at h
  obtain ⟨⟨h1, h2, h3⟩, _⟩ := h
  have hl : x.length = x.cps.toList.length := (Array.length_toList).symm
  cases e : x.cps.toList with
  | nil => rw [e] at h1; exact absurd h1 (by decide)
  | cons c r =>
    rw [e] at h1 h2 h3
    by_cases hc : c = 45
    · subst hc
      have eb : body (45 :: r) = r := by
        show (if (45 : Nat) = 45 then r else 45 :: r) = r
        rw [if_pos rfl]
      rw [eb] at h1 h2 h3
      have l2 : x.length ≤ 31 := by
        rw [hl, e, List.length_cons]
        omega
      refine ⟨?_, l2⟩
      rw [PySem.intText_neg e (fun c hc => h3 c hc) (by intro z; rw [z] at h1; exact absurd h1 (by decide)) (by omega)]
      show _ = some (if (some 45 : Option Nat) = some 45 then -foldV (body (45 :: r)) else _)
      rw [if_pos rfl, eb, foldV_nat h3]
    · have eb : body (c :: r) = c :: r := by
        show (if c = 45 then r else c :: r) = c :: r
        rw [if_neg hc]
      rw [eb] at h1 h2 h3
      have l2 : x.length ≤ 31 := by
        rw [hl, e]
        omega
      refine ⟨?_, l2⟩
      have h3' : NumText.AllDigits x.cps.toList := by
        rw [e]
        exact h3
      rw [PySem.intText_digits h3' (by rw [e]; exact List.cons_ne_nil _ _) (by omega), e]
      show _ = some (if (some c : Option Nat) = some 45 then _ else foldV (body (c :: r)))
      rw [if_neg (by intro z; exact hc (Option.some.inj z)), eb, foldV_nat h3]
/-- a number of at most thirty digits -/
theorem foldV_bound : ∀ (d : List Nat) (a : Int), (∀ c ∈ d, 48 ≤ c ∧ c ≤ 57) → 0 ≤ a → 0 ≤ d.foldl stp a ∧ d.foldl stp a < (a + 1) * 10 ^ d.length
  | [], a, _, h => ⟨h, by show a < (a + 1) * 1; omega⟩
  | c :: d, a, hd, h => by
    have hc := hd c List.mem_cons_self
    have h0 : 0 ≤ stp a c := by unfold stp; omega
    obtain ⟨i1, i2⟩ := foldV_bound d (stp a c) (fun x hx => hd x (List.mem_cons_of_mem _ hx)) h0
    refine ⟨i1, Int.lt_of_lt_of_le i2 ?_⟩
    have e : (a + 1) * 10 ^ (d.length + 1) = ((a + 1) * 10) * 10 ^ d.length := by
      rw [Int.pow_succ, Int.mul_comm (10 ^ d.length) 10, Int.mul_assoc]
    show _ ≤ (a + 1) * 10 ^ (d.length + 1)
    rw [e]
    exact Int.mul_le_mul_of_nonneg_right (by unfold stp; omega) (Int.pow_nonneg (by decide))
theorem valL_bound {l : List Nat} (h : nOk l = true) : -(10 ^ 30) < valL l ∧ valL l < 10 ^ 30 := by
  unfold nOk at h
  rw [Bool.and_eq_true, dOk_iff] at h
  obtain ⟨⟨h1, h2, h3⟩, _⟩ := h
  obtain ⟨b1, b2⟩ := foldV_bound (body l) 0 h3 (Int.le_refl 0)
  have b3 : foldV (body l) < 10 ^ (body l).length := by
    have := b2
    rw [Int.zero_add, Int.one_mul] at this
    exact this
  have b4 : (10 : Int) ^ (body l).length ≤ 10 ^ 30 := by
    have := Nat.pow_le_pow_right (n := 10) (by decide) h2
    have q : ((10 ^ (body l).length : Nat) : Int) ≤ ((10 ^ 30 : Nat) : Int) := Int.ofNat_le.mpr this
    rw [Int.natCast_pow, Int.natCast_pow] at q
    exact q
  have b5 : 0 ≤ foldV (body l) := b1
  have b6 : foldV (body l) < 10 ^ 30 := Int.lt_of_lt_of_le b3 b4
  unfold valL
  split <;> constructor <;> omega
/-- text.removeprefix("-") -/
theorem prefix_body (x : Str) : (Txt.removeprefix x "-").cps.toList = body x.cps.toList := by
  rw [StrLaws.removeprefix_eq]
  have e1 : (("-" : String) : Str).length = 1 := by decide +kernel
  have e2 : (("-" : String) : Str).cps = #[45] := by decide +kernel
  have hs : Builtin.Str.subAt x "-" 0 = decide (x.cps.toList.head? = some 45) := by
    unfold Builtin.Str.subAt
    rw [e1, e2, Bool.eq_iff_iff, beq_iff_eq, decide_eq_true_eq]
    have hx : x.cps.extract 0 (0 + 1) = (x.cps.toList.take 1).toArray := by
      apply Array.toList_inj.mp
      simp
    rw [hx]
    cases x.cps.toList with
    | nil => simp
    | cons c r => simp
  rw [e1, hs]
  have hl : x.length = x.cps.toList.length := (Array.length_toList).symm
  cases e : x.cps.toList with
  | nil =>
    rw [if_neg (by simp)]
    rw [e]
    rfl
  | cons c r =>
    rw [e, List.length_cons] at hl
    by_cases hc : c = 45
    · subst hc
      rw [if_pos (by simp; omega)]
      have eb : body (45 :: r) = r := by
        show (if (45 : Nat) = 45 then r else 45 :: r) = r
        rw [if_pos rfl]
      rw [eb, hl]
      simp
    · rw [if_neg (by simp [hc]), e]
      show c :: r = if c = 45 then r else c :: r
      rw [if_neg hc]
theorem body_len : ∀ l : List Nat, (body l).length ≤ l.length
  | [] => Nat.le_refl _
  | c :: r => by
    show (if c = 45 then r else c :: r).length ≤ _
    split
    · exact Nat.le_succ _
    · exact Nat.le_refl _
theorem body_mem {c : Nat} : ∀ {l : List Nat}, c ∈ body l → c ∈ l
  | [], h => h
  | a :: r, h => by
    have h' : c ∈ (if a = 45 then r else a :: r) := h
    by_cases e : a = 45
    · rw [if_pos e] at h'
      exact List.mem_cons_of_mem _ h'
    · rw [if_neg e] at h'
      exact h'
end K2

namespace K2
open PySem L2 Gd
def top (i : Nat) : Stmt := PySem.Challenge.pw_formatrepair_k02_counts_in_strings.main.body.getD i (.Pass ⟨0, 0, 0, 0⟩)
/-- what the walk asks of the names that no def of the text stands behind -/
structure Txt (K : PySem.W.Frag) (mg : Str → Option Value) (base : Heap) (C_I f_I : Addr) : Prop where
  sys : SysIn base
  e_InvalidInteger : PySem.EzValue.LowTxt K mg "InvalidInteger" "InvalidInteger.__init__" C_I f_I
  g_MOST_DIGITS : ∃ u, mg "MOST_DIGITS" = some u ∧ RelV (.int 30) u
  z_isinstance : mg "isinstance" = none
  z_int : mg "int" = none
  z_bool : mg "bool" = none
  z_str : mg "str" = none
  z_list : mg "list" = none
  z_dict : mg "dict" = none
  z_len : mg "len" = none
  z_all : mg "all" = none
  z_max : mg "max" = none
  z_min : mg "min" = none
  z_range : mg "range" = none
  z_repr : mg "repr" = none
section
variable {P : Program} {w : World} {K : PySem.W.Frag} {mg : Str → Option Value} {base : Heap} {C_I f_I : Addr}
abbrev s_law_cell : Stmt := top 11
theorem sc_law_cell : FnScope ["_law_script", "_law_k"] ["_law_script", "_law_k"] (defScope s_law_cell) := ⟨rfl, rfl, rfl, by decide +kernel, rfl, by decide +kernel, by decide +kernel⟩
theorem ok_cell {f : Addr} {fd : FuncData} (F : Fun K "_law_cell" "_law_cell" s_law_cell f fd) (T : Txt K mg base C_I f_I) : FnG P w K mg base CX0 1 f fd ["_law_script", "_law_k"] (spScr K) := by
  refine okG F sc_law_cell (fun vs H Q E h => ?_) (fun cdv A outer s H vs Q E hc hr h => ?_)
  · obtain ⟨p, ns, k, rfl, _⟩ := h
    rfl
  obtain ⟨p, ns, k, rfl, hs, k0, k1, q⟩ := h
  refine ⟨_, (pss_cons (ps_if (pt_cmpR op_lt (pv 1) (pe_callB call_len_seq (by rfl) T.z_len (by decide +kernel) (pa_cons (pv 0) pa_nil)) (nomark _))
  (pss_one (ps_ret (pe_ix ix_list (pv 0) (pv 1) (fun _ _ => rfl)))) pss_nil)
 (pss_one (ps_ret (pe_op op_add (pe_op op_mul pe_int (pv 1)) pe_int)))), ?_⟩
  refine ⟨_, rfl, _, rfl, p, _, rfl, .inl hs, _, _, rfl, rfl, _, rfl, ?_⟩
  refine ite2 (fun c => ?_) (fun c => ?_)
  · have c1 := of_decide_eq_true c
    rw [List.length_map] at c1
    obtain ⟨z, hz⟩ := at_script k0 c1
    exact ⟨_, rfl, _, rfl, p, _, _, _, rfl, rfl, hs, hz, q z⟩
  · exact ⟨_, rfl, _, _, rfl, rfl, .inl ⟨by decide, by decide⟩, _, _, rfl, rfl, q _⟩
abbrev s_law_box : Stmt := top 12
theorem sc_law_box : FnScope ["_law_cell_here"] ["_law_cell_here"] (defScope s_law_box) := ⟨rfl, rfl, rfl, by decide +kernel, rfl, by decide +kernel, by decide +kernel⟩
theorem ok_box {f : Addr} {fd : FuncData} (F : Fun K "_law_box" "_law_box" s_law_box f fd) (T : Txt K mg base C_I f_I) : FnG P w K mg base CX0 1 f fd ["_law_cell_here"] spBox := by
  refine okG F sc_law_box (fun vs H Q E h => ?_) (fun cdv A outer s H vs Q E hc hr h => ?_)
  · obtain ⟨z, rfl, _⟩ := h
    rfl
  obtain ⟨z, rfl, q⟩ := h
  refine ⟨_, (pss_one (ps_ret (pe_lst (pa_cons (pe_callB (call_max2 rfl) (by rfl) T.z_max (by decide +kernel) (pa_cons pe_int (pa_cons (pe_op op_sub (pv 0) (pe_op op_pow pe_int pe_int)) pa_nil))) (pa_cons (pe_op op_mod (pv 0) pe_int) (pa_cons pe_int pa_nil)))))), ?_⟩
  refine ⟨_, rfl, _, _, rfl, rfl, ⟨by decide, by decide, by decide⟩, _, _, rfl, rfl, _, _, rfl, _, rfl, _, _, rfl, rfl, (by show (0 : Int) < 2147483629; decide), ?_⟩
  refine ⟨(by show 3 ≤ sizeLine; decide), fun p hp => q p _ hp ⟨_, _, _, upd_same, ?_⟩⟩
  have := mod_pos (i := z) (j := 2147483629) (by decide)
  omega
abbrev s_law_take : Stmt := top 13
theorem sc_law_take : FnScope ["_law_box_here", "_law_size", "_law_digit", "_law_mixed"] ["_law_box_here", "_law_size"] (defScope s_law_take) := ⟨rfl, rfl, rfl, by decide +kernel, rfl, by decide +kernel, by decide +kernel⟩
theorem ok_take {f : Addr} {fd : FuncData} (F : Fun K "_law_take" "_law_take" s_law_take f fd) : FnG P w K mg base CX0 1 f fd ["_law_box_here", "_law_size"] spTake := by
  refine okG F sc_law_take (fun vs H Q E h => ?_) (fun cdv A outer s H vs Q E hc hr h => ?_)
  · obtain ⟨p, n, rfl, _⟩ := h
    rfl
  obtain ⟨p, n, rfl, ⟨a, b, c, hp, b0, b1⟩, n0, n1, k⟩ := h
  refine ⟨_, (pss_cons (ps_if (pt_cmpR op_gt (pe_ix ix_list (pv 0) pe_int (fun _ _ => rfl)) pe_int (nomark _))
  (pss_cons (ps_set (i := 2) sc_law_take.nd rfl (Or.inl rfl) (pe_op op_mod (pe_ix ix_list (pv 0) pe_int (fun _ _ => rfl)) (pv 1)))
 (pss_cons (ps_asg (pe_op op_fdivW (pe_ix ix_list (pv 0) pe_int (fun _ _ => rfl)) (pv 1)) (pg_sub (pv 0) pe_int set_list))
 (pss_one (ps_ret (pv 2))))) pss_nil)
 (pss_cons (ps_asg (pe_op op_add (pe_ix ix_list (pv 0) pe_int (fun _ _ => rfl)) pe_int) (pg_sub (pv 0) pe_int set_list))
 (pss_cons (ps_set (i := 3) sc_law_take.nd rfl (Or.inl rfl) (pe_op op_mod (pe_op op_add (pe_op op_add (pe_op op_mul (pe_ix ix_list (pv 0) pe_int (fun _ _ => rfl)) pe_int) (pe_op op_mul pe_int (pe_ix ix_list (pv 0) pe_int (fun _ _ => rfl)))) pe_int) pe_int))
 (pss_cons (ps_asg (pe_op op_mod (pe_op op_add (pe_op op_pow (pv 3) pe_int) (pe_op op_mul pe_int (pe_ix ix_list (pv 0) pe_int (fun _ _ => rfl)))) pe_int) (pg_sub (pv 0) pe_int set_list))
 (pss_one (ps_ret (pe_op op_mod (pe_op op_fdivW (pe_ix ix_list (pv 0) pe_int (fun _ _ => rfl)) pe_int) (pv 1)))))))), ?_⟩
  refine ⟨_, rfl, p, _, _, _, rfl, rfl, SqL.of hp, atI_nat (j := 0) rfl, _, _, rfl, rfl, _, rfl, ?_⟩
  refine ite2 (fun ha => ?_) (fun ha => ?_)
  · refine ⟨_, rfl, p, _, _, _, rfl, rfl, SqL.of hp, atI_nat (j := 0) rfl, _, rfl, _, _, rfl, rfl, n0, ?_⟩
    refine ⟨_, rfl, p, _, _, _, rfl, rfl, SqL.of hp, atI_nat (j := 0) rfl, _, rfl, _, _, rfl, rfl, wide_div (b := 20) n0 (by omega) (by decide) (by decide), ?_⟩
    refine ⟨_, rfl, p, _, _, 0, rfl, rfl, hp, rfl, _, rfl, ?_⟩
    exact k _ _ (mod_pos n0).1 (mod_pos n0).2 (turned_upd b0 b1)
  · refine ⟨_, rfl, p, _, _, _, rfl, rfl, SqL.of hp, atI_nat (j := 2) rfl, _, _, rfl, rfl, ?_⟩
    refine ⟨_, rfl, p, _, _, 2, rfl, rfl, hp, rfl, ?_⟩
    have h1 : ∀ {z : V}, (upd H p (.lst ([V.int a, .int b, .int c].set 2 z))) p = some (.lst [.int a, .int b, z]) := upd_same
    refine ⟨_, rfl, p, _, _, _, rfl, rfl, SqL.of h1, atI_nat (j := 1) rfl, _, _, rfl, rfl, .inr ⟨by decide, by decide⟩, ?_⟩
    refine ⟨_, rfl, p, _, _, _, rfl, rfl, SqL.of h1, atI_nat (j := 2) rfl, _, _, rfl, rfl, .inl ⟨by decide, by decide⟩, _, _, rfl, rfl, _, _, rfl, rfl, _, _, rfl, rfl, (by show (0 : Int) < 2147483647; decide), ?_⟩
    have m0 := mod_pos (i := b * 48271 + 69621 * (c + 1) + 153) (j := 2147483647) (by decide)
    refine ⟨_, rfl, _, _, rfl, rfl, ⟨by decide, by decide, ?_⟩, ?_⟩
    · show ((b * 48271 + 69621 * (c + 1) + 153) % 2147483647).natAbs < 2 ^ 64
      omega
    refine ⟨_, rfl, p, _, _, _, rfl, rfl, SqL.of h1, atI_nat (j := 2) rfl, _, _, rfl, rfl, .inl ⟨by decide, by decide⟩, _, _, rfl, rfl, _, _, rfl, rfl, (by show (0 : Int) < 2147483647; decide), ?_⟩
    refine ⟨_, rfl, p, _, _, 1, rfl, rfl, h1, rfl, ?_⟩
    refine ⟨_, rfl, p, _, _, _, rfl, rfl, SqL.of upd_same, atI_nat (j := 1) rfl, _, _, rfl, rfl, wide_div (b := 5) (by decide) (by decide) (by decide) (by decide), _, rfl, _, _, rfl, rfl, n0, ?_⟩
    refine k _ _ (mod_pos n0).1 (mod_pos n0).2 ?_
    rw [upd_upd]
    exact turned_upd (mod_pos (by decide)).1 (mod_pos (by decide)).2
end
end K2

namespace K2
open PySem L2 Gd
def spIsInt : Sp := fun vs H Q _ => ∃ v, vs = [v] ∧ Pv H v ∧ Q (.bl (isInt v)) H
def spIsNum : Sp := fun vs H Q _ => ∃ x : Str, vs = [.str x] ∧ x.length ≤ 100000 ∧ ∀ H', Same H H' → Q (.bl (nOk x.cps.toList)) H'
section
variable {P : Program} {w : World} {K : PySem.W.Frag} {mg : Str → Option Value} {base : Heap} {C_I f_I : Addr}
abbrev sis_integer : Stmt := top 7
theorem scis_integer : FnScope ["value"] ["value"] (defScope sis_integer) := ⟨rfl, rfl, rfl, by decide +kernel, rfl, by decide +kernel, by decide +kernel⟩
theorem ok_isint {f : Addr} {fd : FuncData} (F : Fun K "is_integer" "is_integer" sis_integer f fd) (T : Txt K mg base C_I f_I) : FnG P w K mg base CX0 1 f fd ["value"] spIsInt := by
  refine okG F scis_integer (fun vs H Q E h => ?_) (fun cdv A outer s H vs Q E hc hr h => ?_)
  · obtain ⟨v, rfl, _⟩ := h
    rfl
  obtain ⟨v, rfl, hv, q⟩ := h
  refine ⟨_, (pss_one (ps_ret (pe_and (pe_callB call_isk (by rfl) T.z_isinstance (by decide +kernel) (pa_cons (pv 0) (pa_cons (pe_bltn (v := .ty "int") (by rfl) T.z_int (by decide +kernel) rfl) pa_nil))) (pe_one (pe_not (pe_callB call_isk (by rfl) T.z_isinstance (by decide +kernel) (pa_cons (pv 0) (pa_cons (pe_bltn (v := .ty "bool") (by rfl) T.z_bool (by decide +kernel) rfl) pa_nil)))))))), ?_⟩
  refine ⟨_, rfl, v, _, rfl, .inl rfl, hv, _, rfl, ?_⟩
  refine ite2 (fun c => ?_) (fun c => ?_)
  · refine ⟨_, rfl, v, _, rfl, .inr (.inr (.inl rfl)), hv, _, rfl, ?_⟩
    have e := isInt_kind H v
    rw [c, Bool.true_and] at e
    show Q (.bl (!inst "bool" (kind H v))) H
    rw [e]
    exact q
  · have e := isInt_kind H v
    rw [Bool.eq_false_iff.mpr c, Bool.false_and] at e
    show Q (.bl false) H
    rw [e]
    exact q
abbrev sis_number : Stmt := top 9
theorem scis_number : FnScope ["text", "digits", "sign"] ["text"] (defScope sis_number) := ⟨rfl, rfl, rfl, by decide +kernel, rfl, by decide +kernel, by decide +kernel⟩
theorem ok_isnum {f : Addr} {fd : FuncData} (F : Fun K "is_number" "is_number" sis_number f fd) (T : Txt K mg base C_I f_I) : FnG P w K mg base CX0 1 f fd ["text"] spIsNum := by
  refine okG F scis_number (fun vs H Q E h => ?_) (fun cdv A outer s H vs Q E hc hr h => ?_)
  · obtain ⟨v, rfl, _⟩ := h
    rfl
  obtain ⟨x, rfl, hx, q⟩ := h
  refine ⟨_, (pss_cons (ps_set (i := 1) scis_number.nd rfl (Or.inl rfl) (pe_bm PySem.F.plainAttrs_str PySem.F.slot_str_removeprefix PySem.F.type_str_removeprefix mt_removeprefix (pv 0) (pa_cons pe_str pa_nil)))
 (pss_cons (ps_if (PW.pt (pw_or (pt_not (pt_chain op_le op_le pe_int (pe_callB call_len_str (by rfl) T.z_len (by decide +kernel) (pa_cons (pv 1) pa_nil)) (pe_k (by rfl) T.g_MOST_DIGITS))) (pw_or1 (pt_not (pt_val (pe_callB (cr_all rfl) (by rfl) T.z_all (by decide +kernel) (pa_cons (pe_lc (own := [("sign", 2)]) (g := gName 2) rfl scis_number.nd (pi_str (pv 1)) (blkOk_by (N := ["text", "digits", "sign"]) (sc := defScope sis_number) (by decide +kernel)) (fun _ _ _ _ _ => pg_name (i := 2) scis_number.nd rfl (Or.inl rfl)) (fun _ _ _ _ _ => pts_nil) (fun _ _ _ _ _ => (pe_chain op_le_str op_le_str pe_str (pv 2) pe_str))) pa_nil)))))))
  (pss_one (ps_ret pe_bl)) pss_nil)
 (pss_one (ps_ret (pe_or (pe_cmpR op_ne (pe_ix ix_str (pv 1) pe_int (fun _ _ => rfl)) pe_str (nomark _)) (pe_one (pe_cmpR op_eq (pv 0) pe_str (nomark _)))))))), ?_⟩
  obtain ⟨d, hd⟩ : ∃ d, d = Txt.removeprefix x "-" := ⟨_, rfl⟩
  have ed : d.cps.toList = body x.cps.toList := by rw [hd]; exact prefix_body x
  have ld : d.length ≤ x.length := by
    have h1 : d.length = (body x.cps.toList).length := by rw [← ed]; exact (Array.length_toList).symm
    have h2 : x.length = x.cps.toList.length := (Array.length_toList).symm
    rw [h1, h2]
    exact body_len _
  have z16 : sizeLine = 16777216 := sizeLine_eq
  have ldn : d.length = (body x.cps.toList).length := by rw [← ed]; exact (Array.length_toList).symm
  refine ⟨_, rfl, rfl, x, _, rfl, rfl, (by omega), ?_⟩
  rw [← hd]
  refine ⟨_, rfl, _, rfl, (by omega), _, _, rfl, rfl, _, rfl, ?_⟩
  have no : dOk (body x.cps.toList) = false → nOk x.cps.toList = false := fun e => by
    unfold nOk
    rw [e]
    rfl
  -- the way of a refused one
  have bad : dOk (body x.cps.toList) = false → ∀ H', Same H H' → Q (.bl false) H' := fun e H' s => by
    have := q H' s
    rw [no e] at this
    exact this
  refine iteB (fun c1 => ?_) (fun c1 => ?_)
  · have c1' := of_decide_eq_true c1
    refine ⟨_, _, rfl, rfl, _, rfl, ?_⟩
    refine iteB (fun c2 => ?_) (fun c2 => ?_)
    · -- too many
      refine iteT (bad ?_ H (Same.refl H))
      have c3 : ¬ ((d.length : Int) ≤ 30) := of_decide_eq_false (by simpa using c2)
      have : ¬ dOk (body x.cps.toList) = true := fun z => by
        have := (dOk_iff.mp z).2.1
        omega
      simpa using this
    · have c3 : (d.length : Int) ≤ 30 := of_decide_eq_true (by simpa using c2)
      refine ⟨_, rfl, d, rfl, fun D hD => ?_⟩
      refine lc_text (fun c => .bl (isDg c)) (fun _ => true) (by omega) (fun c acc Q' _ k => k) (fun c acc Q' hc _ k => ?_) ?_
      · refine ⟨_, rfl, _, _, rfl, rfl, _, rfl, ?_⟩
        have e1 : (!decide ((({ cps := #[c] } : Str)).cps.toList < (("0" : String) : Str).cps.toList)) = decide (48 ≤ c) := by
          show (!decide (([c] : List Nat) < [48])) = _
          rw [lt_sign, ← decide_not]
          exact decide_eq_decide.mpr (by omega)
        have e2 : (!decide ((("9" : String) : Str).cps.toList < (({ cps := #[c] } : Str)).cps.toList)) = decide (c ≤ 57) := by
          show (!decide (([57] : List Nat) < [c])) = _
          rw [lt_sign, ← decide_not]
          exact decide_eq_decide.mpr (by omega)
        rw [e1]
        refine iteB (fun g1 => ?_) (fun g1 => ?_)
        · refine ⟨_, _, rfl, rfl, ?_⟩
          rw [e2]
          have : isDg c = decide (c ≤ 57) := by unfold isDg; rw [g1, Bool.true_and]
          rw [← this]
          exact k
        · have : isDg c = false := by unfold isDg; rw [g1, Bool.false_and]
          rw [← this]
          exact k
      · rw [List.filter_eq_self.mpr (fun _ _ => rfl)]
        refine ⟨D, body x.cps.toList |>.map isDg, rfl, ?_, _, rfl, ?_⟩
        · rw [List.map_map, ed]
          exact SqL.of upd_same
        · have ea : ((body x.cps.toList).map isDg).all id = (body x.cps.toList).all isDg := by
            rw [List.all_map]
            rfl
          rw [ea]
          have sD : Same H (upd H D (.lst (d.cps.toList.map fun c => V.bl (isDg c)))) := fun b o e => by rw [upd_ne (ne_of_none e hD)]; exact e
          refine iteB (fun c4 => ?_) (fun c4 => ?_)
          · refine bad ?_ _ sD
            unfold dOk
            rw [show (body x.cps.toList).all isDg = false by simpa using c4, Bool.and_false]
          · have c5 : (body x.cps.toList).all isDg = true := by simpa using c4
            have hok : dOk (body x.cps.toList) = true := by
              unfold dOk
              rw [c5, decide_eq_true (by omega), decide_eq_true (by omega)]
              rfl
            -- return digits[0] != "0" or text == "0"
            cases eb : body x.cps.toList with
            | nil => rw [eb] at ldn; exact absurd ldn (by simp; omega)
            | cons c r =>
              have hat : atI d.cps.toList 0 = some c := by
                rw [ed, eb]
                exact atI_nat (j := 0) rfl
              have en : nOk x.cps.toList = (!decide (c = 48) || decide (x.cps.toList = [48])) := by
                unfold nOk
                rw [hok, eb, Bool.true_and]
                have : decide ((c :: r).head? = some 48) = decide (c = 48) := decide_eq_decide.mpr (by simp)
                rw [this]
              have e48 : decide (V.str { cps := #[c] } = V.str (("0" : String) : Str)) = decide (c = 48) := by
                refine decide_eq_decide.mpr ⟨fun z => ?_, fun z => by subst z; rfl⟩
                have := congrArg (fun v => match v with | V.str y => y.cps.toList | _ => []) z
                have h2 : [c] = [48] := this
                injection h2
              refine ⟨_, rfl, _, _, c, rfl, rfl, (by omega), hat, rfl, _, rfl, ?_⟩
              rw [e48]
              refine iteB (fun g => ?_) (fun g => ?_)
              · have := q _ sD
                rw [en, g] at this
                exact this
              · refine ⟨_, rfl, rfl, ?_⟩
                have := q _ sD
                rw [en, g, Bool.false_or] at this
                have ex : decide (V.str x = V.str (("0" : String) : Str)) = decide (x.cps.toList = [48]) := by
                  refine decide_eq_decide.mpr ⟨fun z => ?_, fun z => ?_⟩
                  · injection z with z
                    rw [z]
                    rfl
                  · have : x = (("0" : String) : Str) := by
                      obtain ⟨cp⟩ := x
                      have h2 : cp = #[48] := by apply Array.toList_inj.mp; exact z
                      rw [h2]
                      rfl
                    rw [this]
                rw [ex]
                exact this
  · refine ⟨_, rfl, iteT (iteT (bad ?_ H (Same.refl H)))⟩
    have : ¬ dOk (body x.cps.toList) = true := fun z => by
      have := (dOk_iff.mp z).1
      have := of_decide_eq_false c1
      omega
    simpa using this
end
end K2

namespace K2
open PySem L2 Gd
def limV (v : V) : Bool := decide (v = .non) || isInt v
def below (n : Int) : V → Bool
  | .int i => decide (n < i)
  | _ => false
def above (n : Int) : V → Bool
  | .int i => decide (i < n)
  | _ => false
/-- what parse_count returns where both limits are limits -/
def resV (t lo hi : V) : V := match numV t with
  | none => .non
  | some n => if below n lo || above n hi then .non else .int n
def Short (v : V) : Prop := ∀ x, v = .str x → Tx 100000 x
def spParse (C : Addr) : Sp := fun vs H Q E => ∃ t lo hi, vs = [t, lo, hi] ∧ Pv H t ∧ Pv H lo ∧ Pv H hi ∧ Short t ∧
  (limV lo = false → ∀ d H', Same H H' → H' d = none → E (.ref C) (some d) (upd H' d (.xd [("value", lo)]))) ∧
  (limV lo = true → limV hi = false → ∀ d H', Same H H' → H' d = none → E (.ref C) (some d) (upd H' d (.xd [("value", hi)]))) ∧
  (limV lo = true → limV hi = true → ∀ H', Same H H' → Q (resV t lo hi) H')
theorem limV_non : limV .non = true := rfl
theorem limV_int {v : V} (h : v ≠ .non) : limV v = isInt v := by
  unfold limV
  rw [decide_eq_false h, Bool.false_or]
section
variable {P : Program} {w : World} {K : PySem.W.Frag} {mg : Str → Option Value} {base : Heap} {C_I f_I : Addr}
abbrev sparse_count : Stmt := top 8
theorem scparse_count : FnScope ["text", "minimum", "maximum", "limit", "count"] ["text", "minimum", "maximum"] (defScope sparse_count) := ⟨rfl, rfl, rfl, by decide +kernel, rfl, by decide +kernel, by decide +kernel⟩
theorem ok_parse {f f1 f2 : Addr} {fd fd1 fd2 : FuncData} (F : Fun K "parse_count" "parse_count" sparse_count f fd) (T : Txt K mg base C_I f_I)
    (D_is_integer : Df P w K mg base CX0 1 "is_integer" f1 fd1 ["value"] spIsInt) (D_is_number : Df P w K mg base CX0 1 "is_number" f2 fd2 ["text"] spIsNum) :
    FnG P w K mg base (L2.CX P w) 4 f fd ["text", "minimum", "maximum"] (spParse C_I) := by
  refine okG F scparse_count (fun vs H Q E h => ?_) (fun cdv A outer s H vs Q E hc hr h => ?_)
  · obtain ⟨t, lo, hi, rfl, _⟩ := h
    rfl
  obtain ⟨t, lo, hi, rfl, ht, hlo, hhi, hs, e1, e2, q⟩ := h
  refine ⟨_, (pss_cons (ps_for (passes_of rfl) rfl (pi_tup (pe_tup (pa_cons (pv 1) (pa_cons (pv 2) pa_nil)))) (pg_name (i := 3) scparse_count.nd rfl (Or.inl rfl))
  (pss_one (ps_if (PW.pt (pw_and (pt_cmpR op_notN (pv 3) pe_non (nomark _)) (pw_and1 (pt_not (pt_val (pe_d D_is_integer hc (hr.mono (by decide)) (by rfl) (fun _ => passN) (pa_cons (pv 3) pa_nil)))))))
  (pss_one (ps_raise_value rfl T.e_InvalidInteger hr (takes_of rfl rfl rfl rfl) (pa_cons (pv 3) pa_nil))) pss_nil)))
 (pss_cons (ps_if (PW.pt (pw_or (pt_not (pt_val (pe_callB call_isk (by rfl) T.z_isinstance (by decide +kernel) (pa_cons (pv 0) (pa_cons (pe_bltn (v := .ty "str") (by rfl) T.z_str (by decide +kernel) rfl) pa_nil))))) (pw_or1 (pt_not (pt_val (pe_d D_is_number hc (hr.mono (by decide)) (by rfl) (fun _ => passN) (pa_cons (pv 0) pa_nil)))))))
  (pss_one (ps_ret pe_non)) pss_nil)
 (pss_cons (ps_set (i := 4) scparse_count.nd rfl (Or.inl rfl) (pe_callTy call_int_str (by rfl) T.z_int (by decide +kernel) (pa_cons (pv 0) pa_nil)))
 (pss_cons (ps_if (PW.pt (pw_and (pt_cmpR op_notN (pv 1) pe_non (nomark _)) (pw_and1 (pt_cmpR op_lt (pv 4) (pv 1) (nomark _)))))
  (pss_one (ps_ret pe_non)) pss_nil)
 (pss_cons (ps_if (PW.pt (pw_and (pt_cmpR op_notN (pv 2) pe_non (nomark _)) (pw_and1 (pt_cmpR op_gt (pv 4) (pv 2) (nomark _)))))
  (pss_one (ps_ret pe_non)) pss_nil)
 (pss_one (ps_ret (pv 4)))))))), ?_⟩
  refine ⟨_, rfl, _, rfl, by show 2 ≤ sizeLine; decide, fun p hp => ⟨p, rfl, ⟨_, SqT.of upd_same⟩, ?_⟩⟩
  have sp : Same H (upd H p (.tup [lo, hi])) := fun b o e => by rw [upd_ne (ne_of_none e hp)]; exact e
  refine for_tup (K := K) (a := p) (xs := [lo, hi]) (fun i σ H1 => (∃ v, σ = [some t, some lo, some hi, v, none]) ∧ H1 = upd H p (.tup [lo, hi]) ∧ (1 ≤ i → limV lo = true) ∧ (2 ≤ i → limV hi = true))
    ⟨⟨none, rfl⟩, rfl, fun z => absurd z (by decide), fun z => absurd z (by decide)⟩ (fun i σ H1 _ ⟨_, e, _⟩ => by rw [e]; exact SqT.of upd_same) ?_ ?_
  · rintro i x σ H1 hx ⟨⟨v, rfl⟩, rfl, g1, g2⟩
    have hv : Pv H x := by
      match i, hx with
      | 0, hx => cases hx; exact hlo
      | 1, hx => cases hx; exact hhi
    have step : limV x = true → (1 ≤ i + 1 → limV lo = true) ∧ (2 ≤ i + 1 → limV hi = true) := fun hl => by
      match i, hx with
      | 0, hx => cases hx; exact ⟨fun _ => hl, fun z => absurd z (by decide)⟩
      | 1, hx => cases hx; exact ⟨fun _ => g1 (by decide), fun _ => hl⟩
    refine ⟨_, rfl, rfl, _, rfl, ?_⟩
    refine iteB (fun c0 => ?_) (fun c0 => ?_)
    · have hn : x ≠ .non := by simpa using c0
      refine ⟨_, rfl, x, rfl, hv.same sp, _, rfl, ?_⟩
      refine iteB (fun c => ?_) (fun c => ?_)
      · have hx0 : limV x = false := by rw [limV_int hn]; simpa using c
        refine ⟨_, rfl, x, rfl, fun d hd => ?_⟩
        match i, hx with
        | 0, hx => cases hx; exact e1 hx0 d _ sp hd
        | 1, hx => cases hx; exact e2 (g1 (by decide)) hx0 d _ sp hd
      · exact ⟨⟨_, rfl⟩, rfl, step (by rw [limV_int hn]; simpa using c)⟩
    · have hn : x = .non := by simpa using c0
      exact iteF ⟨⟨_, rfl⟩, rfl, step (by rw [hn]; rfl)⟩
  · rintro σ H1 ⟨⟨v, rfl⟩, rfl, g1, g2⟩
    have l1 := g1 (Nat.le_succ 1)
    have l2 := g2 (Nat.le_refl 2)
    have fin := q l1 l2
    refine ⟨_, rfl, t, _, rfl, .inr (.inl rfl), ht.same sp, _, rfl, ?_⟩
    rw [isStr_kind]
    refine iteB (fun c => ?_) (fun c => ?_)
    · -- no text
      refine iteT ?_
      have : numV t = none := by
        cases t <;> first | rfl | exact absurd (show (!true) = true from c) (by decide)
      have r := fin _ sp
      unfold resV at r
      rw [this] at r
      exact r
    · obtain ⟨x, rfl⟩ := isStr_iff (v := t) (by simpa using c)
      refine ⟨_, rfl, x, rfl, (hs x rfl).len, fun H2 s2 => ⟨_, rfl, ?_⟩⟩
      have s3 := sp.trans s2
      refine iteB (fun c => ?_) (fun c => ?_)
      · have : numV (.str x) = none := if_neg (by simpa using c)
        have r := fin _ s3
        unfold resV at r
        rw [this] at r
        exact r
      · have hn : nOk x.cps.toList = true := by simpa using c
        have en : numV (.str x) = some (valL x.cps.toList) := if_pos hn
        have r := fin _ s3
        unfold resV at r
        rw [en] at r
        have r : Q (if below (valL x.cps.toList) lo || above (valL x.cps.toList) hi then .non else .int (valL x.cps.toList)) H2 := r
        obtain ⟨i1, i2⟩ := int_num hn
        refine ⟨_, rfl, x, _, rfl, i1, (by omega), ?_⟩
        refine ⟨_, rfl, rfl, _, rfl, ?_⟩
        have low : limV lo = true → lo ≠ .non → ∃ i, lo = .int i := fun l n => isInt_iff (by rw [← limV_int n]; exact l)
        have upp : limV hi = true → hi ≠ .non → ∃ i, hi = .int i := fun l n => isInt_iff (by rw [← limV_int n]; exact l)
        refine iteB (fun c0 => ?_) (fun c0 => ?_)
        · obtain ⟨i, rfl⟩ := low l1 (by simpa using c0)
          refine ⟨_, rfl, _, rfl, _, _, rfl, rfl, _, rfl, ?_⟩
          refine iteB (fun c1 => ?_) (fun c1 => ?_)
          · rw [show below (valL x.cps.toList) (.int i) = true from c1, Bool.true_or, if_pos rfl] at r
            exact r
          · rw [show below (valL x.cps.toList) (.int i) = false from c1, Bool.false_or] at r
            refine ⟨_, rfl, rfl, _, rfl, ?_⟩
            refine iteB (fun c2 => ?_) (fun c2 => ?_)
            · obtain ⟨j, rfl⟩ := upp l2 (by simpa using c2)
              refine ⟨_, rfl, _, rfl, _, _, rfl, rfl, _, rfl, ?_⟩
              refine iteB (fun c3 => ?_) (fun c3 => ?_)
              · rw [show above (valL x.cps.toList) (.int j) = true from c3, if_pos rfl] at r
                exact r
              · rw [show above (valL x.cps.toList) (.int j) = false from c3, if_neg Bool.false_ne_true] at r
                exact ⟨_, rfl, r⟩
            · have c4 : hi = .non := by simpa using c2
              subst c4
              exact iteF ⟨_, rfl, r⟩
        · have c4 : lo = .non := by simpa using c0
          subst c4
          have r : Q (if above (valL x.cps.toList) hi then .non else .int (valL x.cps.toList)) H2 := r
          refine iteF ?_
          refine ⟨_, rfl, rfl, _, rfl, ?_⟩
          refine iteB (fun c2 => ?_) (fun c2 => ?_)
          · obtain ⟨j, rfl⟩ := upp l2 (by simpa using c2)
            refine ⟨_, rfl, _, rfl, _, _, rfl, rfl, _, rfl, ?_⟩
            refine iteB (fun c3 => ?_) (fun c3 => ?_)
            · rw [show above (valL x.cps.toList) (.int j) = true from c3, if_pos rfl] at r
              exact r
            · rw [show above (valL x.cps.toList) (.int j) = false from c3, if_neg Bool.false_ne_true] at r
              exact ⟨_, rfl, r⟩
          · have c4 : hi = .non := by simpa using c2
            subst c4
            exact iteF ⟨_, rfl, r⟩
end
end K2

namespace K2
open PySem L2 Gd
def spText : Sp := fun vs H Q _ => ∃ p : Addr, vs = [.ref p] ∧ BoxAt H p ∧ ∀ x H', Tx 200 x → Kept H H' p → Q (.str x) H'
section
variable {P : Program} {w : World} {K : PySem.W.Frag} {mg : Str → Option Value} {base : Heap} {C_I f_I : Addr}
abbrev s_law_text : Stmt := top 14
theorem sc_law_text : FnScope ["_law_box_here", "_law_digits", "_law_size", "_law_typed", "_law_at", "_law_some", "_law_k"] ["_law_box_here"] (defScope s_law_text) := ⟨rfl, rfl, rfl, by decide +kernel, rfl, by decide +kernel, by decide +kernel⟩
theorem ok_text {f f1 : Addr} {fd fd1 : FuncData} (F : Fun K "_law_text" "_law_text" s_law_text f fd) (T : Txt K mg base C_I f_I)
    (D__law_take : Df P w K mg base CX0 1 "_law_take" f1 fd1 ["_law_box_here", "_law_size"] spTake) : FnG P w K mg base CX0 2 f fd ["_law_box_here"] spText := by
  refine okG F sc_law_text (fun vs H Q E h => ?_) (fun cdv A outer s H vs Q E hc hr h => ?_)
  · obtain ⟨p, rfl, _⟩ := h
    rfl
  obtain ⟨p, rfl, hb, q⟩ := h
  refine ⟨_, (pss_cons (ps_set (i := 1) sc_law_text.nd rfl (Or.inr rfl) pe_str)
 (pss_cons (ps_set (i := 2) sc_law_text.nd rfl (Or.inl rfl) (pe_ix ix_list (pe_lst (pa_cons pe_int (pa_cons pe_int (pa_cons pe_int (pa_cons pe_int (pa_cons pe_int (pa_cons (pe_op op_add pe_int (pe_d D__law_take hc (hr.mono (by decide)) (by rfl) (fun _ => passN) (pa_cons (pv 0) (pa_cons pe_int pa_nil)))) (pa_cons (pe_op op_add pe_int (pe_d D__law_take hc (hr.mono (by decide)) (by rfl) (fun _ => passN) (pa_cons (pv 0) (pa_cons pe_int pa_nil)))) pa_nil)))))))) (pe_d D__law_take hc (hr.mono (by decide)) (by rfl) (fun _ => passN) (pa_cons (pv 0) (pa_cons pe_int pa_nil))) (fun _ _ => rfl)))
 (pss_cons (ps_set (i := 3) sc_law_text.nd rfl (Or.inl rfl) (pe_join pe_str (pe_lc (own := [("_law_k", 6)]) (g := gName 6) rfl sc_law_text.nd (pi_range1 rfl T.z_range (pa_cons (pv 2) pa_nil)) (blkOk_by (N := ["_law_box_here", "_law_digits", "_law_size", "_law_typed", "_law_at", "_law_some", "_law_k"]) (sc := defScope s_law_text) (by decide +kernel)) (fun _ _ _ _ _ => pg_name (i := 6) sc_law_text.nd rfl (Or.inl rfl)) (fun _ _ _ _ _ => pts_nil) (fun _ _ _ _ _ => (pe_ix ix_str (pv 1) (pe_d D__law_take hc (hr.mono (by decide)) (by rfl) (fun _ => passN) (pa_cons (pv 0) (pa_cons pe_int pa_nil))) (fun _ _ => rfl))))))
 (pss_mid (ps_if (PW.pt (pw_and (pt_cmpR op_gt (pe_d D__law_take hc (hr.mono (by decide)) (by rfl) (fun _ => passN) (pa_cons (pv 0) (pa_cons pe_int pa_nil))) pe_int (nomark _)) (pw_and (pt_cmpR op_eq (pe_ix ix_str (pv 3) pe_int (fun _ _ => rfl)) pe_str (nomark _)) (pw_and1 (pt_cmpR op_gt (pv 2) pe_int (nomark _))))))
  (pss_one (ps_set (i := 3) sc_law_text.nd rfl (Or.inl rfl) (pe_op op_add_str (pe_ix ix_str (pv 1) (pe_op op_add pe_int (pe_d D__law_take hc (hr.mono (by decide)) (by rfl) (fun _ => passN) (pa_cons (pv 0) (pa_cons pe_int pa_nil)))) (fun _ _ => rfl)) (pe_slice sl_str (pv 3) (po_some pe_int) po_none)))) pss_nil)
 (pss_cons (ps_set (i := 3) sc_law_text.nd rfl (Or.inl rfl) (pe_op op_add_str (pe_ix ix_list (pe_lst (pa_cons pe_str (pa_cons pe_str (pa_cons pe_str (pa_cons pe_str (pa_cons pe_str (pa_cons pe_str pa_nil))))))) (pe_d D__law_take hc (hr.mono (by decide)) (by rfl) (fun _ => passN) (pa_cons (pv 0) (pa_cons pe_int pa_nil))) (fun _ _ => rfl)) (pv 3)))
 (pss_cons (ps_set (i := 4) sc_law_text.nd rfl (Or.inl rfl) (pe_d D__law_take hc (hr.mono (by decide)) (by rfl) (fun _ => passN) (pa_cons (pv 0) (pa_cons (pe_op op_add (pe_callB call_len_str (by rfl) T.z_len (by decide +kernel) (pa_cons (pv 3) pa_nil)) pe_int) pa_nil))))
 (pss_cons (ps_set (i := 5) sc_law_text.nd rfl (Or.inl rfl) (pe_lst (pa_cons pe_str (pa_cons pe_str (pa_cons pe_str (pa_cons pe_str (pa_cons pe_str (pa_cons pe_str (pa_cons pe_str (pa_cons pe_str (pa_cons pe_str (pa_cons pe_str (pa_cons pe_str pa_nil)))))))))))))
 (pss_one (ps_ret (pe_op op_add_str (pe_op op_add_str (pe_slice sl_str (pv 3) po_none (po_some (pv 4))) (pe_ix ix_list (pv 5) (pe_d D__law_take hc (hr.mono (by decide)) (by rfl) (fun _ => passN) (pa_cons (pv 0) (pa_cons pe_int pa_nil))) (fun _ _ => rfl))) (pe_slice sl_str (pv 3) (po_some (pv 4)) po_none))))))))))), ?_⟩
  -- the size
  refine ⟨_, rfl, p, 8, rfl, hb, by decide, by decide, fun d1 H1 a1 b1 t1 => ⟨_, _, rfl, rfl, ?_⟩⟩
  refine ⟨_, rfl, p, 33, rfl, t1.box, by decide, by decide, fun d2 H2 a2 b2 t2 => ⟨_, _, rfl, rfl, ?_⟩⟩
  have k2 : Kept H H2 p := t1.kept.turn t2
  refine ⟨by show 7 ≤ sizeLine; decide, fun l hl => ?_⟩
  have k3 := k2.new (o := .lst [.int 1, .int 2, .int 3, .int 30, .int 31, .int (1 + d1), .int (1 + d2)]) hl
  refine ⟨_, rfl, p, 7, rfl, k3.box, by decide, by decide, fun d3 H3 a3 b3 t3 => ?_⟩
  have k4 := k3.turn t3
  have hl3 : H3 l = some (.lst [.int 1, .int 2, .int 3, .int 30, .int 31, .int (1 + d1), .int (1 + d2)]) := t3.at (Kept.ne k2.box hl) upd_same
  obtain ⟨v, hv, z, rfl, z1, z2⟩ := atI_all (l := [V.int 1, .int 2, .int 3, .int 30, .int 31, .int (1 + d1), .int (1 + d2)]) (p := fun v => ∃ z, v = .int z ∧ 1 ≤ z ∧ z ≤ 34) (by
    intro v hv
    simp only [List.mem_cons, List.not_mem_nil, or_false] at hv
    rcases hv with rfl | rfl | rfl | rfl | rfl | rfl | rfl <;> exact ⟨_, rfl, by omega, by omega⟩) a3 (by show d3 < 7; exact b3)
  refine ⟨l, _, _, _, rfl, rfl, SqL.of hl3, hv, ?_⟩
  have dg : Tx 10 (("0123456789" : String) : Str) := .of (by decide +kernel)
  have dl : ((("0123456789" : String) : Str)).length = 10 := by decide +kernel
  have z16 : sizeLine = 16777216 := sizeLine_eq
  -- the digits
  refine ⟨⟨_, rfl⟩, _, rfl, _, rfl, by omega, by omega, fun D hD => ?_⟩
  have hD0 : H D = none := k4.free hb hD
  have hDp : D ≠ p := Kept.ne hb hD0
  refine lc_range (lo := 0) (n := z.toNat) (fun i H' => ∃ ys : List Str, ys.length = i ∧ (∀ y ∈ ys, Tx 1 y ∧ y.length = 1) ∧ H' D = some (.lst (ys.map V.str)) ∧ Kept H H' p)
    ⟨[], rfl, fun _ h => absurd h List.not_mem_nil, upd_same, k4.put hb hD0⟩ ?_ ?_
  · rintro i Hh hi ⟨ys, e1, e2, e3, k5⟩
    refine ⟨wipe1 _ _ _, ?_⟩
    refine yes_go ?_
    refine ⟨_, rfl, _, rfl, p, 10, rfl, k5.box, by decide, by decide, fun d H4 a b t => ?_⟩
    obtain ⟨c, hc, hc1, _⟩ := atI_sign dg a (by rw [dl]; exact b)
    refine ⟨_, _, c, rfl, rfl, by omega, hc, ys.map V.str, t.at hDp e3, ?_, ys ++ [⟨#[c]⟩], ?_, ?_, ?_, (k5.turn t).put hb hD0⟩
    · rw [List.length_map]
      omega
    · rw [List.length_append, e1]
      rfl
    · intro y hy
      rcases List.mem_append.mp hy with h | h
      · exact e2 y h
      · have : y = ⟨#[c]⟩ := by simpa using h
        rw [this]
        exact ⟨hc1, rfl⟩
    · rw [upd_same, List.map_append]
      rfl
  rintro H5 ⟨ys, e1, e2, e3, k5⟩
  refine ⟨_, D, ys, rfl, rfl, .inl (SqL.of e3), ?_, ?_⟩
  · have h1 : (ys.map (·.length)).sum ≤ ys.length * 1 := by
      have := sum_le (l := ys.map (·.length)) (n := 1) fun x hx => by
        obtain ⟨y, hy, rfl⟩ := List.mem_map.mp hx
        exact (e2 y hy).1.len
      rw [List.length_map] at this
      exact this
    have h2 : ((("" : String) : Str)).length = 0 := by decide +kernel
    rw [h2]
    omega
  have tj : Tx 34 (Txt.join "" ys) := by
    have h0 : Tx 0 (("" : String) : Str) := .of (by decide +kernel)
    exact (h0.join (n := 1) (k := 34) (fun y hy => (e2 y hy).1) (by omega)).mono (by decide)
  have jl : (Txt.join "" ys).length = z.toNat := by
    rw [join_str, join_empty_len, ← e1]
    have : ys.map (·.length) = List.replicate ys.length 1 := List.eq_replicate_iff.mpr ⟨by simp, fun x hx => by
      obtain ⟨y, hy, rfl⟩ := List.mem_map.mp hx
      exact (e2 y hy).2⟩
    rw [this, List.sum_replicate_nat, Nat.mul_one]
  generalize Txt.join "" ys = y0 at tj jl
  -- no zero ahead, perhaps
  refine ⟨fun σ H' => ∃ y m, σ = [some (.ref p), some (.str "0123456789"), some (.int z), some (.str y), none, none, m] ∧ Tx 40 y ∧ Kept H H' p, ?_, ?_⟩
  · refine ⟨_, rfl, p, 3, rfl, k5.box, by decide, by decide, fun d H6 a b t => ?_⟩
    have k6 := k5.turn t
    refine ⟨_, _, rfl, rfl, _, rfl, ?_⟩
    refine iteB (fun c1 => ?_) (fun c1 => iteF ⟨y0, _, rfl, tj.mono (by decide), k6⟩)
    obtain ⟨c, hc, _, _⟩ := atI_sign tj (d := 0) (by decide) (by rw [jl]; omega)
    have := tj.len
    refine ⟨_, rfl, _, _, c, rfl, rfl, by omega, hc, rfl, _, rfl, ?_⟩
    refine iteB (fun c2 => ?_) (fun c2 => iteF ⟨y0, _, rfl, tj.mono (by decide), k6⟩)
    refine ⟨_, rfl, _, _, rfl, rfl, _, rfl, ?_⟩
    refine iteB (fun c3 => ?_) (fun c3 => ⟨y0, _, rfl, tj.mono (by decide), k6⟩)
    refine ⟨_, rfl, _, rfl, p, 9, rfl, k6.box, by decide, by decide, fun d H7 a b t => ?_⟩
    obtain ⟨c, hc, hc1, _⟩ := atI_sign dg (d := 1 + d) (by omega) (by rw [dl]; omega)
    refine ⟨_, _, rfl, rfl, _, _, c, rfl, rfl, by omega, hc, ?_⟩
    refine ⟨_, rfl, _, rfl, _, rfl, by omega, ?_⟩
    have tc := tj.cut (some 1) none
    refine ⟨_, _, rfl, rfl, ?_, _, _, rfl, (hc1.app tc).mono (by decide), k6.turn t⟩
    have := tc.len
    have := hc1.len
    omega
  rintro σ H6 ⟨y, m, rfl, ty, k6⟩
  -- a sign ahead
  refine ⟨by show 6 ≤ sizeLine; decide, fun l hl => ?_⟩
  have k7 := k6.new (o := .lst [.str "", .str "", .str "-", .str "+", .str "0", .str "-0"]) hl
  refine ⟨_, rfl, p, 6, rfl, k7.box, by decide, by decide, fun d H7 a b t => ?_⟩
  obtain ⟨v, hv, x1, rfl, tx1⟩ := atI_all (l := [V.str "", .str "", .str "-", .str "+", .str "0", .str "-0"]) (p := fun v => ∃ x, v = .str x ∧ Tx 2 x) (by
    intro v hv
    simp only [List.mem_cons, List.not_mem_nil, or_false] at hv
    rcases hv with rfl | rfl | rfl | rfl | rfl | rfl <;> exact ⟨_, rfl, .of (by decide +kernel)⟩) a (by show d < 6; exact b)
  refine ⟨l, _, _, _, rfl, rfl, SqL.of (t.at (Kept.ne k6.box hl) upd_same), hv, ?_⟩
  have ty1 := tx1.app ty
  refine ⟨_, rfl, _, _, rfl, rfl, (by have := ty.len; have := tx1.len; omega), ?_⟩
  generalize x1 ++ y = y1 at ty1
  have l1 := ty1.len
  refine ⟨_, rfl, _, rfl, _, rfl, by omega, _, _, rfl, rfl, p, _, rfl, (k7.turn t).box, by omega, by omega, fun d8 H8 a8 b8 t8 => ?_⟩
  have k8 := (k7.turn t).turn t8
  refine ⟨by show 11 ≤ sizeLine; decide, fun l2 hl2 => ?_⟩
  have k9 := k8.new (o := .lst [.str "", .str "", .str "", .str " ", .str "_", .str "-", .str ".", .str "x", .str "\n", .str ",", .str "0"]) hl2
  refine ⟨_, rfl, _, rfl, _, rfl, y1, rfl, by omega, ?_⟩
  refine ⟨_, rfl, _, rfl, p, 11, rfl, k9.box, by decide, by decide, fun d9 H9 a9 b9 t9 => ?_⟩
  obtain ⟨v, hv, x2, rfl, tx2⟩ := atI_all (l := [V.str "", .str "", .str "", .str " ", .str "_", .str "-", .str ".", .str "x", .str "\n", .str ",", .str "0"]) (p := fun v => ∃ x, v = .str x ∧ Tx 1 x) (by
    intro v hv
    simp only [List.mem_cons, List.not_mem_nil, or_false] at hv
    rcases hv with rfl | rfl | rfl | rfl | rfl | rfl | rfl | rfl | rfl | rfl | rfl <;> exact ⟨_, rfl, .of (by decide +kernel)⟩) a9 (by show d9 < 11; exact b9)
  refine ⟨l2, _, _, _, rfl, rfl, SqL.of (t9.at (Kept.ne k8.box hl2) upd_same), hv, ?_⟩
  have c1 := ty1.cut none (some d8)
  have c2 := ty1.cut (some d8) none
  have n1 := c1.len
  have n2 := c2.len
  have n3 := tx2.len
  refine ⟨_, _, rfl, rfl, by omega, ?_⟩
  have c3 := c1.app tx2
  have n4 := c3.len
  refine ⟨_, rfl, _, rfl, _, rfl, y1, rfl, by omega, _, _, rfl, rfl, by omega, ?_⟩
  exact q _ _ ((c3.app c2).mono (by decide)) (k9.turn t9)
end
end K2

namespace K2
open PySem L2 Gd
def numR (v : V) : V := match numV v with
  | none => .non
  | some n => .int n
def spNumber : Sp := fun vs H Q _ => ∃ v, vs = [v] ∧ Pv H v ∧ Short v ∧ ∀ H', Same H H' → Q (numR v) H'
def spIsLimit : Sp := fun vs H Q _ => ∃ v, vs = [v] ∧ Pv H v ∧ Q (.bl (limV v)) H
/-- what the two roads tell: a word and a value -/
abbrev sInv : Str := "invalid"
abbrev sRet : Str := "returned"
def told (t lo hi : V) : Str × V :=
  if limV lo = false then (sInv, lo) else if limV hi = false then (sInv, hi) else (sRet, resV t lo hi)
theorem told_lo {t lo hi : V} (h : limV lo = false) : told t lo hi = (sInv, lo) := if_pos h
theorem told_hi {t lo hi : V} (h : limV lo = true) (h2 : limV hi = false) : told t lo hi = (sInv, hi) := by
  unfold told
  rw [if_neg (by rw [h]; simp), if_pos h2]
theorem told_ok {t lo hi : V} (h : limV lo = true) (h2 : limV hi = true) : told t lo hi = (sRet, resV t lo hi) := by
  unfold told
  rw [if_neg (by rw [h]; simp), if_neg (by rw [h2]; simp)]
def spTold : Sp := fun vs H Q _ => ∃ t lo hi, vs = [t, lo, hi] ∧ Pv H t ∧ Pv H lo ∧ Pv H hi ∧ Short t ∧
  ∀ H' p, Same H H' → H p = none → H' p = some (.lst [.str (told t lo hi).1, (told t lo hi).2]) → Q (.ref p) H'
section
variable {P : Program} {w : World} {K : PySem.W.Frag} {mg : Str → Option Value} {base : Heap} {C_I f_I : Addr}
abbrev s_law_is_limit : Stmt := top 17
theorem sc_law_is_limit : FnScope ["_law_thing"] ["_law_thing"] (defScope s_law_is_limit) := ⟨rfl, rfl, rfl, by decide +kernel, rfl, by decide +kernel, by decide +kernel⟩
theorem ok_islimit {f : Addr} {fd : FuncData} (F : Fun K "_law_is_limit" "_law_is_limit" s_law_is_limit f fd) (T : Txt K mg base C_I f_I) : FnG P w K mg base CX0 1 f fd ["_law_thing"] spIsLimit := by
  refine okG F sc_law_is_limit (fun vs H Q E h => ?_) (fun cdv A outer s H vs Q E hc hr h => ?_)
  · obtain ⟨v, rfl, _⟩ := h
    rfl
  obtain ⟨v, rfl, hv, q⟩ := h
  refine ⟨_, (pss_one (ps_ret (pe_or (pe_cmpR op_isN (pv 0) pe_non (nomark _)) (pe_one (pe_and (pe_callB call_isk (by rfl) T.z_isinstance (by decide +kernel) (pa_cons (pv 0) (pa_cons (pe_bltn (v := .ty "int") (by rfl) T.z_int (by decide +kernel) rfl) pa_nil))) (pe_and (pe_cmpR op_notB (pv 0) pe_bl (nomark _)) (pe_one (pe_cmpR op_notB (pv 0) pe_bl (nomark _))))))))), ?_⟩
  refine ⟨_, rfl, rfl, _, rfl, ?_⟩
  refine iteB (fun c => ?_) (fun c => ?_)
  · have : limV v = true := by unfold limV; rw [c, Bool.true_or]
    rw [this] at q
    exact q
  have hn : v ≠ .non := of_decide_eq_false c
  rw [limV_int hn] at q
  refine ⟨_, rfl, v, _, rfl, .inl rfl, hv, _, rfl, ?_⟩
  have e := isInt_kind H v
  refine iteB (fun c1 => ?_) (fun c1 => ?_)
  · rw [c1, Bool.true_and] at e
    refine ⟨_, rfl, _, rfl, _, rfl, ?_⟩
    refine iteB (fun c2 => ?_) (fun c2 => ?_)
    · refine ⟨_, rfl, _, rfl, ?_⟩
      have e3 : (!decide (v = V.bl false)) = isInt v := by
        cases v with
        | bl b => cases b <;> first | rfl | exact absurd (show (!true) = true from c2) (by decide)
        | int i => rfl
        | ref a => rcases kind_ref (H := H) (a := a) with z | z | z | z <;> rw [z] at c1 <;> exact absurd c1 (by decide +kernel)
        | _ => exact absurd (show (false : Bool) = true from c1) (by decide)
      rw [e3]
      exact q
    · have e3 : isInt v = false := by
        have : v = .bl true := by simpa using c2
        rw [this]
        rfl
      rw [e3] at q
      exact q
  · rw [c1, Bool.false_and] at e
    rw [← e] at q
    exact q
abbrev s_law_number : Stmt := top 15
theorem sc_law_number : FnScope ["_law_typed", "_law_digits", "_law_sign", "_law_found"] ["_law_typed"] (defScope s_law_number) := ⟨rfl, rfl, rfl, by decide +kernel, rfl, by decide +kernel, by decide +kernel⟩
theorem ok_number {f : Addr} {fd : FuncData} (F : Fun K "_law_number" "_law_number" s_law_number f fd) (T : Txt K mg base C_I f_I) : FnG P w K mg base CX0 1 f fd ["_law_typed"] spNumber := by
  refine okG F sc_law_number (fun vs H Q E h => ?_) (fun cdv A outer s H vs Q E hc hr h => ?_)
  · obtain ⟨v, rfl, _⟩ := h
    rfl
  obtain ⟨v, rfl, hv, hs, q⟩ := h
  refine ⟨_, (pss_cons (ps_if (pt_not (pt_val (pe_callB call_isk (by rfl) T.z_isinstance (by decide +kernel) (pa_cons (pv 0) (pa_cons (pe_bltn (v := .ty "str") (by rfl) T.z_str (by decide +kernel) rfl) pa_nil)))))
  (pss_one (ps_ret pe_non)) pss_nil)
 (pss_mid (ps_set (i := 1) sc_law_number.nd rfl (Or.inl rfl) (pe_ifExp (pt_cmpR op_eq (pe_slice sl_str (pv 0) po_none (po_some pe_int)) pe_str (nomark _)) (pe_slice sl_str (pv 0) (po_some pe_int) po_none) (pv 0)))
 (pss_cons (ps_if (PW.pt (pw_or (pt_cmpR op_eq (pv 1) pe_str (nomark _)) (pw_or (pt_cmpR op_gt (pe_callB call_len_str (by rfl) T.z_len (by decide +kernel) (pa_cons (pv 1) pa_nil)) pe_int (nomark _)) (pw_or1 (pt_cmpR (op_neD hr.units) (pe_lc (own := [("_law_sign", 2)]) (g := gName 2) rfl sc_law_number.nd (pi_str (pv 1)) (blkOk_by (N := ["_law_typed", "_law_digits", "_law_sign", "_law_found"]) (sc := defScope s_law_number) (by decide +kernel)) (fun _ _ _ _ _ => pg_name (i := 2) sc_law_number.nd rfl (Or.inl rfl)) (fun _ _ _ _ _ => (pts_one (pt_cmpR op_notIn_sign (pv 2) pe_str rfl))) (fun _ _ _ _ _ => (pv 2))) (pe_lst pa_nil) (nomark _))))))
  (pss_one (ps_ret pe_non)) pss_nil)
 (pss_cons (ps_if (PW.pt (pw_and (pt_cmpR op_ne (pv 0) pe_str (nomark _)) (pw_and1 (pt_cmpR op_eq (pe_ix ix_str (pv 1) pe_int (fun _ _ => rfl)) pe_str (nomark _)))))
  (pss_one (ps_ret pe_non)) pss_nil)
 (pss_cons (ps_set (i := 3) sc_law_number.nd rfl (Or.inl rfl) pe_int)
 (pss_cons (ps_for (passes_of rfl) rfl (pi_str (pv 1)) (pg_name (i := 2) sc_law_number.nd rfl (Or.inl rfl))
  (pss_one (ps_set (i := 3) sc_law_number.nd rfl (Or.inl rfl) (pe_op op_add (pe_op op_mul (pv 3) pe_int) (pe_bm PySem.F.plainAttrs_str PySem.F.slot_str_index PySem.F.type_str_index mt_sindex pe_str (pa_cons (pv 2) pa_nil))))))
 (pss_one (ps_ret (pe_ifExp (pt_cmpR op_eq (pe_ix ix_str (pv 0) pe_int (fun _ _ => rfl)) pe_str (nomark _)) (pe_op op_sub pe_int (pv 3)) (pv 3)))))))))), ?_⟩
  refine ⟨_, rfl, v, _, rfl, .inr (.inl rfl), hv, _, rfl, ?_⟩
  rw [isStr_kind]
  refine iteB (fun c => ?_) (fun c => ?_)
  · have : numR v = .non := by
      cases v <;> first | rfl | exact absurd (show (!true) = true from c) (by decide)
    have r := q H (Same.refl H)
    rw [this] at r
    exact r
  obtain ⟨x, rfl⟩ := isStr_iff (v := v) (by simpa using c)
  have tx := hs x rfl
  have hl := tx.len
  have z16 : sizeLine = 16777216 := sizeLine_eq
  have no : nOk x.cps.toList = false → ∀ H', Same H H' → Q .non H' := fun e H' sm => by
    have r := q H' sm
    unfold numR at r
    rw [show numV (.str x) = none from if_neg (by rw [e]; exact Bool.false_ne_true)] at r
    exact r
  have yes : nOk x.cps.toList = true → ∀ H', Same H H' → Q (.int (valL x.cps.toList)) H' := fun e H' sm => by
    have r := q H' sm
    unfold numR at r
    rw [show numV (.str x) = some (valL x.cps.toList) from if_pos e] at r
    exact r
  have eneg : (("-" : String) : Str).cps.toList = [45] := by decide +kernel
  have ezero : (("0" : String) : Str).cps.toList = [48] := by decide +kernel
  have enil : (("" : String) : Str).cps.toList = [] := by decide +kernel
  have edig : (("0123456789" : String) : Str).cps.toList = [48, 49, 50, 51, 52, 53, 54, 55, 56, 57] := by decide +kernel
  -- the digits behind the sign
  refine ⟨fun σ H' => ∃ d : Str, σ = [some (.str x), some (.str d), none, none] ∧ d.cps.toList = body x.cps.toList ∧ H' = H, ?_, ?_⟩
  · refine ⟨_, rfl, _, rfl, x, rfl, by omega, rfl, _, rfl, ?_⟩
    have ct : (cutS x none (some 1)).cps.toList = x.cps.toList.take 1 := cut_take x 1
    have cd : (cutS x (some 1) none).cps.toList = x.cps.toList.drop 1 := cut_drop x 1
    rw [str_eq, eneg, ct]
    refine iteB (fun c => ?_) (fun c => ?_)
    · have c1 := of_decide_eq_true c
      refine ⟨_, rfl, _, rfl, x, rfl, by omega, cutS x (some 1) none, rfl, ?_, rfl⟩
      rw [cd]
      cases hh : x.cps.toList with
      | nil => rw [hh] at c1; exact nomatch c1
      | cons a r =>
        rw [hh] at c1
        injection c1 with c2 _
        subst c2
        show r = if (45 : Nat) = 45 then r else 45 :: r
        rw [if_pos rfl]
    · have c1 := of_decide_eq_false c
      refine ⟨_, rfl, x, rfl, ?_, rfl⟩
      cases hh : x.cps.toList with
      | nil => rfl
      | cons a r =>
        rw [hh] at c1
        show a :: r = if a = 45 then r else a :: r
        rw [if_neg (fun z => c1 (by rw [z]; rfl))]
  rintro σ H' ⟨d, rfl, hd, e⟩
  subst e
  have td : Tx 100000 d := by
    refine ⟨?_, fun c hc => tx.asc c ?_⟩
    · rw [len_list, hd]
      have := body_len x.cps.toList
      rw [← len_list] at this
      omega
    · rw [hd] at hc
      exact body_mem hc
  have ld := td.len
  have ldl := len_list d
  rw [hd] at ldl
  have bad : dOk (body x.cps.toList) = false → ∀ H2, Same H' H2 → Q .non H2 := fun e => no (by unfold nOk; rw [e, Bool.false_and])
  refine ⟨_, rfl, rfl, _, rfl, ?_⟩
  rw [str_eq, enil, hd]
  refine iteB (fun c => bad ?_ H' (Same.refl H')) (fun c => ?_)
  · unfold dOk
    rw [of_decide_eq_true c]
    rfl
  have c1 := of_decide_eq_false c
  refine ⟨_, rfl, d, rfl, by omega, _, _, rfl, rfl, _, rfl, ?_⟩
  refine iteB (fun c => bad ?_ H' (Same.refl H')) (fun c => ?_)
  · have c2 := of_decide_eq_true c
    unfold dOk
    rw [decide_eq_false (show ¬ (body x.cps.toList).length ≤ 30 by omega), Bool.and_false, Bool.false_and]
  have c2 := of_decide_eq_false c
  refine ⟨_, rfl, d, rfl, fun D hD => ?_⟩
  refine lc_text (fun c => .str ⟨#[c]⟩) (fun c => !decide (c ∈ (("0123456789" : String) : Str).cps.toList)) (by omega) (fun c acc Q' _ k => ⟨_, rfl, c, _, rfl, rfl, _, rfl, k⟩) (fun c acc Q' _ _ k => ⟨_, rfl, k⟩) ?_
  obtain ⟨bs, hbs⟩ : ∃ bs, bs = (d.cps.toList.filter fun c => !decide (c ∈ (("0123456789" : String) : Str).cps.toList)) := ⟨_, rfl⟩
  rw [← hbs]
  refine ⟨by decide, fun D2 hD2 => ?_⟩
  have hne : D ≠ D2 := ne_of_none upd_same hD2
  have sD : Same H' (upd (upd H' D (.lst (bs.map fun c => V.str ⟨#[c]⟩))) D2 (.lst [])) := fun b o e => by
    have h1 : b ≠ D := ne_of_none e hD
    rw [upd_ne (ne_of_none (by rw [upd_ne h1]; exact e) hD2), upd_ne h1]
    exact e
  have dp : ∀ l : List Nat, DpAll K (upd (upd H' D (.lst (bs.map fun c => V.str ⟨#[c]⟩))) D2 (.lst [])) (l.map fun c => V.str ⟨#[c]⟩) (l.map fun c => PyData.str ⟨#[c]⟩) := by
    intro l
    induction l with
    | nil => exact .nil
    | cons c l ih => exact .cons (.str _) ih
  have shp : ∀ l : List Nat, (∀ c ∈ l, c < 128) → SeqAt.shaped (.list (l.map fun c => PyData.str ⟨#[c]⟩)) = true := by
    intro l hl
    unfold SeqAt.shaped
    have h1 : ∀ l : List Nat, (∀ c ∈ l, c < 128) → PyData.canLayAll0 (l.map fun c => PyData.str ⟨#[c]⟩) = true := by
      intro l
      induction l with
      | nil => exact fun _ => rfl
      | cons c l ih =>
        intro h
        show (PyData.canLay0 (.str ⟨#[c]⟩) && PyData.canLayAll0 (l.map fun c => PyData.str ⟨#[c]⟩)) = true
        rw [ih fun x hx => h x (List.mem_cons_of_mem _ hx), Bool.and_true]
        show (#[c] : Array Nat).all (· < 0x110000) = true
        have := h c List.mem_cons_self
        simp
        omega
    have h2 : ∀ l : List Nat, PyData.depthAll (l.map fun c => PyData.str ⟨#[c]⟩) = 0 := by
      intro l
      induction l with
      | nil => rfl
      | cons c l ih =>
        show max 0 (PyData.depthAll (l.map fun c => PyData.str ⟨#[c]⟩)) = 0
        rw [ih]
        rfl
    rw [Bool.and_eq_true]
    refine ⟨h1 l hl, decide_eq_true ?_⟩
    show PyData.depthAll (l.map fun c => PyData.str ⟨#[c]⟩) + 1 ≤ 64
    rw [h2]
    decide
  refine ⟨.list (bs.map fun c => PyData.str ⟨#[c]⟩), .list [], .lst (SqL.of (by rw [upd_ne hne]; exact upd_same)) (dp bs), .lst (SqL.of upd_same) .nil, shp bs (fun c hc => ?_), by decide, _, rfl, ?_⟩
  · rw [hbs] at hc
    exact td.asc c (List.mem_filter.mp hc).1
  have eqv : PyData.eqv (.list (bs.map fun c => PyData.str ⟨#[c]⟩)) (.list []) = bs.isEmpty := by
    cases bs <;> rfl
  rw [eqv]
  have alld : bs.isEmpty = (body x.cps.toList).all isDg := by
    rw [hbs, hd, Bool.eq_iff_iff, List.isEmpty_iff, List.filter_eq_nil_iff, List.all_eq_true]
    refine forall_congr' fun c => forall_congr' fun _ => ?_
    rw [edig, isDg_iff]
    constructor
    · intro h
      have : c ∈ [48, 49, 50, 51, 52, 53, 54, 55, 56, 57] := Classical.byContradiction fun z => h (by rw [decide_eq_false z]; rfl)
      simp only [List.mem_cons, List.not_mem_nil, or_false] at this
      omega
    · intro h
      have : c ∈ [48, 49, 50, 51, 52, 53, 54, 55, 56, 57] := by
        simp only [List.mem_cons, List.not_mem_nil, or_false]
        omega
      simp [this]
  rw [alld]
  refine iteB (fun c => bad ?_ _ sD) (fun c => ?_)
  · unfold dOk
    rw [show (body x.cps.toList).all isDg = false by simpa using c, Bool.and_false]
  have c3 : (body x.cps.toList).all isDg = true := by simpa using c
  have hok : dOk (body x.cps.toList) = true := by
    unfold dOk
    cases hb : body x.cps.toList with
    | nil => exact absurd hb c1
    | cons a r =>
      rw [hb] at c3 ldl
      rw [c3, decide_eq_true (by rw [List.length_cons]; omega), decide_eq_true (by omega)]
      rfl
  generalize (upd (upd H' D (.lst (bs.map fun c => V.str ⟨#[c]⟩))) D2 (.lst [])) = H2 at sD
  cases hb : body x.cps.toList with
  | nil => exact absurd hb c1
  | cons a r =>
    have en : nOk x.cps.toList = (!decide (a = 48) || decide (x.cps.toList = [48])) := by
      unfold nOk
      rw [hok, hb, Bool.true_and]
      have : decide ((a :: r).head? = some 48) = decide (a = 48) := decide_eq_decide.mpr (by simp)
      rw [this]
    have hat : atI d.cps.toList 0 = some a := by
      rw [hd, hb]
      exact atI_nat (j := 0) rfl
    have hx1 : x.cps.toList ≠ [] := fun z => by rw [z] at hb; exact nomatch hb
    -- a zero ahead
    refine ⟨_, rfl, rfl, _, rfl, ?_⟩
    rw [str_eq, ezero]
    have rest : nOk x.cps.toList = true → ∀ D : Ends, D.rt = Q → tSeq (tAsg (tC (V.int 0)) (gName 3)) (tSeq (tFor (iStr (tVar 1)) (gName 2) (tAsg (tOp (rI0 fun i j => V.int (i + j)) (tOp (rI CMul fun i j => V.int (i * j)) (tVar 3) (tC (V.int 10)))
        (tBM K "str" (fun x xs H Q => ∃ a b i rest, x = .str a ∧ xs = [.str b] ∧ Builtin.Str.occurrences a b 0 a.length 1 = i :: rest ∧ Q (.int (i : Nat)) H) (tC (.str "0123456789")) (tCons (tVar 2) tNil))) (gName 3)))
        (tRet (tIf (tTest (tOp rEq (tOp rIxS (tVar 0) (tC (V.int 0))) (tC (V.str (Str.ofString "-"))))) (tOp (rI0 fun i j => V.int (i - j)) (tC (V.int 0)) (tVar 3)) (tVar 3)))) D [some (V.str x), some (V.str d), none, none] H2 := by
      intro hn D' hD'
      refine ⟨_, rfl, d, rfl, ?_⟩
      refine for_it walk_str (fun i σ H3 => ∃ m, σ = [some (.str x), some (.str d), m, some (.int ((d.cps.toList.take i).foldl stp 0))] ∧ H3 = H2) ⟨none, rfl, rfl⟩ (fun _ _ _ _ _ => trivial) ?_ ?_
      · rintro i y σ H3 H4 hi ⟨m, rfl, rfl⟩ ⟨e4, c, hc, rfl⟩
        subst e4
        have hc' : d.cps.toList[i]? = some c := by rw [Array.getElem?_toList]; exact hc
        have hcd : isDg c = true := by
          rw [List.all_eq_true] at c3
          exact c3 c (by rw [← hd]; exact List.mem_of_getElem? hc')
        have hcd := isDg_iff.mp hcd
        have occ : Builtin.Str.occurrences (("0123456789" : String) : Str) ⟨#[c]⟩ 0 ((("0123456789" : String) : Str)).length 1 = [c - 48] := by
          have : c = 48 ∨ c = 49 ∨ c = 50 ∨ c = 51 ∨ c = 52 ∨ c = 53 ∨ c = 54 ∨ c = 55 ∨ c = 56 ∨ c = 57 := by omega
          rcases this with rfl | rfl | rfl | rfl | rfl | rfl | rfl | rfl | rfl | rfl <;> decide +kernel
        refine ⟨_, rfl, _, _, rfl, rfl, .inr ⟨by decide, by decide⟩, rfl, _, rfl, _, _, _, _, rfl, rfl, occ, _, _, rfl, rfl, some (.str ⟨#[c]⟩), ?_, rfl⟩
        rw [take_snoc hc', List.foldl_append]
        have : (List.foldl stp 0 (d.cps.toList.take i)) * 10 + ((c - 48 : Nat) : Int) = stp (List.foldl stp 0 (d.cps.toList.take i)) c := by
          unfold stp
          omega
        show _ = [some (V.str x), some (V.str d), some (V.str ⟨#[c]⟩), some (V.int (stp (List.foldl stp 0 (d.cps.toList.take i)) c))]
        rw [← this]
        rfl
      · rintro σ H3 ⟨m, rfl, rfl⟩
        have hl : d.cps.size = d.cps.toList.length := Array.length_toList.symm
        rw [hl, List.take_length]
        obtain ⟨g, xs', hg⟩ : ∃ g r, x.cps.toList = g :: r := by
          cases hh : x.cps.toList with
          | nil => exact absurd hh hx1
          | cons g r => exact ⟨g, r, rfl⟩
        refine ⟨_, rfl, _, _, g, rfl, rfl, by omega, (by rw [hg]; exact atI_nat (j := 0) rfl), rfl, _, rfl, ?_⟩
        have eg : decide (V.str { cps := #[g] } = V.str (("-" : String) : Str)) = decide (g = 45) := by
          rw [str_eq, eneg]
          exact decide_eq_decide.mpr ⟨fun z => by injection z, fun z => by rw [z]⟩
        rw [eg]
        have r := yes hn H3 sD
        unfold valL at r
        rw [hg] at r
        have hfold : foldV (body (g :: xs')) = List.foldl stp 0 d.cps.toList := by rw [hd, hg]; rfl
        rw [hfold] at r
        refine iteB (fun c => ?_) (fun c => ?_)
        · rw [if_pos (by rw [of_decide_eq_true c]; rfl)] at r
          refine ⟨_, rfl, _, _, rfl, rfl, ?_⟩
          rw [hD']
          show Q (.int (0 - List.foldl stp 0 d.cps.toList)) H3
          rw [Int.zero_sub]
          exact r
        · rw [if_neg (show ¬ (g :: xs').head? = some 45 from fun z => (of_decide_eq_false c) (Option.some.inj z))] at r
          refine ⟨_, rfl, ?_⟩
          rw [hD']
          exact r
    refine iteB (fun c => ?_) (fun c => ?_)
    · refine ⟨_, rfl, _, _, a, rfl, rfl, by omega, hat, rfl, _, rfl, ?_⟩
      have ea : decide (V.str { cps := #[a] } = V.str (("0" : String) : Str)) = decide (a = 48) := by
        rw [str_eq, ezero]
        exact decide_eq_decide.mpr ⟨fun z => by injection z, fun z => by rw [z]⟩
      rw [ea]
      have cx : decide (x.cps.toList = [48]) = false := by simpa using c
      refine iteB (fun c4 => ?_) (fun c4 => ?_)
      · refine no ?_ H2 sD
        rw [en, c4, cx]
        rfl
      · exact rest (by rw [en, c4]; rfl) _ rfl
    · have cx : decide (x.cps.toList = [48]) = true := by simpa using c
      exact iteF (rest (by rw [en, cx, Bool.or_true]) _ rfl)
end
end K2

namespace K2
open PySem L2 Gd
section
variable {P : Program} {w : World} {K : PySem.W.Frag} {mg : Str → Option Value} {base : Heap} {C_I f_I : Addr}
abbrev s_law_due : Stmt := top 18
theorem sc_law_due : FnScope ["_law_typed", "_law_low", "_law_high", "_law_number_here"] ["_law_typed", "_law_low", "_law_high"] (defScope s_law_due) := ⟨rfl, rfl, rfl, by decide +kernel, rfl, by decide +kernel, by decide +kernel⟩
theorem ok_due {f f1 f2 : Addr} {fd fd1 fd2 : FuncData} (F : Fun K "_law_due" "_law_due" s_law_due f fd) (T : Txt K mg base C_I f_I)
    (D__law_is_limit : Df P w K mg base CX0 1 "_law_is_limit" f1 fd1 ["_law_thing"] spIsLimit) (D__law_number : Df P w K mg base CX0 1 "_law_number" f2 fd2 ["_law_typed"] spNumber) :
    FnG P w K mg base CX0 2 f fd ["_law_typed", "_law_low", "_law_high"] spTold := by
  refine okG F sc_law_due (fun vs H Q E h => ?_) (fun cdv A outer s H vs Q E hc hr h => ?_)
  · obtain ⟨t, lo, hi, rfl, _⟩ := h
    rfl
  obtain ⟨t, lo, hi, rfl, ht, hlo, hhi, hs, q⟩ := h
  refine ⟨_, (pss_cons (ps_if (pt_not (pt_val (pe_d D__law_is_limit hc (hr.mono (by decide)) (by rfl) (fun _ => passN) (pa_cons (pv 1) pa_nil))))
  (pss_one (ps_ret (pe_lst (pa_cons pe_str (pa_cons (pv 1) pa_nil))))) pss_nil)
 (pss_cons (ps_if (pt_not (pt_val (pe_d D__law_is_limit hc (hr.mono (by decide)) (by rfl) (fun _ => passN) (pa_cons (pv 2) pa_nil))))
  (pss_one (ps_ret (pe_lst (pa_cons pe_str (pa_cons (pv 2) pa_nil))))) pss_nil)
 (pss_cons (ps_set (i := 3) sc_law_due.nd rfl (Or.inl rfl) (pe_d D__law_number hc (hr.mono (by decide)) (by rfl) (fun _ => passN) (pa_cons (pv 0) pa_nil)))
 (pss_cons (ps_if (PW.pt (pw_or (pt_cmpR op_isN (pv 3) pe_non (nomark _)) (pw_or (PW.pt (pw_and (pt_cmpR op_notN (pv 1) pe_non (nomark _)) (pw_and1 (pt_cmpR op_lt (pv 3) (pv 1) (nomark _))))) (pw_or1 (PW.pt (pw_and (pt_cmpR op_notN (pv 2) pe_non (nomark _)) (pw_and1 (pt_cmpR op_gt (pv 3) (pv 2) (nomark _)))))))))
  (pss_one (ps_ret (pe_lst (pa_cons pe_str (pa_cons pe_non pa_nil))))) pss_nil)
 (pss_one (ps_ret (pe_lst (pa_cons pe_str (pa_cons (pv 3) pa_nil))))))))), ?_⟩
  refine ⟨_, rfl, lo, rfl, hlo, _, rfl, ?_⟩
  refine iteB (fun c => ?_) (fun c => ?_)
  · rw [told_lo (by simpa using c)] at q
    exact ⟨_, rfl, (by show 2 ≤ sizeLine; decide), fun p hp => q _ p (fun b o h => by rw [upd_ne (ne_of_none h hp)]; exact h) hp upd_same⟩
  have l1 : limV lo = true := by simpa using c
  refine ⟨_, rfl, hi, rfl, hhi, _, rfl, ?_⟩
  refine iteB (fun c => ?_) (fun c => ?_)
  · rw [told_hi l1 (by simpa using c)] at q
    exact ⟨_, rfl, (by show 2 ≤ sizeLine; decide), fun p hp => q _ p (fun b o h => by rw [upd_ne (ne_of_none h hp)]; exact h) hp upd_same⟩
  have l2 : limV hi = true := by simpa using c
  rw [told_ok l1 l2] at q
  refine ⟨_, rfl, t, rfl, ht, hs, fun H' sm => ?_⟩
  have fin : ∀ v : V, resV t lo hi = v → ∀ p, H' p = none → Q (.ref p) (upd H' p (.lst [.str "returned", v])) := fun v ev p hp => by
    rw [ev] at q
    exact q _ p (fun b o h => by rw [upd_ne (ne_of_none (sm _ _ h) hp)]; exact sm _ _ h) (sm.free hp) upd_same
  refine ⟨_, rfl, rfl, _, rfl, ?_⟩
  have nothing : resV t lo hi = .non → (tRet (tLst (tCons (tC (.str "returned")) (tCons (tC .non) tNil)))) { nx := fun _ H' => Q .non H', rt := Q } [some t, some lo, some hi, some (numR t)] H' := fun e =>
    ⟨(by show 2 ≤ sizeLine; decide), fun p hp => fin _ e p hp⟩
  have something : ∀ n : Int, numV t = some n → resV t lo hi = .int n → (tRet (tLst (tCons (tC (.str "returned")) (tCons (tVar 3) tNil)))) { nx := fun _ H' => Q .non H', rt := Q } [some t, some lo, some hi, some (numR t)] H' := fun n en e =>
    ⟨_, rfl, (by show 2 ≤ sizeLine; decide), fun p hp => fin _ (by rw [e]; unfold numR; rw [en]) p hp⟩
  cases en : numV t with
  | none =>
    have e1 : numR t = .non := by unfold numR; rw [en]
    have e2 : resV t lo hi = .non := by unfold resV; rw [en]
    rw [e1]
    refine iteT ?_
    have := nothing e2
    rw [e1] at this
    exact this
  | some n =>
    have e1 : numR t = .int n := by unfold numR; rw [en]
    have e2 : resV t lo hi = if below n lo || above n hi then .non else .int n := by unfold resV; rw [en]
    have some' := something n en
    rw [e1] at nothing some' ⊢
    refine iteF ?_
    have low : lo ≠ .non → ∃ i, lo = .int i := fun hn => isInt_iff (by rw [← limV_int hn]; exact l1)
    have upp : hi ≠ .non → ∃ i, hi = .int i := fun hn => isInt_iff (by rw [← limV_int hn]; exact l2)
    -- the second test, then the end
    have second : below n lo = false → (tTest (tOp (fun x y H Q => y = .non ∧ Q (.bl (!decide (x = .non))) H) (tVar 2) (tC .non))) [some t, some lo, some hi, some (.int n)] H' (fun c H1 => if c = true then (tTest (tOp (rI0 fun i j => .bl (decide (j < i))) (tVar 3) (tVar 2))) [some t, some lo, some hi, some (.int n)] H1
        (fun b H1 => if b = true then (tRet (tLst (tCons (tC (.str "returned")) (tCons (tC .non) tNil)))) { nx := fun _ H' => Q .non H', rt := Q } [some t, some lo, some hi, some (.int n)] H1 else (tRet (tLst (tCons (tC (.str "returned")) (tCons (tVar 3) tNil)))) { nx := fun _ H' => Q .non H', rt := Q } [some t, some lo, some hi, some (.int n)] H1)
        else (tRet (tLst (tCons (tC (.str "returned")) (tCons (tVar 3) tNil)))) { nx := fun _ H' => Q .non H', rt := Q } [some t, some lo, some hi, some (.int n)] H1) := by
      intro hb
      rw [hb, Bool.false_or] at e2
      refine ⟨_, rfl, rfl, _, rfl, ?_⟩
      refine iteB (fun c => ?_) (fun c => ?_)
      · obtain ⟨j, rfl⟩ := upp (by simpa using c)
        refine ⟨_, rfl, _, rfl, _, _, rfl, rfl, _, rfl, ?_⟩
        refine iteB (fun c3 => ?_) (fun c3 => ?_)
        · exact nothing (by rw [e2, show above n (.int j) = true from c3, if_pos rfl])
        · exact some' (by rw [e2, show above n (.int j) = false from c3, if_neg Bool.false_ne_true])
      · have c4 : hi = .non := by simpa using c
        subst c4
        exact some' e2
    refine ⟨_, rfl, rfl, _, rfl, ?_⟩
    refine iteB (fun c => ?_) (fun c => ?_)
    · obtain ⟨i, rfl⟩ := low (by simpa using c)
      refine ⟨_, rfl, _, rfl, _, _, rfl, rfl, _, rfl, ?_⟩
      refine iteB (fun c3 => ?_) (fun c3 => ?_)
      · refine iteT ?_
        exact nothing (by rw [e2, show below n (.int i) = true from c3, Bool.true_or, if_pos rfl])
      · exact second c3
    · have c4 : lo = .non := by simpa using c
      subst c4
      exact second rfl
end
end K2

namespace K2
open PySem L2 Gd
theorem _root_.L2.Same.free' {H H' G : Hp} {p d : Addr} {o : HO} (_ : Same H G) (hp : (upd H' d o) p = none) (sm : Same H H') (hd : H' d = none) : H p = none := by
  refine sm.free ?_
  by_cases e : p = d
  · rw [e]; exact hd
  · rw [upd_ne e] at hp; exact hp
section
variable {P : Program} {w : World} {K : PySem.W.Frag} {mg : Str → Option Value} {base : Heap} {C_I f_I : Addr}
abbrev s_law_called : Stmt := top 19
theorem sc_law_called : FnScope ["_law_typed", "_law_low", "_law_high", "e"] ["_law_typed", "_law_low", "_law_high"] (defScope s_law_called) := ⟨rfl, rfl, rfl, by decide +kernel, rfl, by decide +kernel, by decide +kernel⟩
theorem ok_called {f f1 : Addr} {fd fd1 : FuncData} (F : Fun K "_law_called" "_law_called" s_law_called f fd) (T : Txt K mg base C_I f_I)
    (D_parse_count_1_maximum_minimum : Dk P w K mg base (L2.CX P w) 4 "parse_count" f1 fd1 ["text", "minimum", "maximum"] (spParse C_I) 1 ["maximum", "minimum"] (fun vs zs => vs ++ zs.reverse)) :
    FnG P w K mg base CX0 5 f fd ["_law_typed", "_law_low", "_law_high"] spTold := by
  refine okG F sc_law_called (fun vs H Q E h => ?_) (fun cdv A outer s H vs Q E hc hr h => ?_)
  · obtain ⟨t, lo, hi, rfl, _⟩ := h
    rfl
  obtain ⟨t, lo, hi, rfl, ht, hlo, hhi, hs, q⟩ := h
  refine ⟨_, (pss_one (ps_tryG rfl rfl sc_law_called.nd (fun W pn xe tk _ => (pss_one (ps_ret (pe_lst (pa_cons pe_str (pa_cons (pe_dk D_parse_count_1_maximum_minimum hc (hr.mono (by decide)) (by rfl) (fun σ => passAt tk σ) (pa_cons (pv 0) pa_nil) (pk_cons (pv 2) (pk_cons (pv 1) pk_nil))) pa_nil)))))) (HdG.as (i := 3) rfl rfl ⟨rfl, by decide, .inl T.e_InvalidInteger.gC⟩ (fun a oe cls d pn hz hf => (pss_one (ps_ret (pe_lst (pa_cons pe_str (pa_cons (pe_by_value T.e_InvalidInteger hz hf (pv 3)) pa_nil)))))) (HdG.stop _)))), ?_⟩
  refine ⟨_, rfl, _, rfl, _, rfl, rfl, rfl, ?_⟩
  refine ⟨t, lo, hi, rfl, ht, hlo, hhi, hs, fun l d H' sm hd => ?_, fun l1 l2 d H' sm hd => ?_, fun l1 l2 H' sm => ?_⟩
  · rw [told_lo l] at q
    refine ⟨true, T.e_InvalidInteger.te, fun _ a ha => ?_, fun z => nomatch z⟩
    refine ⟨_, rfl, rfl, rfl, d, lo, rfl, upd_same, (by show 2 ≤ sizeLine; decide), fun p hp => ?_⟩
    have s2 : Same H (upd (upd H' d (.xd [("value", lo)])) p (.lst [.str "invalid", lo])) := fun b o h => by
      have h1 := ne_of_none (sm _ _ h) hd
      rw [upd_ne (ne_of_none (by rw [upd_ne h1]; exact sm _ _ h) hp), upd_ne h1]
      exact sm _ _ h
    exact q _ p s2 (s2.free' hp sm hd) upd_same
  · rw [told_hi l1 l2] at q
    refine ⟨true, T.e_InvalidInteger.te, fun _ a ha => ?_, fun z => nomatch z⟩
    refine ⟨_, rfl, rfl, rfl, d, hi, rfl, upd_same, (by show 2 ≤ sizeLine; decide), fun p hp => ?_⟩
    have s2 : Same H (upd (upd H' d (.xd [("value", hi)])) p (.lst [.str "invalid", hi])) := fun b o h => by
      have h1 := ne_of_none (sm _ _ h) hd
      rw [upd_ne (ne_of_none (by rw [upd_ne h1]; exact sm _ _ h) hp), upd_ne h1]
      exact sm _ _ h
    exact q _ p s2 (s2.free' hp sm hd) upd_same
  · refine ⟨(by show 2 ≤ sizeLine; decide), fun p hp => ?_⟩
    rw [told_ok l1 l2] at q
    exact q _ p (fun b o h => by rw [upd_ne (ne_of_none (sm _ _ h) hp)]; exact sm _ _ h) (sm.free hp) upd_same
end
end K2

namespace K2
open PySem L2 Gd
/-- a small value that is no object -/
def Sc : V → Prop
  | .non => True
  | .bl _ => True
  | .int i => i.natAbs < 2 ^ 200
  | .str x => Tx 3000 x
  | _ => False
/-- a small flat object -/
def FlatO (n : Nat) (o : HO) : Prop :=
  (∃ xs, o = .lst xs ∧ xs.length ≤ n ∧ ∀ v ∈ xs, Sc v) ∨ (∃ xs, o = .tup xs ∧ xs.length ≤ n ∧ ∀ v ∈ xs, Sc v) ∨ o = .dK [] ∨ o = .dK [(Sum.inr "more", .int 1)]
def Fl (n : Nat) (H : Hp) (v : V) : Prop := Sc v ∨ ∃ a o, v = .ref a ∧ H a = some o ∧ FlatO n o
theorem Sc.kd {H : Hp} {v : V} (h : Sc v) : kind H v = .non ∨ kind H v = .bl ∨ kind H v = .int ∨ kind H v = .str := by
  cases v with
  | non => exact .inl rfl
  | bl b => exact .inr (.inl rfl)
  | int i => exact .inr (.inr (.inl rfl))
  | str x => exact .inr (.inr (.inr rfl))
  | _ => exact h.elim
theorem FlatO.mono {n m : Nat} {o : HO} (h : n ≤ m) : FlatO n o → FlatO m o
  | .inl ⟨xs, e, l, f⟩ => .inl ⟨xs, e, Nat.le_trans l h, f⟩
  | .inr (.inl ⟨xs, e, l, f⟩) => .inr (.inl ⟨xs, e, Nat.le_trans l h, f⟩)
  | .inr (.inr h) => .inr (.inr h)
theorem Fl.pv {n : Nat} {H : Hp} {v : V} : Fl n H v → Pv H v
  | .inl h => by
    cases v <;> first | exact h.elim | (intro z; exact nomatch z)
  | .inr ⟨a, o, e, h, f⟩ => by
    subst e
    show kindO (H a) ≠ .odd
    rw [h]
    rcases f with ⟨xs, rfl, _⟩ | ⟨xs, rfl, _⟩ | rfl | rfl <;> (intro z; exact nomatch z)
theorem Fl.mono {n m : Nat} {H : Hp} {v : V} (h : n ≤ m) : Fl n H v → Fl m H v
  | .inl q => .inl q
  | .inr ⟨a, o, e, q, f⟩ => .inr ⟨a, o, e, q, f.mono h⟩
theorem Fl.same {n : Nat} {H H' : Hp} {v : V} (s : Same H H') : Fl n H v → Fl n H' v
  | .inl q => .inl q
  | .inr ⟨a, o, e, q, f⟩ => .inr ⟨a, o, e, s _ _ q, f⟩
/-! data -/
theorem Sc.da {K : PySem.W.Frag} {H : Hp} {v : V} (h : Sc v) : ∃ d, Da K H v d ∧ Ok1 d ∧ wid d ≤ 30002 ∧ d.depth = 0 := by
  cases v with
  | non => exact ⟨_, .non, trivial, (by show 4 ≤ 30002; decide), rfl⟩
  | bl b => exact ⟨_, .bl b, trivial, (by show 5 ≤ 30002; decide), rfl⟩
  | int i =>
    have h1 : i.natAbs.log2 < 200 := by
      rcases Nat.eq_zero_or_pos i.natAbs with e | e
      · rw [e]; decide
      · exact (Nat.log2_lt (Nat.pos_iff_ne_zero.mp e)).mpr h
    exact ⟨_, .int i, Nat.lt_trans h1 (by decide), (by show i.natAbs.log2 + 3 ≤ 30002; omega), rfl⟩
  | str x =>
    have t : Tx 3000 x := h
    exact ⟨_, .str x, t.big, (by show 10 * x.length + 2 ≤ 30002; have := t.len; omega), rfl⟩
  | _ => exact h.elim
theorem sc_all {K : PySem.W.Frag} {H : Hp} : ∀ {xs : List V}, (∀ v ∈ xs, Sc v) → ∃ ds, DaL K H xs ds ∧ OkL ds ∧ widL ds ≤ xs.length * 30004 ∧ PyData.depthAll ds = 0
  | [], _ => ⟨[], .nil, trivial, by decide, rfl⟩
  | v :: xs, h => by
    obtain ⟨d, h1, h2, h3, h4⟩ := (h v List.mem_cons_self).da (K := K) (H := H)
    obtain ⟨ds, g1, g2, g3, g4⟩ := sc_all (K := K) (H := H) (xs := xs) fun x hx => h x (List.mem_cons_of_mem _ hx)
    refine ⟨d :: ds, .cons h1 g1, ⟨h2, g2⟩, ?_, ?_⟩
    · show wid d + 2 + widL ds ≤ (xs.length + 1) * 30004
      omega
    · show max d.depth (PyData.depthAll ds) = 0
      rw [h4, g4]
      rfl
theorem Fl.da {K : PySem.W.Frag} {n : Nat} {H : Hp} {v : V} (hn : n ≤ 10) : Fl n H v → ∃ d, Da K H v d ∧ Ok1 d ∧ wid d ≤ 400000 ∧ d.depth ≤ 1
  | .inl h => by
    obtain ⟨d, h1, h2, h3, h4⟩ := h.da (K := K) (H := H)
    exact ⟨d, h1, h2, by omega, by omega⟩
  | .inr ⟨a, o, e, h, f⟩ => by
    subst e
    rcases f with ⟨xs, rfl, l, s⟩ | ⟨xs, rfl, l, s⟩ | rfl | rfl
    · obtain ⟨ds, g1, g2, g3, g4⟩ := sc_all (K := K) (H := H) s
      have : xs.length * 30004 ≤ 10 * 30004 := Nat.mul_le_mul_right _ (by omega)
      exact ⟨.list ds, .lst h g1, g2, (by show widL ds + 2 ≤ 400000; omega), (by show PyData.depthAll ds + 1 ≤ 1; omega)⟩
    · obtain ⟨ds, g1, g2, g3, g4⟩ := sc_all (K := K) (H := H) s
      have : xs.length * 30004 ≤ 10 * 30004 := Nat.mul_le_mul_right _ (by omega)
      exact ⟨.tuple ds, .tup (SqT.of h) g1, g2, (by show widL ds + 3 ≤ 400000; omega), (by show PyData.depthAll ds + 1 ≤ 1; omega)⟩
    · exact ⟨_, .dct h .nil, trivial, by decide, by decide⟩
    · refine ⟨_, .dct h (.cons (.int 1) .nil), ?_, ?_, ?_⟩
      · exact ⟨(Tx.of (n := 10) (by decide +kernel) : Tx 10 (("more" : String) : Str)).big, (by show (1 : Int).natAbs.log2 < 1920; decide), trivial⟩
      · decide +kernel
      · decide +kernel
/-- all but v's own object is as it was -/
def But (H H' : Hp) (v : V) : Prop := ∀ q o, V.ref q ≠ v → H q = some o → H' q = some o
def spGrown : Sp := fun vs H Q _ => ∃ v n, vs = [v] ∧ n ≤ 5 ∧ Fl n H v ∧ ∀ H', But H H' v → Fl (n + 1) H' v → Q .non H'
def spLimit : Sp := fun vs H Q _ => ∃ (p : Addr) (num : V), vs = [.ref p, num] ∧ BoxAt H p ∧ (num = .non ∨ ∃ i, num = .int i) ∧
  ∀ v H', Kept H H' p → (Sc v ∨ ∃ a o, v = .ref a ∧ H a = none ∧ H' a = some o ∧ FlatO 1 o) → Q v H'
section
variable {P : Program} {w : World} {K : PySem.W.Frag} {mg : Str → Option Value} {base : Heap} {C_I f_I : Addr}
abbrev s_law_grown : Stmt := top 20
theorem sc_law_grown : FnScope ["_law_thing"] ["_law_thing"] (defScope s_law_grown) := ⟨rfl, rfl, rfl, by decide +kernel, rfl, by decide +kernel, by decide +kernel⟩
theorem ok_grown {f : Addr} {fd : FuncData} (F : Fun K "_law_grown" "_law_grown" s_law_grown f fd) (T : Txt K mg base C_I f_I) : FnG P w K mg base CX0 1 f fd ["_law_thing"] spGrown := by
  refine okG F sc_law_grown (fun vs H Q E h => ?_) (fun cdv A outer s H vs Q E hc hr h => ?_)
  · obtain ⟨v, n, rfl, _⟩ := h
    rfl
  obtain ⟨v, n, rfl, hn, hv, q⟩ := h
  refine ⟨_, (pss_cons (ps_if (pt_val (pe_callB call_isk (by rfl) T.z_isinstance (by decide +kernel) (pa_cons (pv 0) (pa_cons (pe_bltn (v := .ty "list") (by rfl) T.z_list (by decide +kernel) rfl) pa_nil))))
  (pss_one (ps_expr (pe_bm PySem.F.plainAttrs_list PySem.F.slot_list_append PySem.F.type_list_append mt_append (pv 0) (pa_cons pe_str pa_nil)))) pss_nil)
 (pss_one (ps_if (pt_val (pe_callB call_isk (by rfl) T.z_isinstance (by decide +kernel) (pa_cons (pv 0) (pa_cons (pe_bltn (v := .ty "dict") (by rfl) T.z_dict (by decide +kernel) rfl) pa_nil))))
  (pss_one (ps_dput (hu_of hr) (pv 0) pe_str pe_int rfl)) pss_nil))), ?_⟩
  have hp := hv.pv
  have stay := q H (fun _ _ _ h => h) (hv.mono (Nat.le_succ n))
  refine ⟨_, rfl, v, _, rfl, .inr (.inr (.inr (.inl rfl))), hp, _, rfl, ?_⟩
  refine iteB (fun c => ?_) (fun c => ?_)
  · -- a list
    rcases hv with h | ⟨a, o, rfl, h, f⟩
    · rcases h.kd with e | e | e | e <;> (rw [e] at c; exact absurd c (by decide +kernel))
    · rcases f with ⟨xs, rfl, l, s⟩ | ⟨xs, rfl, l, s⟩ | rfl | rfl
      · refine ⟨_, rfl, .inl ⟨rfl, _, SqL.of h⟩, a, _, _, rfl, rfl, h, (by have := sizeLine_eq; omega), ?_⟩
        have e1 : kind (upd H a (.lst (xs ++ [.str "more"]))) (.ref a) = .lst := by
          show kindO (upd H a (.lst (xs ++ [.str "more"])) a) = .lst
          rw [upd_same]
          rfl
        refine ⟨_, rfl, .ref a, _, rfl, .inr (.inr (.inr (.inr (.inr rfl)))), (by unfold Pv; rw [e1]; intro z; exact nomatch z), _, rfl, ?_⟩
        rw [e1]
        refine q _ (fun b o hb h => by rw [upd_ne (fun z => hb (by rw [z]))]; exact h) (.inr ⟨a, _, rfl, upd_same, .inl ⟨_, rfl, ?_, ?_⟩⟩)
        · rw [List.length_append]
          show xs.length + 1 ≤ n + 1
          omega
        · intro v hv
          rcases List.mem_append.mp hv with h | h
          · exact s v h
          · have : v = .str "more" := by simpa using h
            rw [this]
            exact Tx.of (by decide +kernel)
      · have e1 : kind H (.ref a) = kindO (H a) := rfl
        rw [e1, h] at c
        exact absurd (show inst "list" Kind.tup = true from c) (by decide +kernel)
      all_goals
        have e1 : kind H (.ref a) = kindO (H a) := rfl
        rw [e1, h] at c
        exact absurd (show inst "list" Kind.dct = true from c) (by decide +kernel)
  · refine ⟨_, rfl, v, _, rfl, .inr (.inr (.inr (.inr (.inr rfl)))), hp, _, rfl, ?_⟩
    refine iteB (fun c => ?_) (fun c => stay)
    rcases hv with h | ⟨a, o, rfl, h, f⟩
    · rcases h.kd with e | e | e | e <;> (rw [e] at c; exact absurd c (by decide +kernel))
    · rcases f with ⟨xs, rfl, l, s⟩ | ⟨xs, rfl, l, s⟩ | rfl | rfl
      · have e1 : kind H (.ref a) = kindO (H a) := rfl
        rw [e1, h] at c
        exact absurd (show inst "dict" Kind.lst = true from c) (by decide +kernel)
      · have e1 : kind H (.ref a) = kindO (H a) := rfl
        rw [e1, h] at c
        exact absurd (show inst "dict" Kind.tup = true from c) (by decide +kernel)
      · refine ⟨_, rfl, a, _, rfl, DPut.k (k := Sum.inr "more") h (by decide), ?_⟩
        exact q _ (fun b o hb h => by rw [upd_ne (fun z => hb (by rw [z]))]; exact h) (.inr ⟨a, _, rfl, upd_same, .inr (.inr (.inr rfl))⟩)
      · refine ⟨_, rfl, a, _, rfl, DPut.k (k := Sum.inr "more") h (by show 1 < sizeLine; decide), ?_⟩
        have e2 : putK [((Sum.inr "more" : Key), V.int 1)] (Sum.inr "more") (.int 1) = [((Sum.inr "more" : Key), V.int 1)] := by decide +kernel
        rw [e2]
        exact q _ (fun b o hb h => by rw [upd_ne (fun z => hb (by rw [z]))]; exact h) (.inr ⟨a, _, rfl, upd_same, .inr (.inr (.inr rfl))⟩)
end
end K2

namespace K2
open PySem L2 Gd
theorem keepO {G : Hp} {q d : Addr} {o u : HO} (h : G q = some o) (hd : G d = none) : upd G d u q = some o := by
  rw [upd_ne (ne_of_none h hd)]
  exact h
theorem limit_rest {K : PySem.W.Frag} {H : Hp} {p l : Addr} {num k : V} {ws : List V} {Q : VK} (hb : BoxAt H p)
    (q : ∀ v H', Kept H H' p → (Sc v ∨ ∃ a o, v = .ref a ∧ H a = none ∧ H' a = some o ∧ FlatO 1 o) → Q v H')
    (hl : H l = none) (hw : ws.length = 12) (hS : ∀ v ∈ ws, Sc v) :
    tSeq (tAsg (tOp rCat (tVar 3) (tLst (tCons (tC (.bl true)) (tCons (tC (.str (Str.ofString "1"))) (tCons (tLst (tCons (tC (.int 1)) tNil)) (tCons (tTup (tCons (tC (.int 0)) tNil)) (tCons tDNewK
      (tCons (tC (.bl false)) (tCons (tC (.str (Str.ofString ""))) (tCons (tLst tNil) tNil)))))))))) (gName 3))
      (tRet (tOp (rIxL K) (tVar 3) (tCallG spTake [] (fun _ => E0) (tCons (tVar 0) (tCons (tOp (rI0 fun i j => V.int (i + j)) (tC (.int 12)) (tOp (rI CMul fun i j => V.int (i * j))
        (tCallG spTake [] (fun _ => E0) (tCons (tVar 0) (tCons (tC (.int 2)) tNil))) (tC (.int 8)))) tNil)))))
      { nx := fun _ H' => Q .non H', rt := Q } [some (.ref p), some num, some k, some (.ref l)] (upd H l (.lst ws)) := by
  have z16 := sizeLine_eq
  have k0 : Kept H (upd H l (.lst ws)) p := (Kept.refl hb).new hl
  refine ⟨_, rfl, (by show 1 ≤ sizeLine; omega), fun a1 h1 => ⟨(by show 1 ≤ sizeLine; omega), fun a2 h2 => fun a3 h3 => ⟨(by show 0 ≤ sizeLine; omega), fun a4 h4 => ⟨(by show 8 ≤ sizeLine; omega), fun b h5 => ?_⟩⟩⟩⟩
  have k1 := k0.new (o := .lst [.int 1]) h1
  have k2 := k1.new (o := .tup [.int 0]) h2
  have k3 := k2.new (o := .dK []) h3
  have k4 := k3.new (o := .lst []) h4
  have k5 := k4.new (o := .lst [.bl true, .str (Str.ofString "1"), .ref a1, .ref a2, .ref a3, .bl false, .str (Str.ofString ""), .ref a4]) h5
  have l5 := keepO (u := .lst [.bl true, .str (Str.ofString "1"), .ref a1, .ref a2, .ref a3, .bl false, .str (Str.ofString ""), .ref a4]) (keepO (u := .lst []) (keepO (u := .dK []) (keepO (u := .tup [.int 0]) (keepO (G := upd H l (.lst ws)) (q := l) (u := .lst [.int 1]) upd_same h1) h2) h3) h4) h5
  refine ⟨l, b, _, _, rfl, rfl, l5, upd_same, ?_, fun c hc => ?_⟩
  · rw [hw]
    show 12 + 8 ≤ sizeLine
    omega
  have k6 := k5.new (o := .lst (ws ++ [.bl true, .str (Str.ofString "1"), .ref a1, .ref a2, .ref a3, .bl false, .str (Str.ofString ""), .ref a4])) hc
  have o1 := keepO (u := .lst (ws ++ [.bl true, .str (Str.ofString "1"), .ref a1, .ref a2, .ref a3, .bl false, .str (Str.ofString ""), .ref a4])) (keepO (u := .lst [.bl true, .str (Str.ofString "1"), .ref a1, .ref a2, .ref a3, .bl false, .str (Str.ofString ""), .ref a4]) (keepO (u := .lst []) (keepO (u := .dK []) (keepO (u := .tup [.int 0]) (upd_same (H := upd H l (.lst ws)) (a := a1) (o := .lst [.int 1])) h2) h3) h4) h5) hc
  have o2 := keepO (u := .lst (ws ++ [.bl true, .str (Str.ofString "1"), .ref a1, .ref a2, .ref a3, .bl false, .str (Str.ofString ""), .ref a4])) (keepO (u := .lst [.bl true, .str (Str.ofString "1"), .ref a1, .ref a2, .ref a3, .bl false, .str (Str.ofString ""), .ref a4]) (keepO (u := .lst []) (keepO (u := .dK []) (upd_same (H := upd (upd H l (.lst ws)) a1 (.lst [.int 1])) (a := a2) (o := .tup [.int 0])) h3) h4) h5) hc
  have o3 := keepO (u := .lst (ws ++ [.bl true, .str (Str.ofString "1"), .ref a1, .ref a2, .ref a3, .bl false, .str (Str.ofString ""), .ref a4])) (keepO (u := .lst [.bl true, .str (Str.ofString "1"), .ref a1, .ref a2, .ref a3, .bl false, .str (Str.ofString ""), .ref a4]) (keepO (u := .lst []) (upd_same (H := upd (upd (upd H l (.lst ws)) a1 (.lst [.int 1])) a2 (.tup [.int 0])) (a := a3) (o := .dK [])) h4) h5) hc
  have o4 := keepO (u := .lst (ws ++ [.bl true, .str (Str.ofString "1"), .ref a1, .ref a2, .ref a3, .bl false, .str (Str.ofString ""), .ref a4])) (keepO (u := .lst [.bl true, .str (Str.ofString "1"), .ref a1, .ref a2, .ref a3, .bl false, .str (Str.ofString ""), .ref a4]) (upd_same (H := upd (upd (upd (upd H l (.lst ws)) a1 (.lst [.int 1])) a2 (.tup [.int 0])) a3 (.dK [])) (a := a4) (o := .lst [])) h5) hc
  have f1 := k0.free hb h1
  have f2 := k1.free hb h2
  have f3 := k2.free hb h3
  have f4 := k3.free hb h4
  have f6 := k5.free hb hc
  refine ⟨_, rfl, _, rfl, _, rfl, p, 2, rfl, k6.box, by decide, by decide, fun d1 H1 b1 b2 t1 => ⟨_, _, rfl, rfl, .inr ⟨by decide, by decide⟩, _, _, rfl, rfl, p, _, rfl, t1.box, by omega, by omega, fun d2 H2 b3 b4 t2 => ?_⟩⟩
  have at2 : ∀ {a o}, H a = none → upd (upd (upd (upd (upd (upd (upd H l (.lst ws)) a1 (.lst [.int 1])) a2 (.tup [.int 0])) a3 (.dK [])) a4 (.lst [])) b (.lst [.bl true, .str (Str.ofString "1"), .ref a1, .ref a2, .ref a3, .bl false, .str (Str.ofString ""), .ref a4])) c
      (.lst (ws ++ [.bl true, .str (Str.ofString "1"), .ref a1, .ref a2, .ref a3, .bl false, .str (Str.ofString ""), .ref a4])) a = some o → H2 a = some o := fun hn h => t2.at (Kept.ne hb hn) (t1.at (Kept.ne hb hn) h)
  obtain ⟨v, hv, pv⟩ := atI_all (l := ws ++ [.bl true, .str (Str.ofString "1"), .ref a1, .ref a2, .ref a3, .bl false, .str (Str.ofString ""), .ref a4]) (p := fun v => Sc v ∨ ∃ a o, v = .ref a ∧ H a = none ∧ H2 a = some o ∧ FlatO 1 o) (by
    intro v hv
    rcases List.mem_append.mp hv with h | h
    · exact .inl (hS v h)
    · simp only [List.mem_cons, List.not_mem_nil, or_false] at h
      rcases h with rfl | rfl | rfl | rfl | rfl | rfl | rfl | rfl
      · exact .inl trivial
      · exact .inl (show Tx 3000 _ from Tx.of (by decide +kernel))
      · exact .inr ⟨a1, _, rfl, f1, at2 f1 o1, .inl ⟨_, rfl, Nat.le_refl _, fun v hv => by
          have : v = .int 1 := by simpa using hv
          rw [this]
          show (1 : Int).natAbs < 2 ^ 200
          decide⟩⟩
      · exact .inr ⟨a2, _, rfl, f2, at2 f2 o2, .inr (.inl ⟨_, rfl, Nat.le_refl _, fun v hv => by
          have : v = .int 0 := by simpa using hv
          rw [this]
          show (0 : Int).natAbs < 2 ^ 200
          decide⟩)⟩
      · exact .inr ⟨a3, _, rfl, f3, at2 f3 o3, .inr (.inr (.inl rfl))⟩
      · exact .inl trivial
      · exact .inl (show Tx 3000 _ from Tx.of (by decide +kernel))
      · exact .inr ⟨a4, _, rfl, f4, at2 f4 o4, .inl ⟨_, rfl, Nat.zero_le _, fun v hv => absurd hv List.not_mem_nil⟩⟩) (d := d2) b3 (by
    rw [List.length_append, hw]
    show d2 < ((12 + 8 : Nat) : Int)
    have : d2 < 12 + d1 * 8 := b4
    omega)
  exact ⟨c, _, d2, v, rfl, rfl, SqL.of (at2 f6 upd_same), hv, q v H2 ((k6.turn t1).turn t2) pv⟩
section
variable {P : Program} {w : World} {K : PySem.W.Frag} {mg : Str → Option Value} {base : Heap} {C_I f_I : Addr}
abbrev s_law_limit : Stmt := top 16
theorem sc_law_limit : FnScope ["_law_box_here", "_law_number_here", "_law_near", "_law_some"] ["_law_box_here", "_law_number_here"] (defScope s_law_limit) := ⟨rfl, rfl, rfl, by decide +kernel, rfl, by decide +kernel, by decide +kernel⟩
theorem ok_limit {f f1 : Addr} {fd fd1 : FuncData} (F : Fun K "_law_limit" "_law_limit" s_law_limit f fd) (T : Txt K mg base C_I f_I)
    (D__law_take : Df P w K mg base CX0 1 "_law_take" f1 fd1 ["_law_box_here", "_law_size"] spTake) :
    FnG P w K mg base CX0 2 f fd ["_law_box_here", "_law_number_here"] spLimit := by
  refine okG F sc_law_limit (fun vs H Q E h => ?_) (fun cdv A outer s H vs Q E hc hr h => ?_)
  · obtain ⟨p, num, rfl, _⟩ := h
    rfl
  obtain ⟨p, num, rfl, hb, hnum, q⟩ := h
  refine ⟨_, (pss_mid (ps_set (i := 2) sc_law_limit.nd rfl (Or.inl rfl) (pe_ifExp (PW.pt (pw_and (pt_cmpR op_notN (pv 1) pe_non (nomark _)) (pw_and1 (pt_chain op_lt op_lt (pe_op op_sub pe_int (pe_op op_pow pe_int pe_int)) (pv 1) (pe_op op_sub (pe_op op_pow pe_int pe_int) pe_int))))) (pv 1) pe_int))
 (pss_cons (ps_set (i := 3) sc_law_limit.nd rfl (Or.inl rfl) (pe_lst (pa_cons pe_non (pa_cons pe_non (pa_cons (pv 2) (pa_cons (pe_op op_add (pv 2) pe_int) (pa_cons (pe_op op_sub (pv 2) pe_int) (pa_cons pe_int (pa_cons pe_int (pa_cons (pe_un un_neg pe_int) (pa_cons (pe_op op_pow pe_int pe_int) (pa_cons (pe_op op_sub pe_int (pe_op op_pow pe_int pe_int)) (pa_cons (pe_op op_sub (pe_op op_pow pe_int pe_int) pe_int) (pa_cons (pe_op op_sub pe_int (pe_op op_pow pe_int pe_int)) pa_nil))))))))))))))
 (pss_cons (ps_set (i := 3) sc_law_limit.nd rfl (Or.inl rfl) (pe_op op_cat (pv 3) (pe_lst (pa_cons pe_bl (pa_cons pe_str (pa_cons (pe_lst (pa_cons pe_int pa_nil)) (pa_cons (pe_tup (pa_cons pe_int pa_nil)) (pa_cons pe_dnewK (pa_cons pe_bl (pa_cons pe_str (pa_cons (pe_lst pa_nil) pa_nil)))))))))))
 (pss_one (ps_ret (pe_ix ix_list (pv 3) (pe_d D__law_take hc (hr.mono (by decide)) (by rfl) (fun _ => passN) (pa_cons (pv 0) (pa_cons (pe_op op_add pe_int (pe_op op_mul (pe_d D__law_take hc (hr.mono (by decide)) (by rfl) (fun _ => passN) (pa_cons (pv 0) (pa_cons pe_int pa_nil))) pe_int)) pa_nil))) (fun _ _ => rfl))))))), ?_⟩
  have z16 := sizeLine_eq
  have p30 : CPow 10 30 := ⟨by decide, by decide, by decide⟩
  have p29 : CPow 10 29 := ⟨by decide, by decide, by decide⟩
  refine ⟨fun σ' H' => H' = H ∧ ∃ k : Int, -(10 ^ 31 : Int) < k ∧ k < 10 ^ 31 ∧ σ' = [some (.ref p), some num, some (.int k), none], ?_, ?_⟩
  · refine ⟨_, rfl, rfl, _, rfl, ?_⟩
    have no : (fun σ' H' => H' = H ∧ ∃ k : Int, -(10 ^ 31 : Int) < k ∧ k < 10 ^ 31 ∧ σ' = [some (.ref p), some num, some (.int k), none]) [some (.ref p), some num, some (.int 0), none] H := ⟨rfl, 0, by decide, by decide, rfl⟩
    refine iteB (fun c => ?_) (fun c => ?_)
    · rcases hnum with rfl | ⟨i, rfl⟩
      · exact absurd c (by decide)
      · refine ⟨_, _, rfl, rfl, p30, _, _, rfl, rfl, _, rfl, _, _, rfl, rfl, _, rfl, ?_⟩
        refine iteB (fun c1 => ?_) (fun c1 => ?_)
        · refine ⟨_, _, rfl, rfl, p30, _, _, rfl, rfl, _, _, rfl, rfl, _, rfl, ?_⟩
          refine iteB (fun c2 => ?_) (fun c2 => ?_)
          · have e1 := of_decide_eq_true c1
            have e2 := of_decide_eq_true c2
            have t : (10 : Int) ^ (30 : Int).toNat = 1000000000000000000000000000000 := by decide
            rw [t] at e1 e2
            exact ⟨_, rfl, rfl, i, by omega, by omega, rfl⟩
          · exact no
        · refine ⟨_, rfl, ?_⟩
          refine iteB (fun c2 => absurd c2 (by decide)) (fun _ => no)
    · refine iteB (fun c2 => absurd c2 (by decide)) (fun _ => no)
  rintro _ _ ⟨rfl, k, k1, k2, rfl⟩
  refine ⟨_, rfl, _, rfl, _, _, rfl, rfl, _, rfl, _, _, rfl, rfl, _, rfl, _, _, rfl, rfl, p29, _, _, rfl, rfl, p29, _, _, rfl, rfl, _, _, rfl, rfl, p30, _, _, rfl, rfl, _, _, rfl, rfl, p30, _, _, rfl, rfl, ?_, fun l hl => ?_⟩
  · show 12 ≤ sizeLine
    omega
  refine limit_rest hb q hl rfl ?_
  intro v hv
  have big : ∀ i : Int, -(10 ^ 32 : Int) < i → i < 10 ^ 32 → Sc (.int i) := fun i h1 h2 => by
    show i.natAbs < 2 ^ 200
    have : (2 : Nat) ^ 200 = 1606938044258990275541962092341162602522202993782792835301376 := by decide
    omega
  simp only [List.mem_cons, List.not_mem_nil, or_false] at hv
  have t : (10 : Int) ^ (30 : Int).toNat = 1000000000000000000000000000000 := by decide
  have t2 : (10 : Int) ^ (29 : Int).toNat = 100000000000000000000000000000 := by decide
  rw [t, t2] at hv
  rcases hv with rfl | rfl | rfl | rfl | rfl | rfl | rfl | rfl | rfl | rfl | rfl | rfl
  · trivial
  · trivial
  all_goals exact big _ (by omega) (by omega)
end
end K2

namespace K2
open PySem L2 Gd
/-! ### small results -/
theorem numV_small {t : V} {n : Int} (h : numV t = some n) : n.natAbs < 2 ^ 200 := by
  have e : (2 : Nat) ^ 200 = 1606938044258990275541962092341162602522202993782792835301376 := by decide
  cases t with
  | str x =>
    by_cases c : nOk x.cps.toList = true
    · have h' : (if nOk x.cps.toList = true then some (valL x.cps.toList) else none) = some n := h
      rw [if_pos c, Option.some.injEq] at h'
      have := valL_bound c
      rw [h'] at this
      omega
    · have h' : (if nOk x.cps.toList = true then some (valL x.cps.toList) else none) = some n := h
      rw [if_neg c] at h'
      exact nomatch h'
  | _ => exact nomatch h
theorem numR_sc (t : V) : Sc (numR t) := by
  unfold numR
  cases e : numV t with
  | none => trivial
  | some n => exact numV_small e
theorem resV_sc (t lo hi : V) : Sc (resV t lo hi) := by
  unfold resV
  cases e : numV t with
  | none => trivial
  | some n =>
    show Sc (if (below n lo || above n hi) = true then V.non else V.int n)
    cases (below n lo || above n hi)
    · exact numV_small e
    · trivial
theorem numR_or (t : V) : numR t = .non ∨ ∃ i, numR t = .int i := by
  unfold numR
  cases numV t with
  | none => exact .inl rfl
  | some n => exact .inr ⟨n, rfl⟩
theorem resV_free (t : V) : resV t .non .non = numR t := by
  unfold resV numR
  cases numV t with
  | none => rfl
  | some n => rfl
theorem told_fl {n : Nat} {H : Hp} {t lo hi : V} (h1 : Fl n H lo) (h2 : Fl n H hi) : Fl n H (told t lo hi).2 := by
  unfold told
  by_cases c : limV lo = false
  · rw [if_pos c]; exact h1
  · rw [if_neg c]
    by_cases c2 : limV hi = false
    · rw [if_pos c2]; exact h2
    · rw [if_neg c2]; exact .inl (resV_sc t lo hi)
theorem told_tag {t lo hi : V} : Tx 10 (told t lo hi).1 := by
  unfold told
  by_cases c : limV lo = false
  · rw [if_pos c]; exact (Tx.of (by decide +kernel) : Tx 10 sInv)
  · rw [if_neg c]
    by_cases c2 : limV hi = false
    · rw [if_pos c2]; exact (Tx.of (by decide +kernel) : Tx 10 sInv)
    · rw [if_neg c2]; exact (Tx.of (by decide +kernel) : Tx 10 sRet)
theorem Fl.short {n : Nat} {H : Hp} {v : V} : Fl n H v → Short v
  | .inl h => fun x e => by
    subst e
    exact (show Tx 3000 x from h).mono (by decide)
  | .inr ⟨a, o, e, _⟩ => fun x e2 => by
    rw [e] at e2
    exact nomatch e2
/-! ### where an object may stand -/
theorem Fl.ne {n : Nat} {H : Hp} {v : V} {q : Addr} (h : Fl n H v) (hq : H q = none) : V.ref q ≠ v := by
  rcases h with h | ⟨a, o, rfl, h, _⟩
  · rintro rfl
    exact h
  · intro z
    have : q = a := by injection z
    rw [this, h] at hq
    exact nomatch hq
theorem Fl.kept {n : Nat} {H H' : Hp} {p : Addr} {v : V} (h : Fl n H v) (hp : V.ref p ≠ v) (k : Kept H H' p) : Fl n H' v := by
  rcases h with h | ⟨a, o, rfl, h, f⟩
  · exact .inl h
  · exact .inr ⟨a, o, rfl, k.2 a o (fun z => hp (by rw [z])) h, f⟩
theorem Fl.but {n : Nat} {H H' : Hp} {v u : V} (h : Fl n H v) (hp : ∀ a, v = .ref a → v ≠ u) (k : But H H' u) : Fl n H' v := by
  rcases h with h | ⟨a, o, rfl, h, f⟩
  · exact .inl h
  · exact .inr ⟨a, o, rfl, k a o (hp a rfl) h, f⟩
/-- the cell's heap goes on, its pool stands at p -/
structure Pl (Hs : Hp) (p : Addr) (H : Hp) : Prop where
  f : Hs p = none
  s : Same Hs H
  b : BoxAt H p
theorem Pl.kept {Hs H H' : Hp} {p : Addr} (h : Pl Hs p H) (k : Kept H H' p) : Pl Hs p H' :=
  ⟨h.f, fun q o hq => k.2 q o (fun z => by rw [z, h.f] at hq; exact nomatch hq) (h.s q o hq), k.1⟩
theorem Pl.same {Hs H H' : Hp} {p : Addr} (h : Pl Hs p H) (k : Same H H') : Pl Hs p H' := h.kept ((Kept.refl h.b).same k)
theorem Pl.but {Hs H H' : Hp} {p : Addr} {v : V} (h : Pl Hs p H) (hp : V.ref p ≠ v) (hs : ∀ q o, Hs q = some o → V.ref q ≠ v) (k : But H H' v) : Pl Hs p H' := by
  refine ⟨h.f, fun q o hq => k q o (hs q o hq) (h.s q o hq), ?_⟩
  obtain ⟨a, b, c, e, r⟩ := h.b
  exact ⟨a, b, c, k p _ hp e, r⟩
/-! ### the data of the three kinds of lists -/
theorem three_da {K : PySem.W.Frag} {H : Hp} {x y z : V} (hx : Fl 1 H x) (hy : Fl 1 H y) (hz : Fl 1 H z) :
    ∃ d, (∀ H' q, Same H H' → H' q = some (.lst [x, y, z]) → Da K H' (.ref q) d) ∧ Ok1 d ∧ wid d ≤ sizeLine ∧ d.depth ≤ 64 := by
  obtain ⟨a, a1, a2, a3, a4⟩ := hx.da (K := K) (by decide)
  obtain ⟨b, b1, b2, b3, b4⟩ := hy.da (K := K) (by decide)
  obtain ⟨c, c1, c2, c3, c4⟩ := hz.da (K := K) (by decide)
  refine ⟨.list [a, b, c], fun H' q s h => .lst h (.cons (a1.same s) (.cons (b1.same s) (.cons (c1.same s) .nil))), ⟨a2, b2, c2, trivial⟩, ?_, ?_⟩
  · have := sizeLine_eq
    show (wid a + 2 + (wid b + 2 + (wid c + 2 + 0))) + 2 ≤ sizeLine
    omega
  · show max a.depth (max b.depth (max c.depth 0)) + 1 ≤ 64
    omega
theorem pair_da {K : PySem.W.Frag} {n : Nat} {H : Hp} {g : Str} {v : V} (hn : n ≤ 10) (hg : Tx 10 g) (hv : Fl n H v) :
    ∃ d, (∀ q, H q = some (.lst [.str g, v]) → Da K H (.ref q) d) ∧ Ok1 d ∧ wid d ≤ sizeLine ∧ d.depth ≤ 64 := by
  obtain ⟨a, a1, a2, a3, a4⟩ := hv.da (K := K) hn
  refine ⟨.list [.str g, a], fun q h => .lst h (.cons (.str g) (.cons a1 .nil)), ⟨hg.big, a2, trivial⟩, ?_, ?_⟩
  · have := sizeLine_eq
    have := hg.len
    show ((10 * g.length + 2) + 2 + (wid a + 2 + 0)) + 2 ≤ sizeLine
    omega
  · show max 0 (max a.depth 0) + 1 ≤ 64
    omega
theorem two_da {K : PySem.W.Frag} {x y : V} (hx : Sc x) (hy : Sc y) :
    ∃ d, (∀ H q, H q = some (.lst [x, y]) → Da K H (.ref q) d) ∧ Ok1 d ∧ wid d ≤ sizeLine ∧ d.depth ≤ 64 := by
  have one : ∀ v, Sc v → ∃ d, (∀ H, Da K H v d) ∧ Ok1 d ∧ wid d ≤ 30002 ∧ d.depth = 0 := by
    intro v h
    obtain ⟨d, h1, h2, h3, h4⟩ := h.da (K := K) (H := fun _ => none)
    exact ⟨d, fun H => h1.same (fun _ o z => nomatch (show (Option.none : Option HO) = some o from z)), h2, h3, h4⟩
  obtain ⟨a, a1, a2, a3, a4⟩ := one x hx
  obtain ⟨b, b1, b2, b3, b4⟩ := one y hy
  refine ⟨.list [a, b], fun H q h => .lst h (.cons (a1 H) (.cons (b1 H) .nil)), ⟨a2, b2, trivial⟩, ?_, ?_⟩
  · have := sizeLine_eq
    show (wid a + 2 + (wid b + 2 + 0)) + 2 ≤ sizeLine
    omega
  · show max a.depth (max b.depth 0) + 1 ≤ 64
    omega
/-! ### some nines -/
theorem _root_.Gd.Tx.rep {m : Nat} {x : Str} (t : Tx m x) (n : Int) : Tx (n.toNat * m) (repS x n) := by
  refine ⟨?_, fun c hc => ?_⟩
  · rw [len_list, repS_list, List.length_flatten, List.map_replicate]
    have h1 := sum_le (l := List.replicate n.toNat x.cps.toList.length) (n := m) fun k hk => by
      rw [(List.mem_replicate.mp hk).2, ← len_list]
      exact t.len
    rw [List.length_replicate] at h1
    exact h1
  · rw [repS_list] at hc
    obtain ⟨l, hl, hc⟩ := List.mem_flatten.mp hc
    rw [(List.mem_replicate.mp hl).2] at hc
    exact t.asc c hc
end K2

namespace K2
open PySem L2 Gd
theorem fresh_far {H H' : Hp} {v : V} (f : Sc v ∨ ∃ a o, v = .ref a ∧ H a = none ∧ H' a = some o ∧ FlatO 1 o) : ∀ b u, H b = some u → V.ref b ≠ v := by
  intro b u hb
  rcases f with h | ⟨a, o, rfl, h, _⟩
  · rintro rfl
    exact h
  · intro z
    have : b = a := by injection z
    rw [this, h] at hb
    exact nomatch hb
theorem fresh_fl {H H' : Hp} {v : V} (f : Sc v ∨ ∃ a o, v = .ref a ∧ H a = none ∧ H' a = some o ∧ FlatO 1 o) : Fl 1 H' v := by
  rcases f with h | ⟨a, o, rfl, _, h, g⟩
  · exact .inl h
  · exact .inr ⟨a, o, rfl, h, g⟩
/-- the drawn other values -/
theorem typed_rest {K : PySem.W.Frag} {Hs H : Hp} {p : Addr} {D : Ends} {a k j t : V} {o5 o6 o7 o8 o9 o10 o11 o12 o13 o14 : Option V} (pl : Pl Hs p H)
    (nx : ∀ t' o5' H', Pl Hs p H' → Fl 1 H' t' → V.ref p ≠ t' → D.nx [some a, some k, some (.ref p), some j, some t', o5', o6, o7, o8, o9, o10, o11, o12, o13, o14] H') :
    tSeq (tAsg (tLst (tCons (tC V.non) (tCons (tC (V.bl true)) (tCons (tC (V.int 7)) (tCons (tUn (rU fun i => V.int (-i)) (tC (V.int 3))) (tCons (tLst (tCons (tC (V.str (Str.ofString "1"))) tNil)) (tCons (tTup (tCons (tC (V.str (Str.ofString "1"))) tNil)) (tCons tDNewK (tCons (tC (V.str (Str.ofString "")))
      (tCons (tOp (fun x y H Q => ∃ z n, x = V.str z ∧ y = V.int n ∧ 1 < n ∧ n < 1000000 ∧ z.length ≠ 0 ∧ z.length * n.toNat ≤ sizeLine ∧ Q (V.str (repS z n)) H) (tC (V.str (Str.ofString "9"))) (tC (V.int 2000)))
      (tCons (tOp (fun x y H Q => ∃ i j, x = V.str i ∧ y = V.str j ∧ i.length + j.length ≤ sizeLine ∧ Q (V.str (i ++ j)) H) (tC (V.str (Str.ofString "-"))) (tOp (fun x y H Q => ∃ z n, x = V.str z ∧ y = V.int n ∧ 1 < n ∧ n < 1000000 ∧ z.length ≠ 0 ∧ z.length * n.toNat ≤ sizeLine ∧ Q (V.str (repS z n)) H) (tC (V.str (Str.ofString "9"))) (tC (V.int 1999)))) tNil))))))))))) (gName 5))
      (tAsg (tOp (rIxL K) (tVar 5) (tCallG spTake [] (fun _ => E0) (tCons (tVar 2) (tCons (tC (V.int 10)) tNil)))) (gName 4)) D [some a, some k, some (.ref p), some j, some t, o5, o6, o7, o8, o9, o10, o11, o12, o13, o14] H := by
  have z16 := sizeLine_eq
  have n9 : (Str.ofString "9").length = 1 := by decide +kernel
  have nine : Tx 1 (Str.ofString "9") := Tx.of (by decide +kernel)
  have minus : Tx 1 (Str.ofString "-") := Tx.of (by decide +kernel)
  have r1 : Tx 2000 (repS (Str.ofString "9") 2000) := (nine.rep 2000).mono (by decide)
  have r2 : Tx 1999 (repS (Str.ofString "9") 1999) := (nine.rep 1999).mono (by decide)
  have r3 : Tx 2000 (Str.ofString "-" ++ repS (Str.ofString "9") 1999) := (minus.app r2).mono (by decide)
  refine ⟨3, rfl, (by show 1 ≤ sizeLine; omega), fun a1 h1 => ⟨(by show 1 ≤ sizeLine; omega), fun a2 h2 => fun a3 h3 => ⟨_, _, rfl, rfl, by decide, by decide, (by rw [n9]; decide), (by rw [n9]; show 1 * 2000 ≤ sizeLine; omega),
    _, _, rfl, rfl, by decide, by decide, (by rw [n9]; decide), (by rw [n9]; show 1 * 1999 ≤ sizeLine; omega), _, _, rfl, rfl, (by have := minus.len; have := r2.len; omega), (by show 10 ≤ sizeLine; omega), fun l hl => ?_⟩⟩⟩
  have k0 := Kept.refl pl.b
  have k1 := k0.new (o := .lst [.str (Str.ofString "1")]) h1
  have k2 := k1.new (o := .tup [.str (Str.ofString "1")]) h2
  have k3 := k2.new (o := .dK []) h3
  have k4 := k3.new (o := .lst [.non, .bl true, .int 7, .int (-3), .ref a1, .ref a2, .ref a3, .str (Str.ofString ""), .str (repS (Str.ofString "9") 2000), .str (Str.ofString "-" ++ repS (Str.ofString "9") 1999)]) hl
  have o1 := keepO (u := .lst [.non, .bl true, .int 7, .int (-3), .ref a1, .ref a2, .ref a3, .str (Str.ofString ""), .str (repS (Str.ofString "9") 2000), .str (Str.ofString "-" ++ repS (Str.ofString "9") 1999)]) (keepO (u := .dK []) (keepO (u := .tup [.str (Str.ofString "1")]) (upd_same (H := H) (a := a1) (o := .lst [.str (Str.ofString "1")])) h2) h3) hl
  have o2 := keepO (u := .lst [.non, .bl true, .int 7, .int (-3), .ref a1, .ref a2, .ref a3, .str (Str.ofString ""), .str (repS (Str.ofString "9") 2000), .str (Str.ofString "-" ++ repS (Str.ofString "9") 1999)]) (keepO (u := .dK []) (upd_same (H := upd H a1 (.lst [.str (Str.ofString "1")])) (a := a2) (o := .tup [.str (Str.ofString "1")])) h3) hl
  have o3 := keepO (u := .lst [.non, .bl true, .int 7, .int (-3), .ref a1, .ref a2, .ref a3, .str (Str.ofString ""), .str (repS (Str.ofString "9") 2000), .str (Str.ofString "-" ++ repS (Str.ofString "9") 1999)]) (upd_same (H := upd (upd H a1 (.lst [.str (Str.ofString "1")])) a2 (.tup [.str (Str.ofString "1")])) (a := a3) (o := .dK [])) hl
  have f1 := Kept.ne pl.b (k0.free pl.b h1)
  have f2 := Kept.ne pl.b (k1.free pl.b h2)
  have f3 := Kept.ne pl.b (k2.free pl.b h3)
  have f4 := Kept.ne pl.b (k3.free pl.b hl)
  refine ⟨_, rfl, _, rfl, p, 10, rfl, k4.box, by decide, by decide, fun d H1 b1 b2 t1 => ?_⟩
  have sm : ∀ n : Nat, n < 1000 → Sc (.int n) := fun n hn => by
    show ((n : Int)).natAbs < 2 ^ 200
    have : (2 : Nat) ^ 200 = 1606938044258990275541962092341162602522202993782792835301376 := by decide
    omega
  have one : ∀ v ∈ [V.str (Str.ofString "1")], Sc v := fun v hv => by
    have : v = .str (Str.ofString "1") := by simpa using hv
    rw [this]
    exact (Tx.of (by decide +kernel) : Tx 3000 (Str.ofString "1"))
  obtain ⟨v, hv, v1, v2⟩ := atI_all (l := [V.non, .bl true, .int 7, .int (-3), .ref a1, .ref a2, .ref a3, .str (Str.ofString ""), .str (repS (Str.ofString "9") 2000), .str (Str.ofString "-" ++ repS (Str.ofString "9") 1999)]) (p := fun v => Fl 1 H1 v ∧ V.ref p ≠ v) (by
    intro v hv
    simp only [List.mem_cons, List.not_mem_nil, or_false] at hv
    rcases hv with rfl | rfl | rfl | rfl | rfl | rfl | rfl | rfl | rfl | rfl
    · exact ⟨.inl trivial, fun z => nomatch z⟩
    · exact ⟨.inl trivial, fun z => nomatch z⟩
    · exact ⟨.inl (sm 7 (by decide)), fun z => nomatch z⟩
    · exact ⟨.inl (sm 3 (by decide)), fun z => nomatch z⟩
    · exact ⟨.inr ⟨a1, _, rfl, t1.at f1 o1, .inl ⟨_, rfl, Nat.le_refl _, one⟩⟩, fun z => f1 (by injection z with e; exact e.symm)⟩
    · exact ⟨.inr ⟨a2, _, rfl, t1.at f2 o2, .inr (.inl ⟨_, rfl, Nat.le_refl _, one⟩)⟩, fun z => f2 (by injection z with e; exact e.symm)⟩
    · exact ⟨.inr ⟨a3, _, rfl, t1.at f3 o3, .inr (.inr (.inl rfl))⟩, fun z => f3 (by injection z with e; exact e.symm)⟩
    · exact ⟨.inl (show Tx 3000 _ from Tx.of (by decide +kernel)), fun z => nomatch z⟩
    · exact ⟨.inl (show Tx 3000 _ from r1.mono (by decide)), fun z => nomatch z⟩
    · exact ⟨.inl (show Tx 3000 _ from r3.mono (by decide)), fun z => nomatch z⟩) (d := d) b1 (by show d < 10; exact b2)
  exact ⟨l, _, d, v, rfl, rfl, SqL.of (t1.at f4 upd_same), hv, nx v _ H1 ((pl.kept k4).kept t1.kept) v1 v2⟩
def spLaw (K : PySem.W.Frag) : Sp := fun vs H Q _ => ∃ (a : Addr) (ns : List Int), vs = [.ref a] ∧ SqL K H a (ns.map V.int) ∧ ns.length ≤ 63 ∧ ∀ H', Q (.bl true) H'
section
variable {P : Program} {w : World} {K : PySem.W.Frag} {mg : Str → Option Value} {base : Heap} {C_I f_I : Addr}
abbrev slaw : Stmt := top 21
theorem sclaw : FnScope ["_law_script", "_law_k", "_law_box_here", "_law_turn", "_law_typed", "_law_some", "_law_number_here", "_law_low", "_law_high", "_law_stood", "_law_due_here", "_law_found", "_law_thing", "_law_plain", "_law_told"] ["_law_script"] (defScope slaw) := ⟨rfl, rfl, rfl, by decide +kernel, rfl, by decide +kernel, by decide +kernel⟩
theorem ok_law {f f1 f2 f3 f4 f5 f6 f7 f8 f9 g1 g2 : Addr} {fd fd1 fd2 fd3 fd4 fd5 fd6 fd7 fd8 fd9 gd1 gd2 : FuncData} (F : Fun K "law" "law" slaw f fd) (T : Txt K mg base C_I f_I)
    (D__law_cell : Df P w K mg base CX0 1 "_law_cell" f1 fd1 ["_law_script", "_law_k"] (spScr K))
    (D__law_box : Df P w K mg base CX0 1 "_law_box" f2 fd2 ["_law_cell_here"] spBox)
    (D__law_take : Df P w K mg base CX0 1 "_law_take" f3 fd3 ["_law_box_here", "_law_size"] spTake)
    (D__law_text : Df P w K mg base CX0 2 "_law_text" f4 fd4 ["_law_box_here"] spText)
    (D__law_number : Df P w K mg base CX0 1 "_law_number" f5 fd5 ["_law_typed"] spNumber)
    (D__law_limit : Df P w K mg base CX0 2 "_law_limit" f6 fd6 ["_law_box_here", "_law_number_here"] spLimit)
    (D__law_due : Df P w K mg base CX0 2 "_law_due" f7 fd7 ["_law_typed", "_law_low", "_law_high"] spTold)
    (D__law_called : Df P w K mg base CX0 5 "_law_called" f8 fd8 ["_law_typed", "_law_low", "_law_high"] spTold)
    (D__law_grown : Df P w K mg base CX0 1 "_law_grown" f9 fd9 ["_law_thing"] spGrown)
    (D_parse_count_d : Dd P w K mg base (L2.CX P w) 4 "parse_count" g1 gd1 ["text", "minimum", "maximum"] [.int 0, .non] (spParse C_I))
    (D_parse_count_0_text_minimum : Dk P w K mg base (L2.CX P w) 4 "parse_count" g2 gd2 ["text", "minimum", "maximum"] (spParse C_I) 0 ["text", "minimum"] (fun _ zs => zs ++ [.non])) :
    FnG P w K mg base CX0 6 f fd ["_law_script"] (spLaw K) := by
  refine okG F sclaw (fun vs H Q E h => ?_) (fun cdv A outer s H vs Q E hc hr h => ?_)
  · obtain ⟨a, ns, rfl, _⟩ := h
    rfl
  obtain ⟨a, ns, rfl, ha, hns, q⟩ := h
  refine ⟨_, (pss_cons (ps_for (passes_of rfl) rfl (pi_range1 rfl T.z_range (pa_cons (pe_callB (call_max2 rfl) (by rfl) T.z_max (by decide +kernel) (pa_cons pe_int (pa_cons (pe_callB (call_min2 rfl) (by rfl) T.z_min (by decide +kernel) (pa_cons pe_int (pa_cons (pe_callB call_len_seq (by rfl) T.z_len (by decide +kernel) (pa_cons (pv 0) pa_nil)) pa_nil))) pa_nil))) pa_nil)) (pg_name (i := 1) sclaw.nd rfl (Or.inl rfl))
  (pss_cons (ps_set (i := 2) sclaw.nd rfl (Or.inl rfl) (pe_d D__law_box hc (hr.mono (by decide)) (by rfl) (fun _ => passN) (pa_cons (pe_d D__law_cell hc (hr.mono (by decide)) (by rfl) (fun _ => passN) (pa_cons (pv 0) (pa_cons (pv 1) pa_nil))) pa_nil)))
 (pss_one (ps_for (passes_of rfl) rfl (pi_range1 rfl T.z_range (pa_cons pe_int pa_nil)) (pg_name (i := 3) sclaw.nd rfl (Or.inl rfl))
  (pss_cons (ps_set (i := 4) sclaw.nd rfl (Or.inl rfl) (pe_d D__law_text hc (hr.mono (by decide)) (by rfl) (fun _ => passN) (pa_cons (pv 2) pa_nil)))
 (pss_mid (ps_if (pt_cmpR op_eq (pe_d D__law_take hc (hr.mono (by decide)) (by rfl) (fun _ => passN) (pa_cons (pv 2) (pa_cons pe_int pa_nil))) pe_int (nomark _))
  (pss_cons (ps_set (i := 5) sclaw.nd rfl (Or.inl rfl) (pe_lst (pa_cons pe_non (pa_cons pe_bl (pa_cons pe_int (pa_cons (pe_un un_neg pe_int) (pa_cons (pe_lst (pa_cons pe_str pa_nil)) (pa_cons (pe_tup (pa_cons pe_str pa_nil)) (pa_cons pe_dnewK (pa_cons pe_str (pa_cons (pe_op op_repS pe_str pe_int) (pa_cons (pe_op op_add_str pe_str (pe_op op_repS pe_str pe_int)) pa_nil))))))))))))
 (pss_one (ps_set (i := 4) sclaw.nd rfl (Or.inl rfl) (pe_ix ix_list (pv 5) (pe_d D__law_take hc (hr.mono (by decide)) (by rfl) (fun _ => passN) (pa_cons (pv 2) (pa_cons pe_int pa_nil))) (fun _ _ => rfl))))) pss_nil)
 (pss_cons (ps_set (i := 6) sclaw.nd rfl (Or.inl rfl) (pe_d D__law_number hc (hr.mono (by decide)) (by rfl) (fun _ => passN) (pa_cons (pv 4) pa_nil)))
 (pss_cons (ps_par (i := 7) (j := 8) (by rfl) sclaw.nd rfl rfl (by decide) rfl rfl (pa_cons (pe_d D__law_limit hc (hr.mono (by decide)) (by rfl) (fun _ => passN) (pa_cons (pv 2) (pa_cons (pv 6) pa_nil))) (pa_cons (pe_d D__law_limit hc (hr.mono (by decide)) (by rfl) (fun _ => passN) (pa_cons (pv 2) (pa_cons (pv 6) pa_nil))) pa_nil)) (by rfl))
 (pss_cons (ps_par (i := 9) (j := 10) (by rfl) sclaw.nd rfl rfl (by decide) rfl rfl (pa_cons (pe_callB (call_repr hc T.sys (room100 hr)) (by rfl) T.z_repr (by decide +kernel) (pa_cons (pe_lst (pa_cons (pv 4) (pa_cons (pv 7) (pa_cons (pv 8) pa_nil)))) pa_nil)) (pa_cons (pe_d D__law_due hc (hr.mono (by decide)) (by rfl) (fun _ => passN) (pa_cons (pv 4) (pa_cons (pv 7) (pa_cons (pv 8) pa_nil)))) pa_nil)) (by rfl))
 (pss_cons (ps_set (i := 11) sclaw.nd rfl (Or.inl rfl) (pe_d D__law_called hc (hr.mono (by decide)) (by rfl) (fun _ => passN) (pa_cons (pv 4) (pa_cons (pv 7) (pa_cons (pv 8) pa_nil)))))
 (pss_cons (ps_if (PW.pt (pw_or (pt_cmpR op_ne (pe_callB (call_repr hc T.sys (room100 hr)) (by rfl) T.z_repr (by decide +kernel) (pa_cons (pv 11) pa_nil)) (pe_callB (call_repr hc T.sys (room100 hr)) (by rfl) T.z_repr (by decide +kernel) (pa_cons (pv 10) pa_nil)) (nomark _)) (pw_or1 (pt_cmpR op_ne (pe_callB (call_repr hc T.sys (room100 hr)) (by rfl) T.z_repr (by decide +kernel) (pa_cons (pe_lst (pa_cons (pv 4) (pa_cons (pv 7) (pa_cons (pv 8) pa_nil)))) pa_nil)) (pv 9) (nomark _)))))
  (pss_one (ps_ret pe_bl)) pss_nil)
 (pss_cons (ps_for (passes_of rfl) rfl (pi_list (pe_lst (pa_cons (pv 7) (pa_cons (pv 8) pa_nil)))) (pg_name (i := 12) sclaw.nd rfl (Or.inl rfl))
  (pss_one (ps_expr (pe_d D__law_grown hc (hr.mono (by decide)) (by rfl) (fun _ => passN) (pa_cons (pv 12) pa_nil)))))
 (pss_cons (ps_if (pt_cmpR op_ne (pe_callB (call_repr hc T.sys (room100 hr)) (by rfl) T.z_repr (by decide +kernel) (pa_cons (pv 11) pa_nil)) (pe_callB (call_repr hc T.sys (room100 hr)) (by rfl) T.z_repr (by decide +kernel) (pa_cons (pv 10) pa_nil)) (nomark _))
  (pss_one (ps_ret pe_bl)) pss_nil)
 (pss_mid (ps_set (i := 13) sclaw.nd rfl (Or.inl rfl) (pe_ifExp (PW.pt (pw_and (pt_cmpR op_notN (pv 6) pe_non (nomark _)) (pw_and1 (pt_cmpR op_ge (pv 6) pe_int (nomark _))))) (pv 6) pe_non))
 (pss_cons (ps_set (i := 14) sclaw.nd rfl (Or.inl rfl) (pe_lst (pa_cons (pe_dd D_parse_count_d hc (hr.mono (by decide)) (by rfl) (fun _ => passM) (pa_cons (pv 4) pa_nil)) (pa_cons (pe_dk0 D_parse_count_0_text_minimum hc (hr.mono (by decide)) (by rfl) (fun _ => passM) (pk_cons (pv 4) (pk_cons pe_non pk_nil))) pa_nil))))
 (pss_one (ps_if (pt_cmpR op_ne (pe_callB (call_repr hc T.sys (room100 hr)) (by rfl) T.z_repr (by decide +kernel) (pa_cons (pv 14) pa_nil)) (pe_callB (call_repr hc T.sys (room100 hr)) (by rfl) T.z_repr (by decide +kernel) (pa_cons (pe_lst (pa_cons (pv 13) (pa_cons (pv 6) pa_nil))) pa_nil)) (nomark _))
  (pss_one (ps_ret pe_bl)) pss_nil)))))))))))))))))
 (pss_one (ps_ret pe_bl))), ?_⟩
  have z16 := sizeLine_eq
  have eq0 : ∀ {x : Str} {A B : Prop}, B → if (!decide (V.str x = V.str x)) = true then A else B := fun {x A B} h =>
    iteB (fun c => by simp at c) (fun _ => h)
  refine ⟨_, rfl, a, _, rfl, .inl ha, _, _, rfl, _, _, rfl, _, rfl, ?_, ?_, ?_⟩
  · split <;> split <;> omega
  · split <;> split <;> omega
  refine for_range (fun i σ H' => ∃ o1 o2 o3 o4 o5 o6 o7 o8 o9 o10 o11 o12 o13 o14, σ = [some (.ref a), o1, o2, o3, o4, o5, o6, o7, o8, o9, o10, o11, o12, o13, o14] ∧ SqL K H' a (ns.map V.int)) ⟨none, none, none, none, none, none, none, none, none, none, none, none, none, none, rfl, ha⟩ ?_ (fun _ _ _ => q _)
  rintro i _ H1 hi ⟨o1, o2, o3, o4, o5, o6, o7, o8, o9, o10, o11, o12, o13, o14, rfl, h1⟩
  have hi8 : i < 1000 := by
    refine Nat.lt_of_lt_of_le hi ?_
    split <;> split <;> omega
  refine ⟨_, rfl, _, rfl, a, ns, _, rfl, h1, ?_, ?_, fun z => ⟨z, rfl, fun p o hp hb => ?_⟩⟩
  · omega
  · omega
  have pl1 : Pl H1 p (upd H1 p o) := ⟨hp, fun b u hu => by rw [upd_ne (ne_of_none hu hp)]; exact hu, hb⟩
  refine ⟨30, rfl, by decide, by decide, ?_⟩
  refine for_range (fun j σ H' => ∃ o3 o4 o5 o6 o7 o8 o9 o10 o11 o12 o13 o14, σ = [some (.ref a), some (.int (0 + (i : Nat))), some (.ref p), o3, o4, o5, o6, o7, o8, o9, o10, o11, o12, o13, o14] ∧ Pl H1 p H') ⟨o3, o4, o5, o6, o7, o8, o9, o10, o11, o12, o13, o14, rfl, pl1⟩ ?_ ?_
  · rintro j _ H2 hj ⟨o3, o4, o5, o6, o7, o8, o9, o10, o11, o12, o13, o14, rfl, pl2⟩
    refine ⟨_, rfl, p, rfl, pl2.b, fun x H3 tx k3 => ?_⟩
    refine ⟨fun σ' H' => ∃ t o5, σ' = [some (.ref a), some (.int (0 + (i : Nat))), some (.ref p), some (.int (0 + (j : Nat))), some t, o5, o6, o7, o8, o9, o10, o11, o12, o13, o14] ∧ Pl H1 p H' ∧ Fl 1 H' t ∧ V.ref p ≠ t, ?_, ?_⟩
    · refine ⟨_, rfl, p, 6, rfl, k3.box, by decide, by decide, fun d H4 b1 b2 t4 => ⟨rfl, _, rfl, ?_⟩⟩
      have pl4 := (pl2.kept k3).kept t4.kept
      refine iteB (fun c => ?_) (fun c => ?_)
      · exact typed_rest pl4 fun t' o5' H' g1 g2 g3 => ⟨t', o5', rfl, g1, g2, g3⟩
      · exact ⟨.str x, o5, rfl, pl4, .inl (tx.mono (by decide)), fun z => nomatch z⟩
    rintro _ H5 ⟨t, o5, rfl, pl5, ft5, pt⟩
    refine ⟨_, rfl, t, rfl, ft5.pv, ft5.short, fun H6 s6 => ?_⟩
    have pl6 := pl5.same s6
    have ft6 := ft5.same s6
    refine ⟨_, rfl, _, rfl, p, _, rfl, pl6.b, numR_or t, fun lo H7 k7 f7 => ⟨_, rfl, _, rfl, p, _, rfl, k7.box, numR_or t, fun hi H8 k8 f8 => ⟨_, _, rfl, ?_⟩⟩⟩
    have pl7 := pl6.kept k7
    have pl8 := pl7.kept k8
    have ft8 := (ft6.kept pt k7).kept pt k8
    have farLo := fresh_far f7
    have farHi := fresh_far f8
    have pLo : V.ref p ≠ lo := by
      obtain ⟨_, e⟩ := pl6.b.some
      exact farLo _ _ e
    have pHi : V.ref p ≠ hi := by
      obtain ⟨_, e⟩ := pl7.b.some
      exact farHi _ _ e
    have fl8 : Fl 1 H8 lo := (fresh_fl f7).kept pLo k8
    have fh8 : Fl 1 H8 hi := fresh_fl f8
    obtain ⟨d3, D3, ok3, w3, dp3⟩ := three_da (K := K) ft8 fl8 fh8
    refine ⟨_, rfl, _, rfl, _, rfl, (by show 3 ≤ sizeLine; omega), fun l hl => ?_⟩
    have s8 : Same H8 (upd H8 l (.lst [t, lo, hi])) := fun b u hu => keepO hu hl
    refine ⟨.ref l, d3, rfl, D3 _ l s8 upd_same, ok3, w3, dp3, ?_⟩
    refine ⟨_, rfl, _, rfl, _, rfl, t, lo, hi, rfl, (ft8.same s8).pv, (fl8.same s8).pv, (fh8.same s8).pv, ft8.short, fun H9 pd s9 hpd e9 => ⟨_, _, rfl, ?_⟩⟩
    have s89 := s8.trans s9
    refine ⟨_, rfl, _, rfl, _, rfl, t, lo, hi, rfl, (ft8.same s89).pv, (fl8.same s89).pv, (fh8.same s89).pv, ft8.short, fun H10 pf s10 hpf e10 => ?_⟩
    have s810 := s89.trans s10
    obtain ⟨dP, DP, okP, wP, dpP⟩ := pair_da (K := K) (H := H10) (n := 1) (by decide) (told_tag (t := t) (lo := lo) (hi := hi)) (told_fl (t := t) (fl8.same s810) (fh8.same s810))
    refine ⟨_, rfl, .ref pf, dP, rfl, DP pf e10, okP, wP, dpP, _, rfl, .ref pd, dP, rfl, DP pd (s10 _ _ e9), okP, wP, dpP, rfl, _, rfl, eq0 ?_⟩
    refine ⟨_, rfl, _, rfl, _, rfl, (by show 3 ≤ sizeLine; omega), fun l2 hl2 => ?_⟩
    have s11 : Same H10 (upd H10 l2 (.lst [t, lo, hi])) := fun b u hu => keepO hu hl2
    have s811 := s810.trans s11
    refine ⟨.ref l2, d3, rfl, D3 _ l2 s811 upd_same, ok3, w3, dp3, _, rfl, rfl, _, rfl, eq0 ?_⟩
    refine ⟨_, rfl, _, rfl, (by show 2 ≤ sizeLine; omega), fun l3 hl3 => ⟨l3, rfl, ⟨_, SqL.of upd_same⟩, ?_⟩⟩
    have s12 : Same (upd H10 l2 (.lst [t, lo, hi])) (upd (upd H10 l2 (.lst [t, lo, hi])) l3 (.lst [lo, hi])) := fun b u hu => keepO hu hl3
    have s812 := s811.trans s12
    have far : ∀ x, x = lo ∨ x = hi → V.ref l3 ≠ x ∧ V.ref pf ≠ x ∧ V.ref pd ≠ x ∧ V.ref p ≠ x ∧ (∀ b u, H1 b = some u → V.ref b ≠ x) ∧ (∀ b, t = .ref b → t ≠ x) := by
      have tObj : ∀ b, t = .ref b → ∃ o, H6 b = some o := by
        intro b e
        rcases ft6 with h | ⟨b', o', e', h, _⟩
        · rw [e] at h; exact h.elim
        · rw [e] at e'
          have : b = b' := by injection e'
          exact ⟨o', by rw [this]; exact h⟩
      rintro x (rfl | rfl)
      · refine ⟨(fl8.same s811).ne hl3, (fl8.same s89).ne hpf, (fl8.same s8).ne hpd, pLo, fun b u hu => farLo b u (pl6.s b u hu), fun b e => ?_⟩
        obtain ⟨o', h⟩ := tObj b e
        rw [e]
        exact farLo _ _ h
      · refine ⟨(fh8.same s811).ne hl3, (fh8.same s89).ne hpf, (fh8.same s8).ne hpd, pHi, fun b u hu => farHi b u (pl7.s b u hu), fun b e => ?_⟩
        obtain ⟨o', h⟩ := tObj b e
        rw [e]
        by_cases z : b = p
        · rw [z]; exact pHi
        · exact farHi _ _ (k7.2 _ _ z h)
    refine for_list (K := K) (a := l3) (xs := [lo, hi]) (fun m σ H' => ∃ o12, σ = [some (.ref a), some (.int (0 + (i : Nat))), some (.ref p), some (.int (0 + (j : Nat))), some t, o5, some (numR t), some lo, some hi, some (.str d3.shown), some (.ref pd), some (.ref pf), o12, o13, o14]
      ∧ H' l3 = some (.lst [lo, hi]) ∧ H' pf = some (.lst [.str (told t lo hi).1, (told t lo hi).2]) ∧ H' pd = some (.lst [.str (told t lo hi).1, (told t lo hi).2]) ∧ Fl (m + 1) H' lo ∧ Fl (m + 1) H' hi ∧ Fl 1 H' t ∧ Pl H1 p H') ?_ ?_ ?_ ?_
    · exact ⟨o12, rfl, upd_same, s12 _ _ (s11 _ _ e10), s12 _ _ (s11 _ _ (s10 _ _ e9)), fl8.same s812, fh8.same s812, ft8.same s812, pl8.same s812⟩
    · rintro m σ H' _ ⟨_, _, g1, _⟩
      exact SqL.of g1
    · rintro m x _ H' hx ⟨o12, rfl, g1, g2, g3, g4, g5, g6, g7⟩
      have hm : m ≤ 1 ∧ (x = lo ∨ x = hi) := by
        match m, hx with
        | 0, hx => exact ⟨by decide, .inl (by injection hx with e; exact e.symm)⟩
        | 1, hx => exact ⟨by decide, .inr (by injection hx with e; exact e.symm)⟩
        | m + 2, hx => exact nomatch hx
      obtain ⟨x1, x2, x3, x4, x5, x6⟩ := far x hm.2
      have gx : Fl (m + 1) H' x := by
        rcases hm.2 with e | e <;> rw [e]
        · exact g4
        · exact g5
      refine ⟨_, rfl, x, m + 1, rfl, by omega, gx, fun H'' bt fx => ?_⟩
      have each : ∀ w, Fl (m + 1) H' w → Fl (m + 1 + 1) H'' w := fun w hw => by
        by_cases e : x = w
        · rw [← e]; exact fx
        · exact (hw.but (fun _ _ z => e z.symm) bt).mono (by omega)
      exact ⟨_, rfl, bt _ _ x1 g1, bt _ _ x2 g2, bt _ _ x3 g3, each lo g4, each hi g5, g6.but x6 bt, g7.but x4 x5 bt⟩
    · rintro _ H13 ⟨o12, rfl, g1, g2, g3, g4, g5, g6, g7⟩
      obtain ⟨dR, DR, okR, wR, dpR⟩ := pair_da (K := K) (H := H13) (n := 3) (by decide) (told_tag (t := t) (lo := lo) (hi := hi)) (told_fl (t := t) g4 g5)
      refine ⟨_, rfl, .ref pf, dR, rfl, DR pf g2, okR, wR, dpR, _, rfl, .ref pd, dR, rfl, DR pd g3, okR, wR, dpR, rfl, _, rfl, eq0 ?_⟩
      have pst := g6.pv
      have shT := g6.short
      refine ⟨fun σ' H' => H' = H13 ∧ σ' = [some (.ref a), some (.int (0 + (i : Nat))), some (.ref p), some (.int (0 + (j : Nat))), some t, o5, some (numR t), some lo, some hi, some (.str d3.shown), some (.ref pd), some (.ref pf), o12, some (resV t (.int 0) .non), o14], ?_, ?_⟩
      · refine ⟨_, rfl, rfl, _, rfl, ?_⟩
        have no : resV t (.int 0) .non = .non → (fun σ' H' => H' = H13 ∧ σ' = [some (.ref a), some (.int (0 + (i : Nat))), some (.ref p), some (.int (0 + (j : Nat))), some t, o5, some (numR t), some lo, some hi, some (.str d3.shown), some (.ref pd), some (.ref pf), o12, some (resV t (.int 0) .non), o14])
          [some (.ref a), some (.int (0 + (i : Nat))), some (.ref p), some (.int (0 + (j : Nat))), some t, o5, some (numR t), some lo, some hi, some (.str d3.shown), some (.ref pd), some (.ref pf), o12, some .non, o14] H13 := fun e => ⟨rfl, by rw [e]⟩
        cases en : numV t with
        | none =>
          have e1 : numR t = .non := by unfold numR; rw [en]
          have e2 : resV t (.int 0) .non = .non := by unfold resV; rw [en]
          refine iteB (fun c => absurd c (by rw [e1]; decide)) (fun _ => ?_)
          exact iteB (fun c => absurd c (by decide)) (fun _ => no e2)
        | some n =>
          have e1 : numR t = .int n := by unfold numR; rw [en]
          have e2 : resV t (.int 0) .non = if decide (n < 0) || false then .non else .int n := by unfold resV; rw [en]; rfl
          rw [e1] at no ⊢
          refine iteB (fun _ => ?_) (fun c => absurd c (by simp))
          refine ⟨_, rfl, _, _, rfl, rfl, _, rfl, ?_⟩
          refine iteB (fun c => ?_) (fun c => ?_)
          · have := of_decide_eq_true c
            rw [show decide (n < 0) = false from decide_eq_false (by omega)] at e2
            refine ⟨_, rfl, rfl, ?_⟩
            rw [e2]
            rfl
          · have := of_decide_eq_false c
            rw [show decide (n < 0) = true from decide_eq_true (by omega)] at e2
            exact no e2
      rintro _ _ ⟨rfl, rfl⟩
      refine ⟨_, rfl, t, .int 0, .non, rfl, pst, (fun z => nomatch z), (fun z => nomatch z), shT, (fun z => absurd z (by decide)), (fun _ z => absurd z (by decide)), fun _ _ H14 s14 => ?_⟩
      refine ⟨_, rfl, rfl, rfl, t, .non, .non, rfl, (g6.same s14).pv, (fun z => nomatch z), (fun z => nomatch z), shT, (fun z => absurd z (by decide)), (fun _ z => absurd z (by decide)), fun _ _ H15 s15 => ?_⟩
      rw [resV_free t]
      refine ⟨(by show 2 ≤ sizeLine; omega), fun l4 hl4 => ?_⟩
      obtain ⟨d2, D2, ok2, w2, dp2⟩ := two_da (K := K) (resV_sc t (.int 0) .non) (numR_sc t)
      refine ⟨_, rfl, .ref l4, d2, rfl, D2 _ l4 upd_same, ok2, w2, dp2, _, rfl, _, rfl, (by show 2 ≤ sizeLine; omega), fun l5 hl5 => ⟨.ref l5, d2, rfl, D2 _ l5 upd_same, ok2, w2, dp2, rfl, _, rfl, eq0 ?_⟩⟩
      have s16 : Same H15 (upd H15 l4 (.lst [resV t (.int 0) .non, numR t])) := fun b u hu => keepO hu hl4
      have s17 : Same (upd H15 l4 (.lst [resV t (.int 0) .non, numR t])) (upd (upd H15 l4 (.lst [resV t (.int 0) .non, numR t])) l5 (.lst [resV t (.int 0) .non, numR t])) := fun b u hu => keepO hu hl5
      exact ⟨_, _, _, _, _, _, _, _, _, _, _, _, rfl, g7.same (((s14.trans s15).trans s16).trans s17)⟩
  · rintro _ H2 ⟨o3, o4, o5, o6, o7, o8, o9, o10, o11, o12, o13, o14, rfl, pl2⟩
    exact ⟨_, _, _, _, _, _, _, _, _, _, _, _, _, _, rfl, pl2.s.seq h1⟩
end
end K2

namespace K2
open PySem PySem.Spec PyProof.Rows L2 Gd
section
variable {K : PySem.W.Frag} {D : Addr} {doc pm cdv ct : Value} {an : Option Addr}
theorem pc_d (u a b : Value) : KwChain D [("minimum", a), ("maximum", b)] (bindArgs (PySem.W.fnOf "parse_count" "parse_count" (defArgs sparse_count) (defBody sparse_count) (defScope sparse_count) .none (.ref D) doc pm an cdv ct) ⟨[u], []⟩)
    [("text", u), ("minimum", a), ("maximum", b)] := ⟨_, _, _, _, _, _, rfl, rfl, _, _, _, _, _, _, rfl, rfl, rfl⟩
theorem pc_0 (u a b : Value) : KwChain D [("maximum", b)] (bindArgs (PySem.W.fnOf "parse_count" "parse_count" (defArgs sparse_count) (defBody sparse_count) (defScope sparse_count) .none (.ref D) doc pm an cdv ct) ⟨[], [("text", u), ("minimum", a)]⟩)
    [("text", u), ("minimum", a), ("maximum", b)] := ⟨_, _, _, _, _, _, rfl, rfl, rfl⟩
theorem pc_1 (u a b : Value) : bindArgs (PySem.W.fnOf "parse_count" "parse_count" (defArgs sparse_count) (defBody sparse_count) (defScope sparse_count) .none (.ref D) doc pm an cdv ct) ⟨[u], [("maximum", b), ("minimum", a)]⟩ =
    pure [(("text" : Str), u), (("minimum" : Str), a), (("maximum" : Str), b)] := rfl
end
theorem exm_selfG {K : PySem.W.Frag} {S : Addr} (h1 : PySem.W.subIn K (.ref S) (.type "BaseException") = some true) (h2 : PySem.W.isClsIn K S = true) (h3 : PySem.W.typeIn K (.ref S) = some (.type "type")) (h4 : PySem.W.subIn K (.ref S) (.ref S) = some true) :
    PySem.W.exmOne K (.ref S) (.ref S) = some true := by
  have e1 : (PySem.W.subIn K (.ref S) (.type "BaseException") == some true) = true := by rw [h1] <;> rfl
  have e2 : ((PySem.W.clsIn K S).isSome && PySem.W.typeIn K (.ref S) == some (.type "type")) = true := by
    have h2' : (PySem.W.clsIn K S).isSome = true := h2
    rw [h2', h3] <;> rfl
  show (if (PySem.W.subIn K (.ref S) (.type "BaseException") == some true) = true then (if ((PySem.W.clsIn K S).isSome && PySem.W.typeIn K (.ref S) == some (.type "type")) = true then PySem.W.subIn K (.ref S) (.ref S) else none) else none) = some true
  rw [if_pos e1, if_pos e2]
  exact h4
open PySem.W in
theorem all_mk {P : Program} {w : World} {K : PySem.W.Frag} {h : Heap} {mg : Str → Option Value} {fa : Addr} (X : K.In h) (G : h.Ns mainGlobals mg) (hfa : mg "law" = some (.ref fa))
    {f0 : Addr} {od0 an0 : Option Addr} {sl0 : Array (Option Value)} {oc0 kV0 dc0 pm0 cd0 ct0 : Value}
    {f1 : Addr} {od1 an1 : Option Addr} {sl1 : Array (Option Value)} {oc1 dc1 pm1 cd1 ct1 : Value}
    {f2 : Addr} {od2 an2 : Option Addr} {sl2 : Array (Option Value)} {oc2 kV2 dc2 pm2 cd2 ct2 : Value}
    {f3 : Addr} {od3 an3 : Option Addr} {sl3 : Array (Option Value)} {oc3 kV3 dc3 pm3 cd3 ct3 : Value}
    {f4 : Addr} {od4 an4 : Option Addr} {sl4 : Array (Option Value)} {oc4 kV4 dc4 pm4 cd4 ct4 : Value}
    {f5 : Addr} {od5 an5 : Option Addr} {sl5 : Array (Option Value)} {oc5 kV5 dc5 pm5 cd5 ct5 : Value}
    {f6 : Addr} {od6 an6 : Option Addr} {sl6 : Array (Option Value)} {oc6 kV6 dc6 pm6 cd6 ct6 : Value}
    {f7 : Addr} {od7 an7 : Option Addr} {sl7 : Array (Option Value)} {oc7 kV7 dc7 pm7 cd7 ct7 : Value}
    {f8 : Addr} {od8 an8 : Option Addr} {sl8 : Array (Option Value)} {oc8 kV8 dc8 pm8 cd8 ct8 : Value}
    {f9 : Addr} {od9 an9 : Option Addr} {sl9 : Array (Option Value)} {oc9 kV9 dc9 pm9 cd9 ct9 : Value}
    {f10 : Addr} {od10 an10 : Option Addr} {sl10 : Array (Option Value)} {oc10 kV10 dc10 pm10 cd10 ct10 : Value}
    {f11 : Addr} {od11 an11 : Option Addr} {sl11 : Array (Option Value)} {oc11 kV11 dc11 pm11 cd11 ct11 : Value}
    {f12 : Addr} {od12 an12 : Option Addr} {sl12 : Array (Option Value)} {oc12 kV12 dc12 pm12 cd12 ct12 : Value}
    {f13 : Addr} {od13 an13 : Option Addr} {sl13 : Array (Option Value)} {oc13 kV13 dc13 pm13 cd13 ct13 : Value}
    {CI gI NI : Addr} {nmI qI : Str} {bsI : List Value} {snI : List Str} {subI : List Value} {abI : Bool} {colI : Option Bool} {ddI : Option Addr} {m0I m1I m2I m3I m5I : Option Value} {bmI : List Value} {ocI dcI pmI cdI ctI : Value} {odI anI : Option Addr} {slI : Array (Option Value)} {p1I p2I q1I q2I q3I q4I : Pos}
    {DK : Addr} {tM tm : Tok}
    (a0 : PySem.W.nsIn K mainGlobals "is_integer" = some (some (.ref f0)))
    (l0 : K.lookup f0 = some ⟨oc0, od0, .func (PySem.W.fnOf "is_integer" "is_integer" (defArgs sis_integer) (defBody sis_integer) (defScope sis_integer) .none kV0 dc0 pm0 an0 cd0 ct0), sl0⟩)
    (c0 : PySem.W.codeIn K cd0 "is_integer" = true)
    (k0 : PySem.W.keepIn K (.ref f0) = true)
    (a1 : PySem.W.nsIn K mainGlobals "parse_count" = some (some (.ref f1)))
    (l1 : K.lookup f1 = some ⟨oc1, od1, .func (PySem.W.fnOf "parse_count" "parse_count" (defArgs sparse_count) (defBody sparse_count) (defScope sparse_count) .none (.ref DK) dc1 pm1 an1 cd1 ct1), sl1⟩)
    (c1 : PySem.W.codeIn K cd1 "parse_count" = true)
    (k1 : PySem.W.keepIn K (.ref f1) = true)
    (a2 : PySem.W.nsIn K mainGlobals "is_number" = some (some (.ref f2)))
    (l2 : K.lookup f2 = some ⟨oc2, od2, .func (PySem.W.fnOf "is_number" "is_number" (defArgs sis_number) (defBody sis_number) (defScope sis_number) .none kV2 dc2 pm2 an2 cd2 ct2), sl2⟩)
    (c2 : PySem.W.codeIn K cd2 "is_number" = true)
    (k2 : PySem.W.keepIn K (.ref f2) = true)
    (a3 : PySem.W.nsIn K mainGlobals "_law_cell" = some (some (.ref f3)))
    (l3 : K.lookup f3 = some ⟨oc3, od3, .func (PySem.W.fnOf "_law_cell" "_law_cell" (defArgs s_law_cell) (defBody s_law_cell) (defScope s_law_cell) .none kV3 dc3 pm3 an3 cd3 ct3), sl3⟩)
    (c3 : PySem.W.codeIn K cd3 "_law_cell" = true)
    (k3 : PySem.W.keepIn K (.ref f3) = true)
    (a4 : PySem.W.nsIn K mainGlobals "_law_box" = some (some (.ref f4)))
    (l4 : K.lookup f4 = some ⟨oc4, od4, .func (PySem.W.fnOf "_law_box" "_law_box" (defArgs s_law_box) (defBody s_law_box) (defScope s_law_box) .none kV4 dc4 pm4 an4 cd4 ct4), sl4⟩)
    (c4 : PySem.W.codeIn K cd4 "_law_box" = true)
    (k4 : PySem.W.keepIn K (.ref f4) = true)
    (a5 : PySem.W.nsIn K mainGlobals "_law_take" = some (some (.ref f5)))
    (l5 : K.lookup f5 = some ⟨oc5, od5, .func (PySem.W.fnOf "_law_take" "_law_take" (defArgs s_law_take) (defBody s_law_take) (defScope s_law_take) .none kV5 dc5 pm5 an5 cd5 ct5), sl5⟩)
    (c5 : PySem.W.codeIn K cd5 "_law_take" = true)
    (k5 : PySem.W.keepIn K (.ref f5) = true)
    (a6 : PySem.W.nsIn K mainGlobals "_law_text" = some (some (.ref f6)))
    (l6 : K.lookup f6 = some ⟨oc6, od6, .func (PySem.W.fnOf "_law_text" "_law_text" (defArgs s_law_text) (defBody s_law_text) (defScope s_law_text) .none kV6 dc6 pm6 an6 cd6 ct6), sl6⟩)
    (c6 : PySem.W.codeIn K cd6 "_law_text" = true)
    (k6 : PySem.W.keepIn K (.ref f6) = true)
    (a7 : PySem.W.nsIn K mainGlobals "_law_number" = some (some (.ref f7)))
    (l7 : K.lookup f7 = some ⟨oc7, od7, .func (PySem.W.fnOf "_law_number" "_law_number" (defArgs s_law_number) (defBody s_law_number) (defScope s_law_number) .none kV7 dc7 pm7 an7 cd7 ct7), sl7⟩)
    (c7 : PySem.W.codeIn K cd7 "_law_number" = true)
    (k7 : PySem.W.keepIn K (.ref f7) = true)
    (a8 : PySem.W.nsIn K mainGlobals "_law_limit" = some (some (.ref f8)))
    (l8 : K.lookup f8 = some ⟨oc8, od8, .func (PySem.W.fnOf "_law_limit" "_law_limit" (defArgs s_law_limit) (defBody s_law_limit) (defScope s_law_limit) .none kV8 dc8 pm8 an8 cd8 ct8), sl8⟩)
    (c8 : PySem.W.codeIn K cd8 "_law_limit" = true)
    (k8 : PySem.W.keepIn K (.ref f8) = true)
    (a9 : PySem.W.nsIn K mainGlobals "_law_is_limit" = some (some (.ref f9)))
    (l9 : K.lookup f9 = some ⟨oc9, od9, .func (PySem.W.fnOf "_law_is_limit" "_law_is_limit" (defArgs s_law_is_limit) (defBody s_law_is_limit) (defScope s_law_is_limit) .none kV9 dc9 pm9 an9 cd9 ct9), sl9⟩)
    (c9 : PySem.W.codeIn K cd9 "_law_is_limit" = true)
    (k9 : PySem.W.keepIn K (.ref f9) = true)
    (a10 : PySem.W.nsIn K mainGlobals "_law_due" = some (some (.ref f10)))
    (l10 : K.lookup f10 = some ⟨oc10, od10, .func (PySem.W.fnOf "_law_due" "_law_due" (defArgs s_law_due) (defBody s_law_due) (defScope s_law_due) .none kV10 dc10 pm10 an10 cd10 ct10), sl10⟩)
    (c10 : PySem.W.codeIn K cd10 "_law_due" = true)
    (k10 : PySem.W.keepIn K (.ref f10) = true)
    (a11 : PySem.W.nsIn K mainGlobals "_law_called" = some (some (.ref f11)))
    (l11 : K.lookup f11 = some ⟨oc11, od11, .func (PySem.W.fnOf "_law_called" "_law_called" (defArgs s_law_called) (defBody s_law_called) (defScope s_law_called) .none kV11 dc11 pm11 an11 cd11 ct11), sl11⟩)
    (c11 : PySem.W.codeIn K cd11 "_law_called" = true)
    (k11 : PySem.W.keepIn K (.ref f11) = true)
    (a12 : PySem.W.nsIn K mainGlobals "_law_grown" = some (some (.ref f12)))
    (l12 : K.lookup f12 = some ⟨oc12, od12, .func (PySem.W.fnOf "_law_grown" "_law_grown" (defArgs s_law_grown) (defBody s_law_grown) (defScope s_law_grown) .none kV12 dc12 pm12 an12 cd12 ct12), sl12⟩)
    (c12 : PySem.W.codeIn K cd12 "_law_grown" = true)
    (k12 : PySem.W.keepIn K (.ref f12) = true)
    (a13 : PySem.W.nsIn K mainGlobals "law" = some (some (.ref f13)))
    (l13 : K.lookup f13 = some ⟨oc13, od13, .func (PySem.W.fnOf "law" "law" (defArgs slaw) (defBody slaw) (defScope slaw) .none kV13 dc13 pm13 an13 cd13 ct13), sl13⟩)
    (c13 : PySem.W.codeIn K cd13 "law" = true)
    (k13 : PySem.W.keepIn K (.ref f13) = true)
    (gM : PySem.W.nsIn K mainGlobals "MOST_DIGITS" = some (some (.int 30 tM)))
    (dm : PySem.W.nsIn K DK "minimum" = some (some (.int 0 tm)))
    (dx : PySem.W.nsIn K DK "maximum" = some (some .none))
    (aCI : PySem.W.nsIn K mainGlobals "InvalidInteger" = some (some (.ref CI)))
    (xLI : K.lookup CI = some (excClassObj nmI qI CI NI bsI bmI true snI subI abI colI ddI m0I m1I m2I m3I m5I "ValueError.__new__"))
    (vbI : PySem.HandSPX.refsVE bmI = true)
    (saI : PySem.W.findIn K (.ref CI) "__setattr__" = some (some (.builtin "object.__setattr__")))
    (gaI : PySem.W.findIn K (.ref CI) "__getattribute__" = some (some (.builtin "BaseException.__getattribute__")))
    (ggI : PySem.W.findIn K (.ref CI) "__getattr__" = some none)
    (nbI : PySem.W.findIn K (.ref CI) "value" = some none)
    (iCI : PySem.W.findIn K (.ref CI) "__init__" = some (some (.ref gI)))
    (tfI : PySem.W.typeIn K (.ref gI) = some (.type "function"))
    (lfI : K.lookup gI = some ⟨ocI, odI, .func (PySem.W.fnOf "__init__" "InvalidInteger.__init__" (PySem.EzValue.iA p1I p2I) (PySem.EzValue.iB q1I q2I q3I q4I) PySem.EzValue.iS .none .none dcI pmI anI cdI ctI), slI⟩)
    (cfI : PySem.W.codeIn K cdI "InvalidInteger.__init__" = true)
    (kCI : PySem.W.keepIn K (.ref CI) = true)
    (eCI : PySem.W.subIn K (.ref CI) (.type "BaseException") = some true)
    (tCI : PySem.W.typeIn K (.ref CI) = some (.type "type"))
    (hCI : PySem.W.hasDictIn K CI = true)
    (jCI : PySem.W.isClsIn K CI = true)
    (sCI : PySem.W.subIn K (.ref CI) (.ref CI) = some true)
    (z_isinstance : PySem.W.nsIn K mainGlobals "isinstance" = some none)
    (z_int : PySem.W.nsIn K mainGlobals "int" = some none)
    (z_bool : PySem.W.nsIn K mainGlobals "bool" = some none)
    (z_str : PySem.W.nsIn K mainGlobals "str" = some none)
    (z_list : PySem.W.nsIn K mainGlobals "list" = some none)
    (z_dict : PySem.W.nsIn K mainGlobals "dict" = some none)
    (z_len : PySem.W.nsIn K mainGlobals "len" = some none)
    (z_all : PySem.W.nsIn K mainGlobals "all" = some none)
    (z_max : PySem.W.nsIn K mainGlobals "max" = some none)
    (z_min : PySem.W.nsIn K mainGlobals "min" = some none)
    (z_range : PySem.W.nsIn K mainGlobals "range" = some none)
    (z_repr : PySem.W.nsIn K mainGlobals "repr" = some none)
    : ∃ fd : FuncData, (∀ (s : Shared) (u : Value), BindsTo s fd ⟨[u], []⟩ [("_law_script", u)]) ∧ ∀ base : Heap, K.In base → base.Ns mainGlobals mg → SysIn base → FnG P w K mg base CX0 6 fa fd ["_law_script"] (spLaw K) := by
  have e := hfa.symm.trans (PySem.W.mg_of X G a13)
  cases e
  have lowI : PySem.EzValue.LowTxt K mg "InvalidInteger" "InvalidInteger.__init__" CI gI :=
    { gC := PySem.W.mg_of X G aCI, cls := ⟨nmI, qI, NI, bsI, bmI, snI, subI, abI, colI, ddI, m0I, m1I, m2I, m3I, m5I, xLI, vbI⟩, sa := saI, ga := gaI, gg := ggI, noN := nbI, iC := iCI, tC := tfI, kC := kCI, exC := eCI, tyC := tCI, hdC := hCI,
      te := exm_selfG eCI jCI tCI sCI, fn := ⟨_, _, _, _, _, _, _, _, _, _, _, _, _, _, lfI, cfI⟩ }
  have F0 := fun_mk (st := sis_integer) l0 c0 k0
  have m0 := PySem.W.mg_of X G a0
  have F1 := fun_mk (st := sparse_count) l1 c1 k1
  have m1 := PySem.W.mg_of X G a1
  have F2 := fun_mk (st := sis_number) l2 c2 k2
  have m2 := PySem.W.mg_of X G a2
  have F3 := fun_mk (st := s_law_cell) l3 c3 k3
  have m3 := PySem.W.mg_of X G a3
  have F4 := fun_mk (st := s_law_box) l4 c4 k4
  have m4 := PySem.W.mg_of X G a4
  have F5 := fun_mk (st := s_law_take) l5 c5 k5
  have m5 := PySem.W.mg_of X G a5
  have F6 := fun_mk (st := s_law_text) l6 c6 k6
  have m6 := PySem.W.mg_of X G a6
  have F7 := fun_mk (st := s_law_number) l7 c7 k7
  have m7 := PySem.W.mg_of X G a7
  have F8 := fun_mk (st := s_law_limit) l8 c8 k8
  have m8 := PySem.W.mg_of X G a8
  have F9 := fun_mk (st := s_law_is_limit) l9 c9 k9
  have m9 := PySem.W.mg_of X G a9
  have F10 := fun_mk (st := s_law_due) l10 c10 k10
  have m10 := PySem.W.mg_of X G a10
  have F11 := fun_mk (st := s_law_called) l11 c11 k11
  have m11 := PySem.W.mg_of X G a11
  have F12 := fun_mk (st := s_law_grown) l12 c12 k12
  have m12 := PySem.W.mg_of X G a12
  have F13 := fun_mk (st := slaw) l13 c13 k13
  have m13 := PySem.W.mg_of X G a13
  have b0 := F0.binds (ps := ["value"]) fun _ _ _ _ _ _ us hl => match us, hl with | [_], _ => rfl
  have b2 := F2.binds (ps := ["text"]) fun _ _ _ _ _ _ us hl => match us, hl with | [_], _ => rfl
  have b3 := F3.binds (ps := ["_law_script", "_law_k"]) fun _ _ _ _ _ _ us hl => match us, hl with | [_, _], _ => rfl
  have b4 := F4.binds (ps := ["_law_cell_here"]) fun _ _ _ _ _ _ us hl => match us, hl with | [_], _ => rfl
  have b5 := F5.binds (ps := ["_law_box_here", "_law_size"]) fun _ _ _ _ _ _ us hl => match us, hl with | [_, _], _ => rfl
  have b6 := F6.binds (ps := ["_law_box_here"]) fun _ _ _ _ _ _ us hl => match us, hl with | [_], _ => rfl
  have b7 := F7.binds (ps := ["_law_typed"]) fun _ _ _ _ _ _ us hl => match us, hl with | [_], _ => rfl
  have b8 := F8.binds (ps := ["_law_box_here", "_law_number_here"]) fun _ _ _ _ _ _ us hl => match us, hl with | [_, _], _ => rfl
  have b9 := F9.binds (ps := ["_law_thing"]) fun _ _ _ _ _ _ us hl => match us, hl with | [_], _ => rfl
  have b10 := F10.binds (ps := ["_law_typed", "_law_low", "_law_high"]) fun _ _ _ _ _ _ us hl => match us, hl with | [_, _, _], _ => rfl
  have b11 := F11.binds (ps := ["_law_typed", "_law_low", "_law_high"]) fun _ _ _ _ _ _ us hl => match us, hl with | [_, _, _], _ => rfl
  have b12 := F12.binds (ps := ["_law_thing"]) fun _ _ _ _ _ _ us hl => match us, hl with | [_], _ => rfl
  have bd : ∃ ds, Vals [V.int 0, V.non] ds ∧ Binds K (PySem.W.fnOf "parse_count" "parse_count" (defArgs sparse_count) (defBody sparse_count) (defScope sparse_count) .none (.ref DK) dc1 pm1 an1 cd1 ct1) ["text", "minimum", "maximum"] ds :=
    ⟨[.int 0 tm, .none], .cons ⟨_, rfl⟩ (.cons rfl .nil), fun s us X hl => by
      obtain ⟨u, rfl⟩ : ∃ u, us = [u] := List.length_eq_one_iff.mp (by simpa using hl)
      exact BindsTo.of_looks fun M => KwChain.looks X (fun q hq => by
          simp only [List.mem_cons, List.not_mem_nil, or_false] at hq
          rcases hq with rfl | rfl
          · exact dm
          · exact dx) (pc_d u _ _)⟩
  have b1 : ∃ g, KBn K (PySem.W.fnOf "parse_count" "parse_count" (defArgs sparse_count) (defBody sparse_count) (defScope sparse_count) .none (.ref DK) dc1 pm1 an1 cd1 ct1) ["text", "minimum", "maximum"] 1 ["maximum", "minimum"] g (fun vs zs => vs ++ zs.reverse) :=
    ⟨fun us ws => us ++ ws.reverse, ⟨fun s us ws X l1 l2 => match us, ws, l1, l2 with | [u], [b, a], _, _ => BindsTo.of_eq (pc_1 u a b), fun r1 r2 => r1.append r2.reverse⟩⟩
  have bk : ∃ g, KBn K (PySem.W.fnOf "parse_count" "parse_count" (defArgs sparse_count) (defBody sparse_count) (defScope sparse_count) .none (.ref DK) dc1 pm1 an1 cd1 ct1) ["text", "minimum", "maximum"] 0 ["text", "minimum"] g (fun _ zs => zs ++ [.non]) :=
    ⟨fun _ ws => ws ++ [.none], ⟨fun s us ws X l1 l2 => match us, ws, l1, l2 with
      | [], [u, a], _, _ => BindsTo.of_looks fun M => KwChain.looks X (fun q hq => by
          simp only [List.mem_cons, List.not_mem_nil, or_false] at hq
          rw [hq]
          exact dx) (pc_0 u a .none), fun _ r2 => r2.append (.cons rfl .nil)⟩⟩
  refine ⟨PySem.W.fnOf "law" "law" (defArgs slaw) (defBody slaw) (defScope slaw) .none kV13 dc13 pm13 an13 cd13 ct13, fun s u => .of_eq rfl, fun base _ _ hs => ?_⟩
  have T : Txt K mg base CI gI := { sys := hs, e_InvalidInteger := lowI, g_MOST_DIGITS := ⟨_, PySem.W.mg_of X G gM, ⟨_, rfl⟩⟩, z_isinstance := PySem.W.mg_none_of X G z_isinstance, z_int := PySem.W.mg_none_of X G z_int, z_bool := PySem.W.mg_none_of X G z_bool, z_str := PySem.W.mg_none_of X G z_str, z_list := PySem.W.mg_none_of X G z_list, z_dict := PySem.W.mg_none_of X G z_dict, z_len := PySem.W.mg_none_of X G z_len, z_all := PySem.W.mg_none_of X G z_all, z_max := PySem.W.mg_none_of X G z_max, z_min := PySem.W.mg_none_of X G z_min, z_range := PySem.W.mg_none_of X G z_range, z_repr := PySem.W.mg_none_of X G z_repr }
  have D0 : Df P w K mg base CX0 1 "is_integer" _ _ ["value"] spIsInt := ⟨ok_isint F0 T, m0, k0, b0⟩
  have D2 : Df P w K mg base CX0 1 "is_number" _ _ ["text"] spIsNum := ⟨ok_isnum F2 T, m2, k2, b2⟩
  have G1 := ok_parse (P := P) (w := w) F1 T D0 D2
  have D3 : Df P w K mg base CX0 1 "_law_cell" _ _ ["_law_script", "_law_k"] (spScr K) := ⟨ok_cell F3 T, m3, k3, b3⟩
  have D4 : Df P w K mg base CX0 1 "_law_box" _ _ ["_law_cell_here"] spBox := ⟨ok_box F4 T, m4, k4, b4⟩
  have D5 : Df P w K mg base CX0 1 "_law_take" _ _ ["_law_box_here", "_law_size"] spTake := ⟨ok_take F5, m5, k5, b5⟩
  have D6 : Df P w K mg base CX0 2 "_law_text" _ _ ["_law_box_here"] spText := ⟨ok_text F6 T D5, m6, k6, b6⟩
  have D7 : Df P w K mg base CX0 1 "_law_number" _ _ ["_law_typed"] spNumber := ⟨ok_number F7 T, m7, k7, b7⟩
  have D8 : Df P w K mg base CX0 2 "_law_limit" _ _ ["_law_box_here", "_law_number_here"] spLimit := ⟨ok_limit F8 T D5, m8, k8, b8⟩
  have D9 : Df P w K mg base CX0 1 "_law_is_limit" _ _ ["_law_thing"] spIsLimit := ⟨ok_islimit F9 T, m9, k9, b9⟩
  have D10 : Df P w K mg base CX0 2 "_law_due" _ _ ["_law_typed", "_law_low", "_law_high"] spTold := ⟨ok_due F10 T D9 D7, m10, k10, b10⟩
  have D11 : Df P w K mg base CX0 5 "_law_called" _ _ ["_law_typed", "_law_low", "_law_high"] spTold := ⟨ok_called F11 T ⟨G1, m1, k1, b1⟩, m11, k11, b11⟩
  have D12 : Df P w K mg base CX0 1 "_law_grown" _ _ ["_law_thing"] spGrown := ⟨ok_grown F12 T, m12, k12, b12⟩
  exact ok_law F13 T D3 D4 D5 D6 D7 D8 D10 D11 D12 ⟨G1, m1, k1, bd⟩ ⟨G1, m1, k1, bk⟩
theorem walk {l : PySem.W.OpenLaw} {q : Program} {loose : List Str} {XP : (Str → Option Value) → Heap → Prop} {YP : World → Heap → Prop} {d : DefRec} {K : Params → PySem.W.Frag} (hn : l.most = some 63) (hdf : d.params.defaults = []) (himp : importsNone q = true)
    (hY : ∀ (w : World) (h : Heap), YP w h → (K w.params).In h)
    (F : ∀ (w : World) (mg : Str → Option Value) (fa : Addr) (h : Heap), (K w.params).In h → h.Ns mainGlobals mg → mg d.name = some (.ref fa) →
      ∃ fd : FuncData, (∀ (s : Shared) (u : Value), BindsTo s fd ⟨[u], []⟩ [("_law_script", u)]) ∧ ∀ base : Heap, (K w.params).In base → base.Ns mainGlobals mg → SysIn base → FnG l.prog w (K w.params) mg base CX0 6 fa fd ["_law_script"] (spLaw (K w.params))) :
    PySem.W.WalkO q loose XP YP l.row.toRowW d [] (fun f vs => PySem.call f vs) :=
  Gd.walkG (n := 63) (k := 6) (x := "_law_script") (CX := fun _ => CX0) (sp := fun w => spLaw (K w.params)) hn (by decide) hdf ⟨rfl, by decide, by decide⟩ himp hY F
    (fun _ _ a ns hl _ hS => ⟨a, ns, rfl, hS, hl, fun _ => rfl⟩) fun _ _ _ _ _ z => z
end K2
open PySem PySem.W PyProof.Rows
set_option maxRecDepth 100000 in
set_option maxHeartbeats 0 in
theorem PySem.Challenge.cw_formatrepair_k02_counts_in_strings_holds : PySem.Challenge.rw_formatrepair_k02_counts_in_strings.Holds := by
  w_on; o_law; k_head; (case hw => w_witness2)
  k_fill
  refine K2.walk (l := PySem.Challenge.rw_formatrepair_k02_counts_in_strings) rfl rfl rfl (fun w h Y => PySem.W.kIn_of Y) ?F
  case F =>
    intro w mg fa h KX G hmg
    refine' K2.all_mk KX G hmg ?a0 ?l0 ?c0 ?k0 ?a1 ?l1 ?c1 ?k1 ?a2 ?l2 ?c2 ?k2 ?a3 ?l3 ?c3 ?k3 ?a4 ?l4 ?c4 ?k4 ?a5 ?l5 ?c5 ?k5 ?a6 ?l6 ?c6 ?k6 ?a7 ?l7 ?c7 ?k7 ?a8 ?l8 ?c8 ?k8 ?a9 ?l9 ?c9 ?k9 ?a10 ?l10 ?c10 ?k10 ?a11 ?l11 ?c11 ?k11 ?a12 ?l12 ?c12 ?k12 ?a13 ?l13 ?c13 ?k13 ?gM ?dm ?dx ?aCI ?xLI ?vbI ?saI ?gaI ?ggI ?nbI ?iCI ?tfI ?lfI ?cfI ?kCI ?eCI ?tCI ?hCI ?jCI ?sCI ?z_isinstance ?z_int ?z_bool ?z_str ?z_list ?z_dict ?z_len ?z_all ?z_max ?z_min ?z_range ?z_repr
    (case a0 => k_is)
    (case l0 => k_is)
    (case c0 => k_is)
    (case k0 => k_is)
    (case a1 => k_is)
    (case l1 => k_is)
    (case c1 => k_is)
    (case k1 => k_is)
    (case a2 => k_is)
    (case l2 => k_is)
    (case c2 => k_is)
    (case k2 => k_is)
    (case a3 => k_is)
    (case l3 => k_is)
    (case c3 => k_is)
    (case k3 => k_is)
    (case a4 => k_is)
    (case l4 => k_is)
    (case c4 => k_is)
    (case k4 => k_is)
    (case a5 => k_is)
    (case l5 => k_is)
    (case c5 => k_is)
    (case k5 => k_is)
    (case a6 => k_is)
    (case l6 => k_is)
    (case c6 => k_is)
    (case k6 => k_is)
    (case a7 => k_is)
    (case l7 => k_is)
    (case c7 => k_is)
    (case k7 => k_is)
    (case a8 => k_is)
    (case l8 => k_is)
    (case c8 => k_is)
    (case k8 => k_is)
    (case a9 => k_is)
    (case l9 => k_is)
    (case c9 => k_is)
    (case k9 => k_is)
    (case a10 => k_is)
    (case l10 => k_is)
    (case c10 => k_is)
    (case k10 => k_is)
    (case a11 => k_is)
    (case l11 => k_is)
    (case c11 => k_is)
    (case k11 => k_is)
    (case a12 => k_is)
    (case l12 => k_is)
    (case c12 => k_is)
    (case k12 => k_is)
    (case a13 => k_is)
    (case l13 => k_is)
    (case c13 => k_is)
    (case k13 => k_is)
    (case gM => k_is)
    (case dm => k_is)
    (case dx => k_is)
    (case aCI => k_is)
    (case xLI => k_is)
    (case vbI => decide +kernel)
    (case saI => k_is)
    (case gaI => k_is)
    (case ggI => k_is)
    (case nbI => k_is)
    (case iCI => k_is)
    (case tfI => k_is)
    (case lfI => k_is)
    (case cfI => k_is)
    (case kCI => k_is)
    (case eCI => k_is)
    (case tCI => k_is)
    (case hCI => k_is)
    (case jCI => k_is)
    (case sCI => first | rfl | k_is)
    (case z_isinstance => k_is)
    (case z_int => k_is)
    (case z_bool => k_is)
    (case z_str => k_is)
    (case z_list => k_is)
    (case z_dict => k_is)
    (case z_len => k_is)
    (case z_all => k_is)
    (case z_max => k_is)
    (case z_min => k_is)
    (case z_range => k_is)
    (case z_repr => k_is)
