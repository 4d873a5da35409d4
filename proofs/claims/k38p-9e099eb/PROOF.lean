import PyProof.Rows.All
import Wide.All
import OpenK.AllK
import Wide.FinOn
import HandS.Zip0
import PyProof.ReprRoads
import HandS.Base
import HandS.Call
import HandS.List
import HandS.Dict
import HandS.Ends
import HandS.Words
import HandS.Zip
import HandS.Star
import HandS.SortKw
import HandS.Exc
import HandS.ExcOwn
import HandS.TryOnly
import HandS.TryMany
import HandS.Defaults
import PyProof.StrLawsRepr
import HandS.Wide
import HandS.Comp
import HandS.Iter
import HandS.Text
import HandS.More
import HandS.Style
import HandS.StrMore
import HandS.IsInst
import HandS.Replace
import HandS.RaiseMore
import HandS.WordsList
import HandS.WordsDict
import HandS.WordsExc
import HandS.Walk
import HandS.Codes
import PyProof.Rows.StrFin3
import HandS.ExcValue
import KE.KExcIs
import PySem.Challenge.RW_formatrepair_k38_texts_of_patterns
set_option Elab.async false
set_option linter.all false
set_option maxRecDepth 100000
set_option maxHeartbeats 4000000
/-! zip of any number of lists and tuples of one length -/
namespace Zn
open PySem
open PySem.Sem (wp)
/-- an iterator of a list (true) or of a tuple (false) -/
def ItK (b : Bool) (h : Heap) (i l : Addr) (k : Nat) : Prop := if b then h.IsListIter i l k else h.IsTupleIter i l k
/-- a list or a tuple -/
def SqK (b : Bool) (h : Heap) (l : Addr) (xs : Array Value) : Prop := if b then h.IsList l xs else h.IsTuple l xs
theorem ItK.at {b : Bool} {h h' : Heap} {i l : Addr} {k : Nat} (x : ItK b h i l k) (e : ∀ o, h.get? i = some o → h'.get? i = some o) : ItK b h' i l k := by
  cases b
  · exact Heap.IsTupleIter.at x e
  · exact Heap.IsListIter.at x e
theorem SqK.at {b : Bool} {h h' : Heap} {l : Addr} {xs : Array Value} (x : SqK b h l xs) (e : ∀ o, h.get? l = some o → h'.get? l = some o) : SqK b h' l xs := by
  cases b
  · obtain ⟨o, ho, r⟩ := (x : h.IsTuple l xs)
    exact (⟨o, e _ ho, r⟩ : h'.IsTuple l xs)
  · exact Heap.IsList.at x e
theorem ItK.obj {b : Bool} {h : Heap} {i l : Addr} {k : Nat} (x : ItK b h i l k) : ∃ o, h.get? i = some o ∧ (o.cls = .type "list_iterator" ∨ o.cls = .type "tuple_iterator") ∧ ∀ v, o.data ≠ .cell v := by
  cases b
  · obtain ⟨o, ho, hc, hd⟩ := (x : h.IsTupleIter i l k)
    exact ⟨o, ho, .inr hc, fun v q => by rw [hd] at q; cases q⟩
  · obtain ⟨o, ho, hc, hd⟩ := (x : h.IsListIter i l k)
    exact ⟨o, ho, .inl hc, fun v q => by rw [hd] at q; cases q⟩
theorem SqK.obj {b : Bool} {h : Heap} {l : Addr} {xs : Array Value} (x : SqK b h l xs) : ∃ o, h.get? l = some o ∧ (o.cls = .type "list" ∨ o.cls = .type "tuple") := by
  cases b
  · obtain ⟨o, ho, hc, _⟩ := (x : h.IsTuple l xs)
    exact ⟨o, ho, .inr hc⟩
  · obtain ⟨o, ho, hc, _⟩ := (x : h.IsList l xs)
    exact ⟨o, ho, .inl hc⟩
section
variable {prog : Program} {w : World} {A : Around} {E : Value → Shared → Prop} {s : Shared}
theorem next_item {b : Bool} {it l : Addr} {k : Nat} {xs : Array Value} {x : Value} {Q : Value → Shared → Prop} (hit : ItK b s.heap it l k) (hl : SqK b s.heap l xs) (hx : xs[k]? = some x)
    (hQ : ∀ h', ItK b h' it l (k + 1) → Heap.SameBut it s.heap h' → Q x { s with heap := h' }) : wpAny (model prog w) A (Builtin.SmallTypes.nextOf (.ref it)) Q E s := by
  cases b
  · exact RZ.nextOf_tuple_item hit hl hx hQ
  · exact wpAny_nextOf_list_item hit hl hx hQ
theorem next_end {b : Bool} {it l : Addr} {k : Nat} {xs : Array Value} {Q : Value → Shared → Prop} (hh : A.handled = none) (hit : ItK b s.heap it l k) (hl : SqK b s.heap l xs) (hx : xs[k]? = none)
    (hE : ∀ h' e, Heap.ExtBut it s.heap h' → (∃ o, h'.get? e = some o ∧ o.cls = .type "StopIteration") → E (.ref e) { s with heap := h' }) : wpAny (model prog w) A (Builtin.SmallTypes.nextOf (.ref it)) Q E s := by
  cases b
  · exact RZ.nextOf_tuple_end hh hit hl hx hE
  · exact wpAny_nextOf_list_end hh hit hl hx hE
theorem iter_seq {b : Bool} {l : Addr} {xs : Array Value} {Q : Value → Shared → Prop} (hl : SqK b s.heap l xs)
    (hQ : ∀ h', h'.objs.size = s.heap.objs.size + 1 → (∀ c o, s.heap.get? c = some o → h'.get? c = some o) → ItK b h' s.heap.objs.size l 0 → Q (.ref s.heap.objs.size) { s with heap := h' }) : wpAny (model prog w) A (pyIter (.ref l)) Q E s := by
  cases b
  · exact wpAny_pyIter_tuple hl (hQ _ (Heap.size_push ..) (fun c o e => Heap.get?_push_of_some _ e) (show Heap.IsTupleIter _ _ _ _ from ⟨_, Heap.get?_push_size _ rfl, rfl, rfl⟩))
  · exact wpAny_pyIter_list hl (hQ _ (Heap.size_push ..) (fun c o e => Heap.get?_push_of_some _ e) (show Heap.IsListIter _ _ _ _ from ⟨_, Heap.get?_push_size _ rfl, rfl, rfl⟩))
/-- a loop whose every turn goes on -/
theorem forIn_steps {M : Model} {α β : Type} {f : α → β → Sem (ForInStep β)} {Q : β → Shared → Prop} : ∀ (l : List α) (b : Nat → β) (J : Nat → Shared → Prop) (i : Nat) (s : Shared),
    (∀ j a s, l[j]? = some a → J (i + j) s → wpAny M A (f a (b (i + j))) (fun r s' => r = .yield (b (i + j + 1)) ∧ J (i + j + 1) s') E s) → J i s → (∀ s, J (i + l.length) s → Q (b (i + l.length)) s) → wpAny M A (forIn l (b i) f) Q E s
  | [], b, J, i, s, _, h0, hQ => by
    rw [List.forIn_nil]
    exact wpAny_pure (hQ s h0)
  | a :: l, b, J, i, s, hs, h0, hQ => by
    rw [List.forIn_cons]
    refine wpAny_bind (wpAny_mono (hs 0 a s rfl h0) (fun r s' hr => ?_) fun _ _ e => e)
    obtain ⟨rfl, hJ⟩ := hr
    refine forIn_steps l b J (i + 1) s' (fun j a' s2 hj hJ2 => ?_) hJ fun s2 hJ2 => ?_
    · have e : i + 1 + j = i + (j + 1) := by omega
      rw [e] at hJ2 ⊢
      exact hs (j + 1) a' s2 hj hJ2
    · have e : i + 1 + l.length = i + (a :: l).length := by simp only [List.length_cons]; omega
      rw [e] at hJ2 ⊢
      exact hQ s2 hJ2
end
abbrev IsZipN (h : Heap) (z TI TO : Addr) (f0 f1 : Value) : Prop :=
  h.get? z = some { cls := .type "zip", dict := none, data := .fields #[f0, f1, .bool false, .ref TI, .ref TO], slots := #[] }
abbrev IsTupN (h : Heap) (T : Addr) (vs : List Value) : Prop := h.get? T = some { cls := .type "tuple", data := .seq vs.toArray }
/-- the iterators: kind, place, what is walked -/
abbrev Src := Bool × Addr × Addr
structure Apart (z TI TO : Addr) (ss : List Src) : Prop where
  TIz : TI ≠ z
  TOz : TO ≠ z
  TITO : TI ≠ TO
  iz : ∀ q ∈ ss, q.2.1 ≠ z ∧ q.2.1 ≠ TI ∧ q.2.1 ≠ TO
  lz : ∀ q ∈ ss, q.2.2 ≠ z ∧ q.2.2 ≠ TI ∧ q.2.2 ≠ TO
  il : ∀ q ∈ ss, ∀ r ∈ ss, q.2.1 ≠ r.2.2
  nd : (ss.map (·.2.1)).Nodup
end Zn

namespace Zn
open PySem
open PySem.Sem (wp)
/-- all iterators stand at k over their items -/
def At (h : Heap) (k : Nat) (ss : List Src) (xss : List (Array Value)) : Prop := ∀ (j : Nat) (q : Src) (xs : Array Value), ss[j]? = some q → xss[j]? = some xs → ItK q.1 h q.2.1 q.2.2 k ∧ SqK q.1 h q.2.2 xs
/-- the first j of them stand one further -/
def Mid (h : Heap) (k j : Nat) (ss : List Src) (xss : List (Array Value)) : Prop := ∀ (i : Nat) (q : Src) (xs : Array Value), ss[i]? = some q → xss[i]? = some xs → ItK q.1 h q.2.1 q.2.2 (if i < j then k + 1 else k) ∧ SqK q.1 h q.2.2 xs
theorem At.mid {h : Heap} {k : Nat} {ss : List Src} {xss : List (Array Value)} (a : At h k ss xss) : Mid h k 0 ss xss := fun i q xs h1 h2 => a i q xs h1 h2
theorem Mid.done {h : Heap} {k n : Nat} {ss : List Src} {xss : List (Array Value)} (m : Mid h k n ss xss) (hn : n = ss.length) : At h (k + 1) ss xss := fun i q xs h1 h2 => by
  have := m i q xs h1 h2
  rw [if_pos (by rw [hn]; exact (List.getElem?_eq_some_iff.mp h1).1)] at this
  exact this
/-- all but z, TO and the iterators as they were -/
def Rest (z TO : Addr) (ss : List Src) (h h' : Heap) : Prop := ∀ c o, c ≠ z → c ≠ TO → (∀ q ∈ ss, c ≠ q.2.1) → h.get? c = some o → h'.get? c = some o
theorem Mid.ext {z TI TO : Addr} {h h' : Heap} {k j : Nat} {ss : List Src} {xss : List (Array Value)} (D : Apart z TI TO ss) (m : Mid h k j ss xss) (e : ∀ c o, c ≠ z → c ≠ TO → h.get? c = some o → h'.get? c = some o) : Mid h' k j ss xss := fun i q xs h1 h2 => by
  obtain ⟨a, b⟩ := m i q xs h1 h2
  have hq := List.mem_of_getElem? h1
  exact ⟨a.at fun o => e _ o (D.iz q hq).1 (D.iz q hq).2.2, b.at fun o => e _ o (D.lz q hq).1 (D.lz q hq).2.2⟩
theorem Mid.step {z TI TO : Addr} {h h' : Heap} {k j : Nat} {ss : List Src} {xss : List (Array Value)} {q : Src} (D : Apart z TI TO ss) (m : Mid h k j ss xss) (hq : ss[j]? = some q) (hi : ItK q.1 h' q.2.1 q.2.2 (k + 1)) (e : ∀ c o, c ≠ q.2.1 → h.get? c = some o → h'.get? c = some o) : Mid h' k (j + 1) ss xss := fun i r xs h1 h2 => by
  obtain ⟨a, b⟩ := m i r xs h1 h2
  have mr := List.mem_of_getElem? h1
  have mq := List.mem_of_getElem? hq
  refine ⟨?_, b.at fun o => e _ o (fun x => D.il q mq r mr x.symm)⟩
  by_cases ij : i = j
  · subst ij
    rw [hq] at h1
    cases h1
    rw [if_pos (Nat.lt_succ_self _)]
    exact hi
  · have ne : r.2.1 ≠ q.2.1 := fun x => ij (by
      obtain ⟨l1, e1⟩ := List.getElem?_eq_some_iff.mp h1
      obtain ⟨l2, e2⟩ := List.getElem?_eq_some_iff.mp hq
      have nd := List.pairwise_iff_getElem.mp D.nd
      rcases Nat.lt_trichotomy i j with lt | rfl | gt
      · exact absurd (by rw [List.getElem_map, List.getElem_map, e1, e2]; exact x) (nd i j (by rw [List.length_map]; exact l1) (by rw [List.length_map]; exact l2) lt)
      · rfl
      · exact absurd (by rw [List.getElem_map, List.getElem_map, e1, e2]; exact x.symm) (nd j i (by rw [List.length_map]; exact l2) (by rw [List.length_map]; exact l1) gt))
    have : (if i < j + 1 then k + 1 else k) = (if i < j then k + 1 else k) := by
      by_cases c : i < j
      · rw [if_pos c, if_pos (by omega)]
      · rw [if_neg c, if_neg (by omega)]
    rw [this]
    exact a.at fun o => e _ o ne
/-- what has been given out ahead -/
def Own (f0 : Value) : Prop := f0 = .none ∨ ∃ a, f0 = rawInt a
section
variable {prog : Program} {w : World} {A : Around} {E : Value → Shared → Prop} {s : Shared}
theorem alive {M : Model} {a : Addr} {Q : Option Obj → Shared → Prop} (h : Q (s.heap.get? a) s) : wpAny M A (loadIfAlive a) Q E s := fun _ _ _ => h
theorem set_mix {vs os : List Value} {j : Nat} {x : Value} (hl : os.length = vs.length) (hj : vs[j]? = some x) : (vs.take j ++ os.drop j).toArray.setIfInBounds j x = (vs.take (j + 1) ++ os.drop (j + 1)).toArray := by
  have hjl : j < vs.length := (List.getElem?_eq_some_iff.mp hj).1
  rw [List.setIfInBounds_toArray]
  congr 1
  have ho : os.drop j = os[j] :: os.drop (j + 1) := List.drop_eq_getElem_cons (by omega)
  have hlen : (vs.take j).length = j := by rw [List.length_take]; omega
  rw [ho, List.set_append_right _ _ (by omega), hlen, Nat.sub_self, List.set_cons_zero, List.take_add_one, hj]
  simp
theorem owned_free {z TI TO : Addr} {f0 f1 : Value} {Q : Bool → Shared → Prop} (hf : Own f0) (hz : IsZipN s.heap z TI TO f0 f1)
    (hQ : ∀ b h' f1', IsZipN h' z TI TO f0 f1' → Heap.SameBut z s.heap h' → Q b { s with heap := h' }) : wpAny (model prog w) A (Builtin.SmallTypes.ownedTupleIsFree (.ref z)) Q E s := by
  unfold Builtin.SmallTypes.ownedTupleIsFree
  refine wpAny_bind (wpAny_field hz rfl (x := f0) rfl ?_)
  rcases hf with rfl | ⟨a, rfl⟩
  · exact wpAny_pure (hQ true s.heap f1 hz (Heap.SameBut.refl ..))
  · show wpAny _ _ (loadIfAlive a.toNat >>= _) _ _ _
    refine wpAny_bind (alive ?_)
    cases s.heap.get? a.toNat with
    | none => exact wpAny_pure (hQ true s.heap f1 hz (Heap.SameBut.refl ..))
    | some o =>
      show wpAny _ _ (field (Value.ref z) 1 >>= _) _ _ _
      refine wpAny_bind (wpAny_field hz rfl (x := f1) rfl ?_)
      by_cases c : (f1 != Value.bool true) = true
      · rw [if_pos c]
        refine wpAny_bind (wpAny_setField_rec hz (by simp) fun h₁ hz₁ hs₁ => ?_)
        exact wpAny_pure (hQ false h₁ (.bool true) hz₁ hs₁)
      · rw [if_neg c]
        exact wpAny_pure (hQ false s.heap f1 hz (Heap.SameBut.refl ..))
end
end Zn

namespace Zn
open PySem
open PySem.Sem (wp)
section
variable {prog : Program} {w : World} {A : Around} {E : Value → Shared → Prop} {s : Shared}
/-- what stands after a turn -/
def After (z TI TO : Addr) (k : Nat) (ss : List Src) (xss : List (Array Value)) (vs : List Value) (h h' : Heap) : Prop :=
  (∃ f0 f1, Own f0 ∧ IsZipN h' z TI TO f0 f1) ∧ (∃ os, os.length = ss.length ∧ IsTupN h' TO os) ∧ At h' (k + 1) ss xss ∧ IsTupN h' h.objs.size vs ∧ h'.objs.size = h.objs.size + 1 ∧ Rest z TO ss h h'
theorem zip_item {z TI TO : Addr} {f0 f1 : Value} {ss : List Src} {xss : List (Array Value)} {k : Nat} {vs os : List Value} {Q : Value → Shared → Prop} (D : Apart z TI TO ss) (hne : ss ≠ []) (hl : xss.length = ss.length) (hv : vs.length = ss.length) (hsz : ss.length ≤ sizeLine)
    (hf : Own f0) (hz : IsZipN s.heap z TI TO f0 f1) (hTI : IsTupN s.heap TI (ss.map fun q => .ref q.2.1)) (hTO : IsTupN s.heap TO os) (ho : os.length = ss.length)
    (ha : At s.heap k ss xss) (hx : ∀ (j : Nat) (xs : Array Value), xss[j]? = some xs → xs[k]? = vs[j]?)
    (hQ : ∀ h', After z TI TO k ss xss vs s.heap h' → Q (.ref s.heap.objs.size) { s with heap := h' }) :
    wpAny (model prog w) A (Builtin.«zip.__next__» ⟨[.ref z], []⟩) (fun fin s' => ∃ v, fin = .done (.ret v) ∧ Q v s') E s := by
  show wpAny _ _ (field (.ref z) 2 >>= _) _ _ _
  refine wpAny_bind (wpAny_field hz rfl (x := .bool false) rfl ?_)
  show wpAny _ _ (field (.ref z) 3 >>= _) _ _ _
  refine wpAny_bind (wpAny_field hz rfl (x := .ref TI) rfl ?_)
  refine wpAny_bind (wpAny_seqItems hTI rfl ?_)
  have he : (ss.map fun q => Value.ref q.2.1).toArray.isEmpty = false := by
    cases ss with
    | nil => exact absurd rfl hne
    | cons a l => rfl
  simp only [he, Bool.false_eq_true, if_false]
  show wpAny _ _ (Builtin.SmallTypes.ownedTupleIsFree (.ref z) >>= _) _ _ _
  refine wpAny_bind (owned_free hf hz fun b h₀ f1' hz₀ hs₀ => ?_)
  have ha₀ : Mid h₀ k 0 ss xss := ha.mid.ext D fun c o c1 _ e => (hs₀.2 c c1).trans e
  have hTO₀ : IsTupN h₀ TO os := (hs₀.2 _ D.TOz).trans hTO
  have hTI₀ : IsTupN h₀ TI _ := (hs₀.2 _ D.TIz).trans hTI
  have at_ : ∀ {j q}, ss[j]? = some q → ∃ xs, xss[j]? = some xs ∧ ∃ x, vs[j]? = some x ∧ xs[k]? = some x := fun {j q} e => by
    have lj := (List.getElem?_eq_some_iff.mp e).1
    have e1 : xss[j]? = some xss[j] := List.getElem?_eq_getElem (by omega)
    have e2 : vs[j]? = some vs[j] := List.getElem?_eq_getElem (by omega)
    exact ⟨_, e1, _, e2, (hx j _ e1).trans e2⟩
  cases b with
  | true =>
    simp only [if_true]
    refine wpAny_bind (wpAny_rule ?_)
    refine wpAny_bind (wpAny_field hz₀ rfl (x := .ref TO) rfl ?_)
    refine wpAny_bind (wpAny_setField_rec hz₀ (by simp) fun h₁ hz₁ hs₁ => ?_)
    replace hz₁ : IsZipN h₁ z TI TO .ellipsis f1' := hz₁
    refine wpAny_bind ?_
    refine forIn_steps (List.map (fun q => Value.ref q.snd.fst) ss).zipIdx (fun _ => ((none : Option Fin), ())) (fun j s' => ∃ h, s' = { s with heap := h } ∧ h.objs.size = s.heap.objs.size ∧ Mid h k j ss xss ∧ IsZipN h z TI TO .ellipsis f1' ∧ IsTupN h TO (vs.take j ++ os.drop j) ∧ Rest z TO ss s.heap h) 0 _ ?_ ?_ ?_
    · rintro j ⟨a, ja⟩ s2 haj ⟨h, rfl, hsz2, hm, hzz, hto, hr⟩
      rw [Nat.zero_add] at hm hto ⊢
      obtain ⟨q, hq, ea, eja⟩ : ∃ q, ss[j]? = some q ∧ a = .ref q.2.1 ∧ ja = j := by
        rw [List.getElem?_zipIdx] at haj
        simp only [List.getElem?_map, Option.map_map, Option.map_eq_some_iff] at haj
        obtain ⟨q, hq, e⟩ := haj
        have e' := Prod.mk.inj e
        exact ⟨q, hq, e'.1.symm, by have := e'.2; omega⟩
      subst ea eja
      obtain ⟨xs, hxs, x, hvx, hxk⟩ := at_ hq
      have mq := List.mem_of_getElem? hq
      obtain ⟨i1, i2⟩ := hm ja q xs hq hxs
      rw [if_neg (Nat.lt_irrefl _)] at i1
      refine wpAny_bind (wpAny_onRaise ?_)
      show wpAny _ _ (Builtin.SmallTypes.nextOf (.ref q.2.1) >>= _) _ _ _
      refine wpAny_bind (next_item i1 i2 hxk fun h₂ i3 hs₂ => wpAny_pure ?_)
      have hto₂ : IsTupN h₂ TO _ := (hs₂.2 _ (D.iz q mq).2.2.symm).trans hto
      refine wpAny_bind (wpAny_seqItems hto₂ rfl ?_)
      have sz : (vs.take ja ++ os.drop ja).toArray.size ≤ sizeLine := by
        simp only [List.size_toArray, List.length_append, List.length_take, List.length_drop]
        omega
      refine wpAny_bind (wpAny_updateSeq hto₂ rfl ?_ sz (by rw [Array.size_setIfInBounds]; omega))
      have hs₃ := Heap.SameBut.update h₂ TO (Obj.mapSeq (·.setIfInBounds ja x))
      have hto₃ : IsTupN (h₂.update TO (Obj.mapSeq (·.setIfInBounds ja x))) TO (vs.take (ja + 1) ++ os.drop (ja + 1)) := by
        have := Heap.get?_update_self (Obj.mapSeq (·.setIfInBounds ja x)) hto₂ rfl
        refine this.trans ?_
        rw [← set_mix (by omega) hvx]
        simp [Obj.mapSeq]
      refine wpAny_bind (wpAny_letGo (wpAny_pure ⟨rfl, _, rfl, hs₃.1.trans (hs₂.1.trans hsz2), ?_, ?_, hto₃, ?_⟩))
      · exact (hm.step D hq i3 fun c o cn e => (hs₂.2 c cn).trans e).ext D fun c o _ c2 e => (hs₃.2 c c2).trans e
      · exact (hs₃.2 _ D.TOz.symm).trans ((hs₂.2 _ (D.iz q mq).1.symm).trans hzz)
      · exact fun c o c1 c2 c3 e => (hs₃.2 c c2).trans ((hs₂.2 c (c3 q mq)).trans (hr c o c1 c2 c3 e))
    · exact ⟨h₁, rfl, hs₁.1.trans hs₀.1, ha₀.ext D fun c o c1 _ e => (hs₁.2 c c1).trans e, hz₁, by rw [List.take_zero, List.nil_append, List.drop_zero]; exact (hs₁.2 _ D.TOz).trans hTO₀,
        fun c o c1 _ _ e => (hs₁.2 c c1).trans ((hs₀.2 c c1).trans e)⟩
    · rintro s2 ⟨h, rfl, hsz2, hm, hzz, hto, hr⟩
      have hlen : (List.map (fun q => Value.ref q.snd.fst) ss).zipIdx.length = ss.length := by rw [List.length_zipIdx, List.length_map]
      rw [Nat.zero_add, hlen] at hm hto
      have hto : IsTupN h TO vs := by
        have e : vs.take ss.length ++ os.drop ss.length = vs := by rw [List.take_of_length_le (by omega), List.drop_of_length_le (by omega), List.append_nil]
        rw [e] at hto
        exact hto
      show wpAny _ _ (seqItems? (.ref TO) >>= _) _ _ _
      refine wpAny_bind (wpAny_seqItems hto rfl ?_)
      refine wpAny_bind (wpAny_newTuple ?_ (by simp only [List.toList_toArray]; omega))
      have hzlt : z < h.objs.size := Heap.lt_size hzz
      have hz₆ : IsZipN (h.push { cls := .type "tuple", data := .seq vs.toArray }) z TI TO .ellipsis f1' := Heap.get?_push_of_some _ hzz
      show wpAny _ _ (Builtin.SmallTypes.ownedTupleHandOut (.ref z) (.ref h.objs.size) >>= _) _ _ _
      refine wpAny_bind ?_
      unfold Builtin.SmallTypes.ownedTupleHandOut
      refine wpAny_bind (wpAny_setField_rec hz₆ (by simp) fun h₇ hz₇ hs₇ => ?_)
      replace hz₇ : IsZipN h₇ z TI TO (rawInt h.objs.size) f1' := hz₇
      refine wpAny_setField_rec hz₇ (by simp) fun h₈ hz₈ hs₈ => ?_
      replace hz₈ : IsZipN h₈ z TI TO (rawInt h.objs.size) (.bool false) := hz₈
      have up : ∀ c o, c ≠ z → h.get? c = some o → h₈.get? c = some o := fun c o c1 e => (hs₈.2 c c1).trans ((hs₇.2 c c1).trans (Heap.get?_push_of_some _ e))
      have hT₈ : IsTupN h₈ h.objs.size vs := (hs₈.2 _ (Nat.ne_of_gt hzlt)).trans ((hs₇.2 _ (Nat.ne_of_gt hzlt)).trans (Heap.get?_push_size _ rfl))
      refine wpAny_pure ⟨_, rfl, ?_⟩
      show Q (.ref h.objs.size) _
      rw [hsz2] at hT₈ ⊢
      refine hQ h₈ ⟨⟨_, _, .inr ⟨_, rfl⟩, hz₈⟩, ⟨vs, hv, up _ _ D.TOz hto⟩, (hm.ext D fun c o c1 _ e => up c o c1 e).done rfl, hT₈, ?_, fun c o c1 c2 c3 e => up c o c1 (hr c o c1 c2 c3 e)⟩
      rw [hs₈.1, hs₇.1, Heap.size_push, hsz2]
  | false =>
    simp only [Bool.false_eq_true, if_false]
    refine wpAny_bind ?_
    rw [← Array.forIn_toList]
    refine forIn_steps (List.map (fun q => Value.ref q.snd.fst) ss) (fun j => ((none : Option Fin), (vs.take j).toArray)) (fun j s' => ∃ h, s' = { s with heap := h } ∧ h.objs.size = s.heap.objs.size ∧ Mid h k j ss xss ∧ IsZipN h z TI TO f0 f1' ∧ IsTupN h TO os ∧ Rest z TO ss s.heap h) 0 _ ?_ ?_ ?_
    · rintro j a s2 haj ⟨h, rfl, hsz2, hm, hzz, hto, hr⟩
      rw [Nat.zero_add] at hm ⊢
      obtain ⟨q, hq, ea⟩ : ∃ q, ss[j]? = some q ∧ a = .ref q.2.1 := by
        simp only [List.getElem?_map, Option.map_eq_some_iff] at haj
        obtain ⟨q, hq, e⟩ := haj
        exact ⟨q, hq, e.symm⟩
      subst ea
      obtain ⟨xs, hxs, x, hvx, hxk⟩ := at_ hq
      have mq := List.mem_of_getElem? hq
      obtain ⟨i1, i2⟩ := hm j q xs hq hxs
      rw [if_neg (Nat.lt_irrefl _)] at i1
      refine wpAny_bind (wpAny_holding ?_)
      show wpAny _ _ (Builtin.SmallTypes.nextOf (.ref q.2.1) >>= _) _ _ _
      refine wpAny_bind (next_item i1 i2 hxk fun h₂ i3 hs₂ => wpAny_pure ?_)
      refine wpAny_pure ⟨?_, h₂, rfl, hs₂.1.trans hsz2, hm.step D hq i3 fun c o cn e => (hs₂.2 c cn).trans e, (hs₂.2 _ (D.iz q mq).1.symm).trans hzz, (hs₂.2 _ (D.iz q mq).2.2.symm).trans hto, fun c o c1 c2 c3 e => (hs₂.2 c (c3 q mq)).trans (hr c o c1 c2 c3 e)⟩
      rw [List.take_add_one, hvx]
      simp
    · exact ⟨h₀, rfl, hs₀.1, ha₀, hz₀, hTO₀, fun c o c1 _ _ e => (hs₀.2 c c1).trans e⟩
    · rintro s2 ⟨h, rfl, hsz2, hm, hzz, hto, hr⟩
      rw [Nat.zero_add, List.length_map] at hm
      have e : (vs.take (0 + (List.map (fun q => Value.ref q.snd.fst) ss).length)) = vs := by rw [Nat.zero_add, List.length_map, List.take_of_length_le (by omega)]
      rw [e]
      refine wpAny_bind (wpAny_newTuple ?_ (by simp only [List.toList_toArray]; omega))
      have up : ∀ c o, h.get? c = some o → (h.push { cls := .type "tuple", data := .seq vs.toArray.toList.toArray }).get? c = some o := fun c o e => Heap.get?_push_of_some _ e
      refine wpAny_pure ⟨_, rfl, ?_⟩
      show Q (.ref h.objs.size) _
      rw [hsz2]
      refine hQ _ ⟨⟨_, _, hf, up _ _ hzz⟩, ⟨os, ho, up _ _ hto⟩, (hm.ext D fun c o _ _ e => up c o e).done rfl, ?_, ?_, fun c o c1 c2 c3 e => up c o (hr c o c1 c2 c3 e)⟩
      · rw [← hsz2]
        exact Heap.get?_push_size _ rfl
      · rw [Heap.size_push, hsz2]
end
end Zn

namespace Zn
open PySem
open PySem.Sem (wp)
section
variable {prog : Program} {w : World} {A : Around} {E : Value → Shared → Prop} {s : Shared}
/-- where the first source has come to its end, or there is none -/
def Out (h : Heap) (k : Nat) (ss : List Src) : Prop := ss = [] ∨ ∃ (q : Src) (xs : Array Value), ss[0]? = some q ∧ ItK q.1 h q.2.1 q.2.2 k ∧ SqK q.1 h q.2.2 xs ∧ xs[k]? = none
theorem stop_out {α : Type} {Q : α → Shared → Prop} (hh : A.handled = none) (hE : ∀ h' e, (∀ c o, s.heap.get? c = some o → h'.get? c = some o) → (∃ o, h'.get? e = some o ∧ o.cls = .type "StopIteration") → E (.ref e) { s with heap := h' }) :
    wpAny (model prog w) A (Builtin.SmallTypes.stopIteration : Sem α) Q E s := by
  show wpAny _ _ (newExc (.type "StopIteration") [] >>= _) _ _ _
  refine wpAny_bind ?_
  simp only [newExc, newTuple]
  refine wpAny_bind (wpAny_newObj_type ?_ (by size_fits))
  refine wpAny_bind (m := firstArgMember _ _) (wpAny_of_eq (a := Value.none) (by first | rfl | (simp only [firstArgMember]; rfl)) (wpAny_newObj_type ?_ (by size_fits)))
  simp only [raiseNew]
  refine wpAny_bind (wpAny_handled ?_)
  first | rw [show A.in1.handled = none from hh] | rw [hh]
  refine wpAny_bind (wpAny_pure (wpAny_throw ?_))
  exact hE _ _ (fun c o e => Heap.get?_push_of_some _ (Heap.get?_push_of_some _ e)) ⟨_, Heap.get?_push_size _ rfl, rfl⟩
theorem zip_end {z TI TO : Addr} {f0 f1 : Value} {ss : List Src} {k : Nat} {os : List Value} {Q : Fin → Shared → Prop} (hh : A.handled = none) (D : Apart z TI TO ss)
    (hf : Own f0) (hz : IsZipN s.heap z TI TO f0 f1) (hTI : IsTupN s.heap TI (ss.map fun q => .ref q.2.1)) (hTO : IsTupN s.heap TO os) (ho : os.length = ss.length)
    (hx : Out s.heap k ss)
    (hE : ∀ h' e, Rest z TO ss s.heap h' → (∃ o, h'.get? e = some o ∧ o.cls = .type "StopIteration") → E (.ref e) { s with heap := h' }) :
    wpAny (model prog w) A (Builtin.«zip.__next__» ⟨[.ref z], []⟩) Q E s := by
  show wpAny _ _ (field (.ref z) 2 >>= _) _ _ _
  refine wpAny_bind (wpAny_field hz rfl (x := .bool false) rfl ?_)
  show wpAny _ _ (field (.ref z) 3 >>= _) _ _ _
  refine wpAny_bind (wpAny_field hz rfl (x := .ref TI) rfl ?_)
  refine wpAny_bind (wpAny_seqItems hTI rfl ?_)
  match ss, D, hTI, ho, hx, hE with
  | [], D, hTI, ho, hx, hE =>
    show wpAny _ _ (rule _ >>= _) _ _ _
    refine wpAny_bind (wpAny_rule ?_)
    exact wpAny_bind (stop_out hh fun h' e k1 k2 => hE h' e (fun c o _ _ _ e => k1 c o e) k2)
  | q :: ss, D, hTI, ho, hx, hE =>
    obtain ⟨i0, s0⟩ : ∃ xs, ItK q.1 s.heap q.2.1 q.2.2 k ∧ SqK q.1 s.heap q.2.2 xs ∧ xs[k]? = none := by
      obtain ⟨q', xs, e, r⟩ := hx.resolve_left (fun e => nomatch e)
      cases e
      exact ⟨xs, r⟩
    obtain ⟨i0, s0, hxk⟩ := s0
    have he : (List.map (fun q => Value.ref q.2.1) (q :: ss)).toArray.isEmpty = false := rfl
    simp only [he, Bool.false_eq_true, if_false]
    show wpAny _ _ (Builtin.SmallTypes.ownedTupleIsFree (.ref z) >>= _) _ _ _
    refine wpAny_bind (owned_free hf hz fun b h₀ f1' hz₀ hs₀ => ?_)
    have mq : q ∈ q :: ss := List.mem_cons_self
    have i0 := i0.at fun o e => (hs₀.2 _ (D.iz q mq).1).trans e
    have s0 := s0.at fun o e => (hs₀.2 _ (D.lz q mq).1).trans e
    have e0 : (List.map (fun q => Value.ref q.2.1) (q :: ss)) = .ref q.2.1 :: List.map (fun q => Value.ref q.2.1) ss := rfl
    cases b with
    | true =>
      simp only [if_true]
      refine wpAny_bind (wpAny_rule ?_)
      refine wpAny_bind (wpAny_field hz₀ rfl (x := .ref TO) rfl ?_)
      refine wpAny_bind (wpAny_setField_rec hz₀ (by simp) fun h₁ hz₁ hs₁ => ?_)
      replace hz₁ : IsZipN h₁ z TI TO .ellipsis f1' := hz₁
      refine wpAny_bind ?_
      have i1 := i0.at fun o e => (hs₁.2 _ (D.iz q mq).1).trans e
      have i2 := s0.at fun o e => (hs₁.2 _ (D.lz q mq).1).trans e
      simp only [e0, List.zipIdx_cons, List.forIn_cons]
      refine wpAny_bind (wpAny_bind (wpAny_onRaise ?_))
      show wpAny _ _ (Builtin.SmallTypes.nextOf (.ref q.2.1) >>= _) _ _ _
      refine wpAny_bind (next_end hh i1 i2 hxk fun h₂ e hs₂ ⟨oe, hoe, hce⟩ => ?_)
      have hz₂ : IsZipN h₂ z TI TO .ellipsis f1' := hs₂ _ _ (D.iz q mq).1.symm hz₁
      have hez : e ≠ z := fun x => by
        rw [x, hz₂] at hoe
        cases hoe
        simp at hce
      refine wpAny_setField_rec hz₂ (by simp) fun h₃ _ hs₃ => hE h₃ e (fun c o c1 _ c3 x => (hs₃.2 c c1).trans (hs₂ _ _ (c3 q mq) ((hs₁.2 c c1).trans ((hs₀.2 c c1).trans x)))) ⟨oe, (hs₃.2 _ hez).trans hoe, hce⟩
    | false =>
      simp only [Bool.false_eq_true, if_false]
      refine wpAny_bind ?_
      rw [← Array.forIn_toList]
      simp only [e0, List.forIn_cons]
      refine wpAny_bind (wpAny_bind (wpAny_holding ?_))
      show wpAny _ _ (Builtin.SmallTypes.nextOf (.ref q.2.1) >>= _) _ _ _
      refine wpAny_bind (next_end hh i0 s0 hxk fun h₂ e hs₂ he => hE h₂ e (fun c o c1 _ c3 x => hs₂ _ _ (c3 q mq) ((hs₀.2 c c1).trans x)) he)
theorem next_zip {z TI TO : Addr} {f0 f1 : Value} {ss : List Src} {xss : List (Array Value)} {k : Nat} {vs os : List Value} {Q : Option Value → Shared → Prop} (D : Apart z TI TO ss) (hne : ss ≠ []) (hl : xss.length = ss.length) (hv : vs.length = ss.length) (hsz : ss.length ≤ sizeLine)
    (hf : Own f0) (hz : IsZipN s.heap z TI TO f0 f1) (hTI : IsTupN s.heap TI (ss.map fun q => .ref q.2.1)) (hTO : IsTupN s.heap TO os) (ho : os.length = ss.length)
    (ha : At s.heap k ss xss) (hx : ∀ (j : Nat) (xs : Array Value), xss[j]? = some xs → xs[k]? = vs[j]?)
    (hQ : ∀ h', After z TI TO k ss xss vs s.heap h' → Q (some (.ref s.heap.objs.size)) { s with heap := h' }) : wpAny (model prog w) A (pyNext (.ref z)) Q E s := by
  have hT : s.TypeIs (.ref z) "zip" := ⟨_, hz, rfl⟩
  unfold pyNext
  exact wpAny_bind (wpAny_attempt (wpAny_callSpecial?_slot (name := Str.ofString "__next__") hT F.slot_zip_next (wpAny_call_entry F.slot_zip_next hT F.entry_zip_next
    (zip_item D hne hl hv hsz hf hz hTI hTO ho ha hx fun h' a => wpAny_pure (hQ h' a)) (F.args_zip_next_1 _))))
theorem next_zip_end {z TI TO : Addr} {f0 f1 : Value} {ss : List Src} {k : Nat} {os : List Value} {Q : Option Value → Shared → Prop} (hh : A.handled = none) (D : Apart z TI TO ss)
    (hf : Own f0) (hz : IsZipN s.heap z TI TO f0 f1) (hTI : IsTupN s.heap TI (ss.map fun q => .ref q.2.1)) (hTO : IsTupN s.heap TO os) (ho : os.length = ss.length)
    (hx : Out s.heap k ss)
    (hQ : ∀ h', Rest z TO ss s.heap h' → Q none { s with heap := h' }) : wpAny (model prog w) A (pyNext (.ref z)) Q E s := by
  have hT : s.TypeIs (.ref z) "zip" := ⟨_, hz, rfl⟩
  unfold pyNext
  refine wpAny_bind (wpAny_attempt (wpAny_callSpecial?_slot (name := Str.ofString "__next__") hT F.slot_zip_next (wpAny_call_entry F.slot_zip_next hT F.entry_zip_next
    (zip_end hh D hf hz hTI hTO ho hx fun h' e hk he => ?_) (F.args_zip_next_1 _))))
  obtain ⟨o, ho, hc⟩ := he
  exact wpAny_bind (wpAny_isInstance (T := "StopIteration") (b := true) ⟨o, ho, hc⟩ isSubtype_stop (wpAny_pure (hQ _ hk)))
/-- the step ahead of the store, for any target -/
theorem go_zip {tg : Expr} {z TI TO T : Addr} {f0 f1 : Value} {Q : Unit → Shared → Prop} (hf : Own f0) (hz : IsZipN s.heap z TI TO f0 f1)
    (hQ : ∀ h' f0', Own f0' → IsZipN h' z TI TO f0' f1 → Heap.SameBut z s.heap h' → Q () { s with heap := h' }) : wpAny (model prog w) A (letOwnedTupleGo tg (.ref z) (.ref T)) Q E s := by
  have same := hQ s.heap f0 hf hz (Heap.SameBut.refl ..)
  have main : wpAny (model prog w) A (do
      let o ← load z
      match o.cls, o.data with
      | .type n, .fields vs =>
        if ["enumerate", "zip", "dict_itemiterator", "dict_reverseitemiterator", "odict_iterator", "itertools.zip_longest", "itertools.pairwise"].contains n && vs[0]? == some (rawInt T) then
          rule "for.unpacks-the-owned-tuple"
          updateField z 0 .none
      | _, _ => pure ()) Q E s := by
    refine wpAny_bind (wpAny_load hz ?_)
    by_cases c : (["enumerate", "zip", "dict_itemiterator", "dict_reverseitemiterator", "odict_iterator", "itertools.zip_longest", "itertools.pairwise"].contains "zip" && (#[f0, f1, .bool false, .ref TI, .ref TO] : Array Value)[0]? == some (rawInt T)) = true
    · show wpAny _ _ (if _ then _ else _) _ _ _
      rw [if_pos c]
      refine wpAny_bind (wpAny_rule ?_)
      show wpAny _ _ (setField (.ref z) 0 .none) Q E s
      exact wpAny_setField_rec hz (by simp) fun h' hz' hs' => hQ h' .none (.inl rfl) hz' hs'
    · show wpAny _ _ (if _ then _ else _) _ _ _
      rw [if_neg c]
      exact wpAny_pure same
  unfold letOwnedTupleGo
  cases tg <;> first
    | exact wpAny_pure same
    | exact main
end
end Zn

namespace Zn
open PySem PySem.F
theorem tc : ∀ us : List Value, us.length ≤ 12 → checkTypeCall "zip" ⟨us, []⟩ = pure ()
  | [], _ => by kernel_rfl
  | [a0], _ => by kernel_rfl
  | [a0, a1], _ => by kernel_rfl
  | [a0, a1, a2], _ => by kernel_rfl
  | [a0, a1, a2, a3], _ => by kernel_rfl
  | [a0, a1, a2, a3, a4], _ => by kernel_rfl
  | [a0, a1, a2, a3, a4, a5], _ => by kernel_rfl
  | [a0, a1, a2, a3, a4, a5, a6], _ => by kernel_rfl
  | [a0, a1, a2, a3, a4, a5, a6, a7], _ => by kernel_rfl
  | [a0, a1, a2, a3, a4, a5, a6, a7, a8], _ => by kernel_rfl
  | [a0, a1, a2, a3, a4, a5, a6, a7, a8, a9], _ => by kernel_rfl
  | [a0, a1, a2, a3, a4, a5, a6, a7, a8, a9, a10], _ => by kernel_rfl
  | [a0, a1, a2, a3, a4, a5, a6, a7, a8, a9, a10, a11], _ => by kernel_rfl
  | _ :: _ :: _ :: _ :: _ :: _ :: _ :: _ :: _ :: _ :: _ :: _ :: _ :: _, h => by simp only [List.length_cons] at h; omega
theorem nc : ∀ us : List Value, us.length ≤ 12 → checkBuiltinCall "zip.__new__" ⟨.type "zip" :: us, []⟩ = pure ()
  | [], _ => by kernel_rfl
  | [a0], _ => by kernel_rfl
  | [a0, a1], _ => by kernel_rfl
  | [a0, a1, a2], _ => by kernel_rfl
  | [a0, a1, a2, a3], _ => by kernel_rfl
  | [a0, a1, a2, a3, a4], _ => by kernel_rfl
  | [a0, a1, a2, a3, a4, a5], _ => by kernel_rfl
  | [a0, a1, a2, a3, a4, a5, a6], _ => by kernel_rfl
  | [a0, a1, a2, a3, a4, a5, a6, a7], _ => by kernel_rfl
  | [a0, a1, a2, a3, a4, a5, a6, a7, a8], _ => by kernel_rfl
  | [a0, a1, a2, a3, a4, a5, a6, a7, a8, a9], _ => by kernel_rfl
  | [a0, a1, a2, a3, a4, a5, a6, a7, a8, a9, a10], _ => by kernel_rfl
  | [a0, a1, a2, a3, a4, a5, a6, a7, a8, a9, a10, a11], _ => by kernel_rfl
  | _ :: _ :: _ :: _ :: _ :: _ :: _ :: _ :: _ :: _ :: _ :: _ :: _ :: _, h => by simp only [List.length_cons] at h; omega
theorem oi (o : Value) : ∀ us : List Value, us.length ≤ 12 → argsOk "object.__init__" ⟨o :: us, []⟩ := by
  unfold argsOk
  rw [signature?_of (id := "object.__init__") (n := ['_', '_', 't', 'i', 'n', 'i', '_', '_']) (o := ['t', 'c', 'e', 'j', 'b', 'o']) (by kernel_rfl) owner_object]
  exact fun us h => match us, h with
  | [], _ => by kernel_rfl
  | [a0], _ => by kernel_rfl
  | [a0, a1], _ => by kernel_rfl
  | [a0, a1, a2], _ => by kernel_rfl
  | [a0, a1, a2, a3], _ => by kernel_rfl
  | [a0, a1, a2, a3, a4], _ => by kernel_rfl
  | [a0, a1, a2, a3, a4, a5], _ => by kernel_rfl
  | [a0, a1, a2, a3, a4, a5, a6], _ => by kernel_rfl
  | [a0, a1, a2, a3, a4, a5, a6, a7], _ => by kernel_rfl
  | [a0, a1, a2, a3, a4, a5, a6, a7, a8], _ => by kernel_rfl
  | [a0, a1, a2, a3, a4, a5, a6, a7, a8, a9], _ => by kernel_rfl
  | [a0, a1, a2, a3, a4, a5, a6, a7, a8, a9, a10], _ => by kernel_rfl
  | [a0, a1, a2, a3, a4, a5, a6, a7, a8, a9, a10, a11], _ => by kernel_rfl
  | _ :: _ :: _ :: _ :: _ :: _ :: _ :: _ :: _ :: _ :: _ :: _ :: _ :: _, h => by simp only [List.length_cons] at h; omega
end Zn

namespace Zn
open PySem
open PySem.Sem (wp)
/-- what is walked, at its place -/
def Laid (h : Heap) (bs : List (Bool × Addr)) (xss : List (Array Value)) : Prop := ∀ (j : Nat) (q : Bool × Addr) (xs : Array Value), bs[j]? = some q → xss[j]? = some xs → SqK q.1 h q.2 xs
/-- the sources of iterators that stand from n on -/
def srcs (n : Nat) (bs : List (Bool × Addr)) : List Src := bs.zipIdx.map fun q => (q.1.1, n + q.2, q.1.2)
theorem srcs_get {n : Nat} {bs : List (Bool × Addr)} {j : Nat} {q : Src} : (srcs n bs)[j]? = some q ↔ ∃ b, bs[j]? = some b ∧ q = (b.1, n + j, b.2) := by
  unfold srcs
  simp only [List.getElem?_map, List.getElem?_zipIdx, Option.map_map, Option.map_eq_some_iff, Nat.zero_add]
  constructor
  · rintro ⟨b, e, rfl⟩
    exact ⟨b, e, rfl⟩
  · rintro ⟨b, e, rfl⟩
    exact ⟨b, e, rfl⟩
theorem srcs_len {n : Nat} {bs : List (Bool × Addr)} : (srcs n bs).length = bs.length := by
  unfold srcs
  rw [List.length_map, List.length_zipIdx]
section
variable {prog : Program} {w : World} {A : Around} {E : Value → Shared → Prop} {s : Shared}
theorem iter_all {bs : List (Bool × Addr)} {xss : List (Array Value)} {Q : List Value → Shared → Prop} (hl : xss.length = bs.length) (hb : Laid s.heap bs xss)
    (hQ : ∀ h', h'.objs.size = s.heap.objs.size + bs.length → (∀ c o, s.heap.get? c = some o → h'.get? c = some o) → At h' 0 (srcs s.heap.objs.size bs) xss → Q ((srcs s.heap.objs.size bs).map fun q => .ref q.2.1) { s with heap := h' }) :
    wpAny (model prog w) A (Builtin.SmallTypes.iterAll (bs.map fun q => .ref q.2)) Q E s := by
  unfold Builtin.SmallTypes.iterAll
  refine wpAny_bind ?_
  refine forIn_steps (bs.map fun q => Value.ref q.2) (fun j => (((srcs s.heap.objs.size bs).map fun q => Value.ref q.2.1).take j).toArray)
    (fun j s' => ∃ h, s' = { s with heap := h } ∧ h.objs.size = s.heap.objs.size + j ∧ (∀ c o, s.heap.get? c = some o → h.get? c = some o) ∧ ∀ (i : Nat) (q : Src) (xs : Array Value), i < j → (srcs s.heap.objs.size bs)[i]? = some q → xss[i]? = some xs → ItK q.1 h q.2.1 q.2.2 0) 0 _ ?_ ?_ ?_
  · rintro j a s2 haj ⟨h, rfl, hz, hk, hi⟩
    rw [Nat.zero_add] at hz hi ⊢
    obtain ⟨q, hq, rfl⟩ : ∃ q, bs[j]? = some q ∧ Value.ref q.2 = a := by
      simpa only [List.getElem?_map, Option.map_eq_some_iff] using haj
    have lj := (List.getElem?_eq_some_iff.mp hq).1
    have e1 : xss[j]? = some xss[j] := List.getElem?_eq_getElem (by omega)
    have hs := hb j q _ hq e1
    refine wpAny_bind (wpAny_holding (iter_seq (s := { s with heap := h }) (hs.at fun o e => hk _ _ e) fun h' z1 k1 i1 => ?_))
    have z1 : h'.objs.size = h.objs.size + 1 := z1
    have i1 : ItK q.1 h' h.objs.size q.2 0 := i1
    have k1 : ∀ c o, h.get? c = some o → h'.get? c = some o := k1
    have eq : (srcs s.heap.objs.size bs)[j]? = some (q.1, s.heap.objs.size + j, q.2) := srcs_get.mpr ⟨q, hq, rfl⟩
    refine wpAny_pure ⟨?_, h', rfl, by omega, fun c o e => k1 c o (hk c o e), fun i r xs hij hr hx => ?_⟩
    · show ForInStep.yield ((List.take j _).toArray.push (Value.ref h.objs.size)) = _
      rw [List.take_add_one, List.getElem?_map, eq, hz]
      simp
    · by_cases c : i = j
      · subst c
        rw [eq] at hr
        cases hr
        rw [← hz]
        exact i1
      · exact (hi i r xs (by omega) hr hx).at fun o e => k1 _ _ e
  · exact ⟨s.heap, rfl, rfl, fun _ _ e => e, fun i q xs hi => absurd hi (Nat.not_lt_zero _)⟩
  · rintro s2 ⟨h, rfl, hz, hk, hi⟩
    rw [Nat.zero_add, List.length_map] at hz hi ⊢
    have e : List.take bs.length ((srcs s.heap.objs.size bs).map fun q => Value.ref q.2.1) = (srcs s.heap.objs.size bs).map fun q => Value.ref q.2.1 := List.take_of_length_le (by rw [List.length_map, srcs_len]; exact Nat.le_refl _)
    rw [e]
    refine wpAny_pure ?_
    refine hQ h hz hk fun i q xs hq hx => ⟨hi i q xs (by rw [← srcs_len (n := s.heap.objs.size)]; exact (List.getElem?_eq_some_iff.mp hq).1) hq hx, ?_⟩
    obtain ⟨b, hbq, rfl⟩ := srcs_get.mp hq
    exact (hb i b xs hbq hx).at fun o e => hk _ _ e
end
theorem class_zip (us : List Value) : Builtin.SmallTypes.newClass "zip" ⟨.type "zip" :: us, []⟩ = pure (.type "zip", us) := by
  unfold Builtin.SmallTypes.newClass
  show (isType (.type "zip") >>= _) = _
  have h1 : isType (.type "zip") = pure true := rfl
  simp only [h1, pure_bind, sub_zip]
  rfl
theorem meets_new (bs : List (Bool × Addr)) (xss : List (Array Value)) (hl : xss.length = bs.length) (hz : bs.length ≤ sizeLine) :
    Meets (Builtin.«zip.__new__» ⟨.type "zip" :: bs.map (fun q => .ref q.2), []⟩) (fun _ R s => Laid s.heap bs xss ∧ ∀ h', (∀ c o, s.heap.get? c = some o → h'.get? c = some o) → h'.objs.size = s.heap.objs.size + bs.length + 3 →
      At h' 0 (srcs s.heap.objs.size bs) xss → IsTupN h' (s.heap.objs.size + bs.length) ((srcs s.heap.objs.size bs).map fun q => .ref q.2.1) → IsTupN h' (s.heap.objs.size + bs.length + 1) ((srcs s.heap.objs.size bs).map fun _ => .none) →
      IsZipN h' (s.heap.objs.size + bs.length + 2) (s.heap.objs.size + bs.length) (s.heap.objs.size + bs.length + 1) .none (.bool false) → R (.ok (.ret (.ref (s.heap.objs.size + bs.length + 2)))) { s with heap := h' }) :=
  .of_wp fun prog w A R s h => by
    obtain ⟨hb, h⟩ := h
    unfold Builtin.«zip.__new__»
    refine wpAny_bind (wpAny_of_eq (class_zip _) ?_)
    show wpAny _ _ (Builtin.SmallTypes.iterAll _ >>= _) _ _ _
    refine wpAny_bind (iter_all hl hb fun h' z1 k1 a1 => ?_)
    have hs2 : ((srcs s.heap.objs.size bs).map fun q => Value.ref q.2.1).length ≤ sizeLine := by rw [List.length_map, srcs_len]; exact hz
    refine wpAny_bind (wpAny_newTuple ?_ hs2)
    refine wpAny_bind (wpAny_newTuple ?_ (by rw [List.length_map]; exact hs2))
    have p1 : ∀ {hh : Heap} {x y : Obj} {c o}, hh.get? c = some o → ((hh.push x).push y).get? c = some o := fun e => Heap.get?_push_of_some _ (Heap.get?_push_of_some _ e)
    refine wpAny_bind ?_
    unfold Builtin.SmallTypes.newRecord
    refine wpAny_newObj_type (wpAny_pure ⟨_, rfl, ?_⟩) (by show 5 ≤ sizeLine + 2; decide)
    have s1 : (h'.push ({ cls := .type "tuple", data := .seq (List.map (fun q => Value.ref q.snd.fst) (srcs s.heap.objs.size bs)).toArray } : Obj)).objs.size = s.heap.objs.size + bs.length + 1 := by rw [Heap.size_push, z1]
    have s2 : ((h'.push ({ cls := .type "tuple", data := .seq (List.map (fun q => Value.ref q.snd.fst) (srcs s.heap.objs.size bs)).toArray } : Obj)).push ({ cls := .type "tuple", data := .seq (List.map (fun _ => Value.none) (List.map (fun q => Value.ref q.snd.fst) (srcs s.heap.objs.size bs))).toArray } : Obj)).objs.size = s.heap.objs.size + bs.length + 2 := by rw [Heap.size_push, s1]
    show R (Except.ok (Flow.ret (Value.ref (Heap.objs (Heap.push _ _)).size))) _
    rw [s2]
    refine h _ (fun c o e => Heap.get?_push_of_some _ (p1 (k1 c o e))) ?_ (fun i q xs hq hx => ?_) ?_ ?_ ?_
    · show (Heap.objs (Heap.push _ _)).size = _
      rw [Heap.size_push, s2]
    · obtain ⟨b, hbq, e⟩ := srcs_get.mp hq
      obtain ⟨x1, x2⟩ := a1 i q xs hq hx
      exact ⟨x1.at fun o e => Heap.get?_push_of_some _ (p1 e), x2.at fun o e => Heap.get?_push_of_some _ (p1 e)⟩
    · rw [← z1]
      exact Heap.get?_push_of_some _ (Heap.get?_push_of_some _ (Heap.get?_push_size _ rfl))
    · rw [← s1]
      refine (Heap.get?_push_of_some _ (Heap.get?_push_size _ rfl)).trans ?_
      rw [List.map_map]
      rfl
    · rw [← s2]
      refine (Heap.get?_push_size _ rfl).trans ?_
      show some ({ cls := .type "zip", data := .fields #[.none, .bool false, Value.bool false, Value.ref h'.objs.size, Value.ref (h'.push ({ cls := .type "tuple", data := .seq (List.map (fun q => Value.ref q.snd.fst) (srcs s.heap.objs.size bs)).toArray } : Obj)).objs.size] } : Obj) = _
      rw [s1, z1]
section
variable {prog : Program} {w : World} {A : Around} {E : Value → Shared → Prop} {s : Shared}
theorem call_zipN {bs : List (Bool × Addr)} {xss : List (Array Value)} {Q : Value → Shared → Prop} (hl : xss.length = bs.length) (hz : bs.length ≤ 12) (hb : Laid s.heap bs xss)
    (h : ∀ h', (∀ c o, s.heap.get? c = some o → h'.get? c = some o) → h'.objs.size = s.heap.objs.size + bs.length + 3 →
      At h' 0 (srcs s.heap.objs.size bs) xss → IsTupN h' (s.heap.objs.size + bs.length) ((srcs s.heap.objs.size bs).map fun q => .ref q.2.1) → IsTupN h' (s.heap.objs.size + bs.length + 1) ((srcs s.heap.objs.size bs).map fun _ => .none) →
      IsZipN h' (s.heap.objs.size + bs.length + 2) (s.heap.objs.size + bs.length) (s.heap.objs.size + bs.length + 1) .none (.bool false) → Q (.ref (s.heap.objs.size + bs.length + 2)) { s with heap := h' }) :
    wpAny (model prog w) A (call (.type "zip") (bs.map fun q => .ref q.2)) Q E s := by
  have hn : (bs.map fun q => Value.ref q.2).length ≤ 12 := by rw [List.length_map]; exact hz
  refine callType_new F.called_zip (by decide) (tc _ hn) (nc _ hn) (fun obj => oi obj _ hn) F.entry_zip_new (meets_new bs xss hl (Nat.le_trans hz (by decide))) ⟨hb, fun h' k z a t1 t2 iz => ?_⟩
  show _ ∧ _
  exact ⟨⟨_, iz, rfl⟩, h h' k z a t1 t2 iz⟩
theorem self_zip {z TI TO : Addr} {f0 f1 : Value} {Q : Value → Shared → Prop} (hz : IsZipN s.heap z TI TO f0 f1) (h : Q (.ref z) s) : wpAny (model prog w) A (pyIter (.ref z)) Q E s := by
  have hT : s.TypeIs (.ref z) "zip" := ⟨_, hz, rfl⟩
  refine wpAny_pyIter_slot hT F.slot_zip_iter (wpAny_call_entry F.slot_zip_iter hT F.entry_zip_iter ?_ (F.args_zip_iter_1 _))
  show wpAny _ _ (ret (.ref z)) _ _ s
  exact wpAny_pure ⟨_, rfl, "zip", _, hT, F.slot_zip_next.lookup, h⟩
end
end Zn

namespace Gd
open PySem PySem.Spec PyProof.Rows L2
/-- no repr is under way -/
def Clean (A : Around) : Prop := A.guards = some []
/-- a contract that holds where no repr is under way -/
structure FnG (P : Program) (w : World) (K : PySem.W.Frag) (mg : Str → Option Value) (base : Heap) (CX : CXT) (k : Nat) (f : Addr) (fd : FuncData) (ps : List Str) (sp : Sp) : Prop where
  len : ∀ vs H Q E, sp vs H Q E → vs.length = ps.length
  run : ∀ (A : Around) (outer : List Env) (s : Shared) (H : Hp) (args : Args) (us : List Value) (vs : List V) (Q : VK) (E : XK), Clean A → Room k A →
    Env0 P w K mg base A outer s H → BindsTo s fd args (ps.zip us) → Vals vs us → sp vs H Q E →
    codeAny (model P w) A (.call (.ref f) args) (CR CX outer P w H s Q E) s
section
variable {P : Program} {w : World} {K : PySem.W.Frag} {mg : Str → Option Value} {base : Heap} {CX : CXT} {k j : Nat} {f : Addr} {fd : FuncData} {ps : List Str} {sp : Sp}
theorem FnG.of (F : FnOk P w K mg base CX k f fd ps sp) : FnG P w K mg base CX k f fd ps sp :=
  ⟨F.len, fun A outer s H args us vs Q E _ hr e0 hb r h => F.run A outer s H args us vs Q E hr e0 hb r h⟩
theorem FnG.mono (F : FnG P w K mg base CX j f fd ps sp) (h : j ≤ k) : FnG P w K mg base CX k f fd ps sp :=
  ⟨F.len, fun A outer s H args us vs Q E hc hr e0 hb r q => F.run A outer s H args us vs Q E hc (hr.mono h) e0 hb r q⟩
/-- a def of the text keeps its contract: its body as rules, and their reading -/
theorem okG {CX : CXT} {x qual : Str} {st : Stmt} {N : List Str} (F : Fun K x qual st f fd) (S : FnScope N ps (defScope st)) (len : ∀ vs H Q E, sp vs H Q E → vs.length = ps.length)
    (hbody : ∀ (cdv : Value) (A : Around) (outer : List Env) (s : Shared) (H : Hp) (vs : List V) (Q : VK) (E : XK), Clean A → Room k (A.deeper (envOfC qual (defScope st) s.heap.objs.size f cdv)) → sp vs H Q E →
      ∃ t, PSs (cxOf CX P w K mg base N qual (defScope st) f cdv A outer s H E) (defBody st) t ∧ t { nx := fun _ H' => Q .non H', rt := Q } (start N vs) H) : FnG P w K mg base CX (k + 1) f fd ps sp := by
  obtain ⟨oc, od, kV, doc, pm, an, cdv, ct, osl, efd, lk, hcd⟩ := F.ex
  subst efd
  refine ⟨len, fun A outer s H args us vs Q E hc hr e0 hb r hsp => ?_⟩
  have bk : ∀ b o, base.get? b = some o → s.heap.get? b = some o := fun b o e => (e0.bs b o e).1
  have KX : K.In s.heap := e0.mod.kin.keeps bk
  have hkind : ∀ y ∈ ps.zip us, (defScope st).names.lookup y.1 = some .local ∨ ((defScope st).names.lookup y.1 = some .cell ∧ ((cellsFrom (s.heap.objs.size + 1) (defScope st).names []).lookup y.1).isSome = true) := by
    rintro ⟨n, v⟩ hy
    exact (S.par n (List.of_mem_zip hy).1).imp id fun q => ⟨q, PySem.W.cellsFrom_some _ _ _ (.inl q)⟩
  refine codeAny_call_function hr.depth (KX _ _ lk) rfl S.co S.gen rfl (PySem.W.codeRec_of KX hcd) (hb _ _ _ _ (wpAny_newFunctionEnv_cells S.kind hkind ?_))
  intro env he s1 x
  subst he
  refine ⟨(e0.mod.nolimit.keeps bk).keeps x.toInCall.keep, codeAny_func ?_⟩
  obtain ⟨t, ht, hq⟩ := hbody cdv A outer s H vs Q E hc (hr.deeper _) hsp
  have I := inv_start (CX := CX) (E := E) S hr.hd e0 (len _ _ _ _ hsp) r x
  refine wpAny_mono (ht.run [] s1 (start N vs) H _ I hq) (fun fl s' hs => ?_) fun _ _ z => z
  match fl, hs with
  | .ret u, ⟨v, σ', H', J, rv, q⟩ => exact ⟨v, H', J.os, J.bare, J.base, J.hok, rv, q⟩
  | .next, ⟨σ', H', J, q⟩ => exact ⟨V.non, H', J.os, J.bare, J.base, J.hok, rfl, q⟩
  | .brk, ⟨_, _, _, q⟩ => exact q.elim
  | .cont, ⟨_, _, _, q⟩ => exact q.elim
end
section
variable {X : Cx} {CX : CXT} {k : Nat} {f : Addr} {fd : FuncData} {ps ks : List Str} {sp : Sp} {dvs : List V} {ds : List Value} {E : XK} {x : Str} {p pos : Pos} {e : Expr} {es : List Expr} {t tk : TA} {kws : List Keyword}
theorem runG {pins : List (Addr × Obj)} {σ : L2.St} {H : Hp} {s : Shared} {Q : VK} {us : List Value} {vs : List V} (F : FnG X.prog X.w X.K X.mg X.base CX k f fd ps sp) (hc : Clean X.A) (hr : Room k X.A)
    (hb : Binds X.K fd ps ds) (hd : Vals dvs ds) (hx : Passes CX X E) (I : Inv X pins σ H s) (r : Vals vs us) (h : sp (vs ++ dvs) H Q E) :
    wpAny (model X.prog X.w) X.A (call (.ref f) us) (EP X pins σ Q) X.xe s := by
  have r2 := r.append hd
  have hl : (us ++ ds).length = ps.length := r2.length ▸ F.len _ _ _ _ h
  refine wpAny_call (codeAny_mono (F.run X.A X.stack s H ⟨us, []⟩ (us ++ ds) (vs ++ dvs) Q E hc hr I.env0 (hb s us I.kIn hl) r2 h) ?_)
  intro r s' hq
  match r, hq with
  | .error e, hq => exact hx pins σ H s e s' I hq
  | .ok (.ret u), hq => exact I.after hq
  | .ok .next, hq => exact False.elim hq
  | .ok .brk, hq => exact False.elim hq
  | .ok .cont, hq => exact False.elim hq
theorem pe_callG (F : FnG X.prog X.w X.K X.mg X.base CX k f fd ps sp) (hc : Clean X.A) (hr : Room k X.A) (hg : Gl X x) (hm : X.mg x = some (.ref f)) (hk : PySem.W.keepIn X.K (.ref f) = true)
    (hb : Binds X.K fd ps ds) (hd : Vals dvs ds) (hx : Passes CX X E) (ha : PA X (e :: es) t) (hdb : (x == ("__debug__" : Str)) = false := by decide)
    (he : starEach (e :: es) X.env = (false, eval e X.env) :: starEach es X.env := by rfl) (hpl : (backTo pos (starEach es X.env)).any (·.1) = false := by rfl) :
    PE X (.Call (.Name x p) (e :: es) [] pos) (tCall sp dvs E t) := by
  refine ⟨fun pins s σ H Q I h => wpAny_Call_Name_kw (ld_glob I hg hm ?_ hdb)⟩
  exact PySem.W.callWith_K (h₀ := X.base) I.ok.mod.kin hk (thn (ha.run pos pins s σ H _ I h) fun us s1 ⟨vs, H1, I1, r, q⟩ => ⟨I1.kIn, runG F hc hr hb hd hx I1 r q⟩) he hpl
end

/-! the end of a law -/
section
variable {P : Program} {w : World} {K : PySem.W.Frag} {mg mb : Str → Option Value} {CX : CXT} {k : Nat} {fa a : Addr} {fd : FuncData} {x : Str} {sp : Sp} {s : Shared} {vs : List Value} {ns : List Int}
/-- the table of modules stands in the fixed part -/
abbrev SysIn (base : Heap) : Prop := ∃ o, base.get? sysModules = some o
abbrev scriptObj (vs : List Value) : Obj := { cls := .type "list", data := .seq vs.toArray }
abbrev Done (s : Shared) (r : Result) (s' : Shared) : Prop := r = .ok (.ret (.bool true)) ∧ OldK s.heap s'.heap ∧ s'.os = s.os ∧ AllBare s'.gens
/-- from a heap in which the script alone may be tracked -/
theorem law_core (KX : K.In s.heap) (hns : s.heap.Ns mainGlobals mg) (hb : s.heap.Ns builtinsNs mb) (hbb : ∀ x : Str, x ≠ "__name__" → mb x = bootBuiltins x) (hlim : s.heap.NoLimit) (hsy : ∃ mm, s.heap.Ns sysModules mm) (hg : s.gens = #[])
    (ha : s.heap.get? a = some (scriptObj vs)) (hr : Room k callerA)
    (F : ∀ base : Heap, K.In base → base.Ns mainGlobals mg → SysIn base → FnG P w K mg base CX k fa fd [x] sp) (hbind : ∀ (s : Shared) (u : Value), BindsTo s fd ⟨[u], []⟩ [(x, u)])
    (H : Hp) (hO : Only H) (hok : HOk P w H s.heap) (hA : ∀ b, H b ≠ none → b = a) (hK : H a ≠ none → K.lookup a = none)
    (hsp : sp [.ref a] H (fun v _ => v = .bl true) fun _ _ _ => False) (hCX : ∀ e s', CX [] H s (fun _ _ _ => False) e s' → False) :
    codeAny (model P w) callerA (.call (.ref fa) ⟨[.ref a], []⟩) (Done s) s := by
  have notA : ∀ {b : Addr}, b ≠ a → H b = none := fun {b} hb => Classical.byContradiction fun q => hb (hA b q)
  have nsA : ∀ {b : Addr} {m : Str → Option Value}, s.heap.Ns b m → (hidT s.heap H).Ns b m := by
    rintro b m ⟨o, es, ep, e, d, r⟩
    have hb : b ≠ a := by
      rintro rfl
      rw [ha] at e
      cases e
      exact nomatch (d : Data.seq vs.toArray _ = Data.dict es ep)
    exact ⟨o, es, ep, hidT_get e (notA hb), d, r⟩
  have inB : K.In (hidT s.heap H) := fun b o e => hidT_get (KX b o e) (Classical.byContradiction fun q => by
    have hb := hA b q
    subst hb
    rw [hK q] at e
    exact nomatch e)
  have md : Mod K mg (hidT s.heap H) := ⟨inB, nsA hns, ⟨mb, nsA hb, hbb⟩, hlim.imp fun _ h => ⟨nsA h.1, h.2⟩⟩
  have e0 : Env0 P w K mg (hidT s.heap H) callerA [] s H :=
    ⟨rfl, md, fun b o e => of_hidT e, Nat.le_of_eq (hidT_size _ _), trivial, fun _ hb => absurd hb List.not_mem_nil, hok, .of_eq hg⟩
  have R := (F _ inB (nsA hns) (let ⟨_, q⟩ := hsy; let ⟨o, _, _, e, _⟩ := nsA q; ⟨o, e⟩)).run callerA [] s H ⟨[.ref a], []⟩ [.ref a] [.ref a] _ _ rfl hr e0 (hbind s (.ref a)) (.cons rfl .nil) hsp
  refine codeAny_mono R fun r s' h => ?_
  match r, h with
  | .error e, h => exact (hCX e s' h).elim
  | .ok .next, h => exact False.elim h
  | .ok .brk, h => exact False.elim h
  | .ok .cont, h => exact False.elim h
  | .ok (.ret u), ⟨v, H', os, bare, un, hok', r', q⟩ =>
    have q' : v = .bl true := q
    subst q'
    cases (show u = Value.bool true from r')
    refine ⟨rfl, OldK.of_keep fun b o e => ?_, os, bare⟩
    rcases hO b with z | ⟨ob, xs, z⟩
    · exact un.keep b o e z List.not_mem_nil (by simp)
    · have e1 := (hok b _ z).1
      have e2 := (hok' b _ (un.frzs b ob _ z)).1
      rw [e] at e1
      cases e1
      exact e2
theorem law_callG (KX : K.In s.heap) (hns : s.heap.Ns mainGlobals mg) (hb : s.heap.Ns builtinsNs mb) (hbb : ∀ x : Str, x ≠ "__name__" → mb x = bootBuiltins x) (hlim : s.heap.NoLimit) (hsy : ∃ mm, s.heap.Ns sysModules mm) (hg : s.gens = #[])
    (ha : s.heap.get? a = some (scriptObj vs)) (hi : IntsAre vs ns) (hl : ns.length ≤ sizeLine) (hr : Room k callerA)
    (F : ∀ base : Heap, K.In base → base.Ns mainGlobals mg → SysIn base → FnG P w K mg base CX k fa fd [x] sp) (hbind : ∀ (s : Shared) (u : Value), BindsTo s fd ⟨[u], []⟩ [(x, u)])
    (hsp : ∀ H : Hp, Only H → SqL K H a (ns.map V.int) → sp [.ref a] H (fun v _ => v = .bl true) fun _ _ _ => False) (hCX : ∀ H e s', CX [] H s (fun _ _ _ => False) e s' → False) :
    codeAny (model P w) callerA (.call (.ref fa) ⟨[.ref a], []⟩) (Done s) s := by
  have rv := vals_ints hi
  have lenV := hi.length
  cases hk : K.lookup a with
  | some o =>
    have e := KX a o hk
    rw [ha] at e
    cases e
    refine law_core KX hns hb hbb hlim hsy hg ha hr F hbind (fun _ => none) (fun _ => .inl rfl) (fun b u z => nomatch (z : (none : Option HO) = some u)) (fun _ z => absurd rfl z) (fun z => absurd rfl z) ?_ (hCX _)
    exact hsp _ (fun _ => .inl rfl) (.inr ⟨_, vs.toArray, _, hk, rfl, rfl, rfl, by rw [List.size_toArray, lenV]; exact hl, by simpa using rv⟩)
  | none =>
    have one : ∀ {b : Addr} {u : HO}, (if b = a then some (HO.frz (scriptObj vs) (.lst (ns.map V.int))) else none) = some u → b = a ∧ u = .frz (scriptObj vs) (.lst (ns.map V.int)) := by
      intro b u z
      by_cases hb : b = a
      · rw [if_pos hb] at z
        exact ⟨hb, (Option.some.inj z).symm⟩
      · rw [if_neg hb] at z
        exact nomatch z
    have only : Only fun b => if b = a then some (HO.frz (scriptObj vs) (.lst (ns.map V.int))) else none := fun b => by
      by_cases hb : b = a
      · exact .inr ⟨_, _, if_pos hb⟩
      · exact .inl (if_neg hb)
    refine law_core KX hns hb hbb hlim hsy hg ha hr F hbind _ only (fun b u z => ?_) (fun b z => ?_) (fun _ => hk) (hsp _ only (.inl (.inr ⟨scriptObj vs, if_pos rfl⟩))) (hCX _)
    · obtain ⟨rfl, rfl⟩ := one z
      exact ⟨ha, by rw [List.length_map]; exact hl, vs, _, rv, ha⟩
    · cases q : (if b = a then some (HO.frz (scriptObj vs) (.lst (ns.map V.int))) else none) with
      | none => exact absurd q z
      | some u => exact (one q).1
theorem walkG {l : PySem.W.OpenLaw} {n k : Nat} {q : Program} {loose : List Str} {XP : (Str → Option Value) → Heap → Prop} {YP : World → Heap → Prop} {d : DefRec} {K : Params → PySem.W.Frag} {CX : World → CXT} {sp : World → Sp} {x : Str}
    (hn : l.most = some n) (hn2 : n ≤ sizeLine) (hdf : d.params.defaults = []) (hr : Room k callerA) (himp : importsNone q = true) (hY : ∀ (w : World) (h : Heap), YP w h → (K w.params).In h)
    (F : ∀ (w : World) (mg : Str → Option Value) (fa : Addr) (h : Heap), (K w.params).In h → h.Ns mainGlobals mg → mg d.name = some (.ref fa) →
      ∃ fd : FuncData, (∀ (s : Shared) (u : Value), BindsTo s fd ⟨[u], []⟩ [(x, u)]) ∧
        ∀ base : Heap, (K w.params).In base → base.Ns mainGlobals mg → SysIn base → FnG l.prog w (K w.params) mg base (CX w) k fa fd [x] (sp w))
    (hsp : ∀ (w : World) (H : Hp) (a : Addr) (ns : List Int), ns.length ≤ n → Only H → SqL (K w.params) H a (ns.map V.int) → sp w [.ref a] H (fun v _ => v = .bl true) fun _ _ _ => False)
    (hCX : ∀ (w : World) (H : Hp) (s : Shared) (e : Value) (s' : Shared), CX w [] H s (fun _ _ _ => False) e s' → False) :
    PySem.W.WalkO q loose XP YP l.row.toRowW d [] (fun f vs => PySem.call f vs) := by
  refine Att.attach_call hn hdf fun w s₀ s₁ mg mb fa o pm cd doc a vs ns G Y ho hd hcd hmg hobj hints hlen hg => ?_
  obtain ⟨fd, hb, hF⟩ := F w mg fa _ (hY w _ Y) G.T.g hmg
  exact law_callG (hY w _ Y) G.T.g G.T.b G.T.builtins G.T.nolimit (let ⟨mm, q, _⟩ := (G.T.seer himp).mods; ⟨mm, q⟩) hg hobj hints (Nat.le_trans hlen hn2) hr hF hb (fun H hO hS => hsp w H a ns hlen hO hS) fun H e s' => hCX w H s₁ e s'
end
end Gd

namespace Zn
open PySem PySem.Spec PyProof.Rows L2
/-- a list or a tuple of values -/
def SqV (K : PySem.W.Frag) (H : Hp) (b : Bool) (p : Addr) (xs : List V) : Prop := if b then SqL K H p xs else SqT K H p xs
theorem SqV.any {K : PySem.W.Frag} {H : Hp} {b : Bool} {p : Addr} {xs : List V} (h : SqV K H b p xs) : SqT K H p xs ∨ SqL K H p xs := by
  cases b
  · exact .inl h
  · exact .inr h
theorem SqV.get {X : Cx} {pins : List (Addr × Obj)} {σ : L2.St} {H : Hp} {s : Shared} {b : Bool} {p : Addr} {xs : List V} (I : Inv X pins σ H s) (h : SqV X.K H b p xs) : ∃ us, Vals xs us ∧ SqK b s.heap p us.toArray := by
  cases b
  · obtain ⟨its, r, pl, _⟩ := I.tuple h
    exact ⟨its, r, pl⟩
  · obtain ⟨its, r, pl, _⟩ := I.list h
    exact ⟨its, r, pl.isList⟩
theorem SqV.inj {X : Cx} {pins : List (Addr × Obj)} {σ : L2.St} {H : Hp} {s : Shared} {b : Bool} {p : Addr} {xs ys : List V} (I : Inv X pins σ H s) (h : SqV X.K H b p xs) (h' : SqV X.K H b p ys) : xs = ys := by
  cases b
  · exact I.tuple_inj h h'
  · exact I.list_inj h h'
abbrev Bs := List (Bool × Addr)
/-- the sources stand, each with its row -/
inductive Rws (K : PySem.W.Frag) (H : Hp) : Bs → List (List V) → Prop
  | nil : Rws K H [] []
  | cons {q : Bool × Addr} {xs : List V} {bs : Bs} {xss : List (List V)} : SqV K H q.1 q.2 xs → Rws K H bs xss → Rws K H (q :: bs) (xs :: xss)
/-- the items at i -/
inductive Col (i : Nat) : List (List V) → List V → Prop
  | nil : Col i [] []
  | cons {xs : List V} {x : V} {xss : List (List V)} {vs : List V} : xs[i]? = some x → Col i xss vs → Col i (xs :: xss) (x :: vs)
theorem Col.len {i : Nat} {xss : List (List V)} {vs : List V} (c : Col i xss vs) : vs.length = xss.length := by
  induction c with
  | nil => rfl
  | cons _ _ ih => rw [List.length_cons, List.length_cons, ih]
theorem Col.of {i : Nat} : ∀ {xss : List (List V)}, (∀ xs ∈ xss, i < xs.length) → ∃ vs, Col i xss vs
  | [], _ => ⟨[], .nil⟩
  | xs :: xss, h => by
    obtain ⟨vs, c⟩ := Col.of fun ys hy => h ys (List.mem_cons_of_mem _ hy)
    exact ⟨xs[i]'(h xs List.mem_cons_self) :: vs, .cons (List.getElem?_eq_getElem _) c⟩
theorem Col.inj {i : Nat} {xss : List (List V)} {vs ws : List V} (c : Col i xss vs) (d : Col i xss ws) : vs = ws := by
  induction c generalizing ws with
  | nil => cases d; rfl
  | cons e c ih =>
    cases d with
    | cons e' d => rw [e] at e'; cases e'; rw [ih d]
/-- the objects behind them -/
theorem rows_get {X : Cx} {pins : List (Addr × Obj)} {σ : L2.St} {H : Hp} {s : Shared} (I : Inv X pins σ H s) {bs : Bs} {xss : List (List V)} (h : Rws X.K H bs xss) :
    ∃ us : List (List Value), us.length = bs.length ∧ Laid s.heap bs (us.map List.toArray) ∧ ∀ (i : Nat) (vs : List V), Col i xss vs → ∃ ws, Vals vs ws ∧ ws.length = bs.length ∧ ∀ (j : Nat) (u : Array Value), (us.map List.toArray)[j]? = some u → u[i]? = ws[j]? := by
  induction h with
  | nil =>
    refine ⟨[], rfl, (fun j q xs h1 => by simp at h1), fun i vs c => ?_⟩
    cases c
    exact ⟨[], .nil, rfl, fun j u h => by simp at h⟩
  | cons a t ih =>
    obtain ⟨us, l1, l2, l3⟩ := ih
    obtain ⟨u, r, k⟩ := SqV.get I a
    refine ⟨u :: us, by rw [List.length_cons, List.length_cons, l1], fun j q xs h1 h2 => ?_, fun i vs c => ?_⟩
    · cases j with
      | zero => cases h1; cases h2; exact k
      | succ j => exact l2 j q xs h1 h2
    · cases c with
      | cons e c =>
        obtain ⟨ws, r1, n1, g⟩ := l3 i _ c
        obtain ⟨y, hy, ry⟩ := r.get e
        refine ⟨y :: ws, .cons ry r1, by rw [List.length_cons, List.length_cons, n1], fun j u' h => ?_⟩
        cases j with
        | zero =>
          cases h
          simpa using hy
        | succ j => exact g j u' h
theorem Rws.inj {X : Cx} {pins : List (Addr × Obj)} {σ : L2.St} {H : Hp} {s : Shared} (I : Inv X pins σ H s) {bs : Bs} {xss yss : List (List V)} (h : Rws X.K H bs xss) (h' : Rws X.K H bs yss) : xss = yss := by
  induction h generalizing yss with
  | nil => cases h'; rfl
  | cons a t ih =>
    cases h' with
    | cons a' t' => rw [SqV.inj I a a', ih t']
/-- the tuples that zip gives out -/
def ItzN (K : PySem.W.Frag) (bs : Bs) : It :=
  ⟨fun i H => ∃ xss, Rws K H bs xss ∧ bs ≠ [] ∧ ∀ xs ∈ xss, i < xs.length,
    fun i H v H' => ∃ T vs, v = .ref T ∧ H T = none ∧ H' = upd H T (.tup vs) ∧ ∀ xss, Rws K H bs xss → Col i xss vs,
    fun i H => bs = [] ∨ ∃ q xs, bs[0]? = some q ∧ SqV K H q.1 q.2 xs ∧ xs.length ≤ i⟩

/-- where the parts of a zip stand -/
structure ZFits (n : Nat) (bs : Bs) : Prop where
  low : ∀ q ∈ bs, (show Nat from q.2) < n
theorem ZFits.apart {n : Nat} {bs : Bs} (F : ZFits n bs) : Apart (n + bs.length + 2) (n + bs.length) (n + bs.length + 1) (srcs n bs) := by
  have each : ∀ q ∈ srcs n bs, ∃ j : Nat, j < bs.length ∧ (show Nat from q.2.1) = n + j ∧ (show Nat from q.2.2) < n := fun q hq => by
    obtain ⟨j, hj⟩ := List.getElem?_of_mem hq
    obtain ⟨b, hb, rfl⟩ := srcs_get.mp hj
    exact ⟨j, (List.getElem?_eq_some_iff.mp hb).1, rfl, F.low b (List.mem_of_getElem? hb)⟩
  have ne : ∀ {a b : Nat}, a ≠ b → (show Addr from a) ≠ b := fun h => h
  refine ⟨ne (by omega), ne (by omega), ne (by omega), fun q hq => ?_, fun q hq => ?_, fun q hq r hr => ?_, ?_⟩
  · obtain ⟨j, h1, h2, h3⟩ := each q hq
    exact ⟨fun e => absurd (h2.symm.trans e) (by omega), fun e => absurd (h2.symm.trans e) (by omega), fun e => absurd (h2.symm.trans e) (by omega)⟩
  · obtain ⟨j, h1, h2, h3⟩ := each q hq
    have lt : ∀ m : Nat, n ≤ m → q.2.2 ≠ m := fun m hm e => by
      have h3' : (show Nat from m) < n := by rw [← show q.2.2 = m from e]; exact h3
      exact absurd h3' (Nat.not_lt.mpr hm)
    exact ⟨lt _ (Nat.le_add_right_of_le (Nat.le_add_right _ _)), lt _ (Nat.le_add_right _ _), lt _ (Nat.le_add_right_of_le (Nat.le_add_right _ _))⟩
  · obtain ⟨j, h1, h2, h3⟩ := each q hq
    obtain ⟨j', h1', h2', h3'⟩ := each r hr
    intro e
    have h4 : (show Nat from r.2.2) = n + j := by rw [← show q.2.1 = r.2.2 from e]; exact h2
    exact absurd h3' (by rw [h4]; exact Nat.not_lt.mpr (Nat.le_add_right _ _))
  · refine List.pairwise_iff_getElem.mpr fun i j hi hj lt e => ?_
    have get : ∀ k (h : k < ((srcs n bs).map (·.2.1)).length), ((srcs n bs).map (·.2.1))[k] = n + k := fun k h => by
      have hk : k < (srcs n bs).length := by rw [List.length_map] at h; exact h
      obtain ⟨b, hb, e⟩ := srcs_get.mp (List.getElem?_eq_getElem hk)
      rw [List.getElem_map, e]
    rw [get, get] at e
    exact absurd (Nat.add_left_cancel e) (Nat.ne_of_lt lt)
/-- its own objects -/
def zfp (n : Nat) (bs : Bs) : List Addr := (n + bs.length + 2) :: (n + bs.length) :: (n + bs.length + 1) :: (srcs n bs).map (·.2.1)
/-- how they stand at turn i -/
def ztn (n : Nat) (bs : Bs) (i : Nat) (h : Heap) : Prop := (∃ f0 f1, Own f0 ∧ IsZipN h (n + bs.length + 2) (n + bs.length) (n + bs.length + 1) f0 f1) ∧ IsTupN h (n + bs.length) ((srcs n bs).map fun q => .ref q.2.1) ∧
  (∃ os, os.length = (srcs n bs).length ∧ IsTupN h (n + bs.length + 1) os) ∧ ∀ q ∈ srcs n bs, ItK q.1 h q.2.1 q.2.2 i
theorem ztn_obj {n : Nat} {bs : Bs} {i : Nat} {h : Heap} (st : ztn n bs i h) : ∀ c ∈ zfp n bs, ∃ o, h.get? c = some o ∧ ∀ v, o.data ≠ .cell v := fun c hc => by
  obtain ⟨⟨f0, f1, _, iz⟩, t1, ⟨os, _, t2⟩, its⟩ := st
  have hc : c = n + bs.length + 2 ∨ c = n + bs.length ∨ c = n + bs.length + 1 ∨ ∃ q ∈ srcs n bs, q.2.1 = c := by
    simpa only [zfp, List.mem_cons, List.mem_map] using hc
  rcases hc with rfl | rfl | rfl | ⟨q, hq, rfl⟩
  · exact ⟨_, iz, fun v q => nomatch q⟩
  · exact ⟨_, t1, fun v q => nomatch q⟩
  · exact ⟨_, t2, fun v q => nomatch q⟩
  · obtain ⟨o, e, _, d⟩ := (its q hq).obj
    exact ⟨o, e, d⟩
theorem zat {n : Nat} {bs : Bs} {i : Nat} {h : Heap} {xss : List (Array Value)} (a : ∀ q ∈ srcs n bs, ItK q.1 h q.2.1 q.2.2 i) (l : Laid h bs xss) : At h i (srcs n bs) xss := fun j q xs h1 h2 => by
  refine ⟨a q (List.mem_of_getElem? h1), ?_⟩
  obtain ⟨b, hb, rfl⟩ := srcs_get.mp h1
  exact l j b xs hb h2
theorem rws_len {K : PySem.W.Frag} {H : Hp} {bs : Bs} {xss : List (List V)} (h : Rws K H bs xss) : xss.length = bs.length := by
  induction h with
  | nil => rfl
  | cons _ _ ih => rw [List.length_cons, List.length_cons, ih]
theorem turn_zipN {P : Program} {w : World} {K : PySem.W.Frag} {tg : Expr} {n : Nat} {bs : Bs} (F : ZFits n bs) (hz : bs.length ≤ 12) : Turn P w K tg (ItzN K bs) (zfp n bs) (n + bs.length + 2) (ztn n bs) where
  mem := List.mem_cons_self
  obj := fun i h st => ztn_obj st
  keep := fun i h h' st k => by
    obtain ⟨⟨f0, f1, of, iz⟩, t1, ⟨os, ol, t2⟩, its⟩ := st
    exact ⟨⟨f0, f1, of, k _ (by simp [zfp]) _ iz⟩, k _ (by simp [zfp]) _ t1, ⟨os, ol, k _ (by simp [zfp]) _ t2⟩, fun q hq => (its q hq).at fun o e => k _ (by
      simp only [zfp, List.mem_cons, List.mem_map]
      exact .inr (.inr (.inr ⟨q, hq, rfl⟩))) o e⟩
  item := by
    intro X hP hw hK hc i pins s σ H E I hf st hg
    subst hP hw hK
    have ob := ztn_obj st
    obtain ⟨⟨f0, f1, of, iz⟩, t1, ⟨os, ol, t2⟩, its⟩ := st
    obtain ⟨xss, rw_, hne, hlt⟩ := hg
    obtain ⟨us, lu, la, cu⟩ := rows_get I rw_
    obtain ⟨vs, cv⟩ := Col.of hlt
    obtain ⟨ws, rv, lw, cw⟩ := cu i vs cv
    have sl := srcs_len (n := n) (bs := bs)
    have s12 : 12 ≤ sizeLine := by decide
    have hne' : srcs n bs ≠ [] := fun e => hne (List.eq_nil_of_length_eq_zero (by rw [← sl, e]; rfl))
    have hzl : n + bs.length + 2 < s.heap.objs.size := Heap.lt_size iz
    refine next_zip F.apart hne' (by rw [List.length_map, lu, sl]) (by rw [lw, sl]) (by rw [sl]; omega) of iz t1 t2 ol (zat its la) cw fun h' af => ?_
    obtain ⟨⟨g0, g1, og, iz'⟩, ⟨os', ol', t2'⟩, at', tn', sz', rest⟩ := af
    refine ⟨_, rfl, go_zip (s := { s with heap := h' }) og iz' fun h'' g0' og' iz'' sb => ?_⟩
    have away : ∀ c o, c ∉ zfp n bs → s.heap.get? c = some o → h''.get? c = some o := fun c o hc e => by
      have hc : ¬ (c = n + bs.length + 2 ∨ c = n + bs.length ∨ c = n + bs.length + 1 ∨ ∃ q ∈ srcs n bs, q.2.1 = c) := by
        simpa only [zfp, List.mem_cons, List.mem_map] using hc
      exact (sb.2 c fun x => hc (.inl x)).trans (rest c o (fun x => hc (.inl x)) (fun x => hc (.inr (.inr (.inl x)))) (fun q hq x => hc (.inr (.inr (.inr ⟨q, hq, x.symm⟩)))) e)
    have hT2 : h''.get? s.heap.objs.size = some { cls := .type "tuple", data := .seq ws.toArray } := (sb.2 _ (Nat.ne_of_gt hzl)).trans tn'
    have lvs : vs.length = bs.length := by rw [cv.len, rws_len rw_]
    have new : ObjOk X.prog X.w (upd H s.heap.objs.size (.tup vs)) h'' s.heap.objs.size (.tup vs) := ⟨by show vs.length ≤ sizeLine; omega, ws, rv, ⟨_, hT2, rfl, _, rfl⟩⟩
    have I1 : Inv X pins σ (upd H s.heap.objs.size (.tup vs)) { s with heap := h'' } := I.turnedNew (t' := s.toks) (ch := zfp n bs) (fun c o hb q => away c o hb q) hf (Nat.le_refl _) new
    refine ⟨.ref s.heap.objs.size, _, I1, rfl, ⟨_, vs, rfl, I.hok.fresh (Nat.le_refl _), rfl, fun yss hy => by rw [Rws.inj I hy rw_]; exact cv⟩, ⟨⟨g0', g1, og', iz''⟩, (sb.2 _ F.apart.TIz).trans (rest _ _ F.apart.TIz F.apart.TITO (fun q hq x => (F.apart.iz q hq).2.1 x.symm) t1), ⟨os', ol', (sb.2 _ F.apart.TOz).trans t2'⟩, fun q hq => ?_⟩, fun c hcm => ?_⟩
    · obtain ⟨j, hj⟩ := List.getElem?_of_mem hq
      have jl : j < bs.length := by rw [← sl]; exact (List.getElem?_eq_some_iff.mp hj).1
      have z := (at' j q _ hj (List.getElem?_eq_getElem (by rw [List.length_map, lu]; exact jl))).1
      exact z.at fun o e => (sb.2 _ (F.apart.iz q hq).1).trans e
    · obtain ⟨o, e, _⟩ := ob c hcm
      rw [upd_ne (Nat.ne_of_lt (Heap.lt_size e))]
      exact (hf c hcm).1
  done := by
    intro X hP hw hK hc i pins s σ H E I hf st hg
    subst hP hw hK
    obtain ⟨⟨f0, f1, of, iz⟩, t1, ⟨os, ol, t2⟩, its⟩ := st
    have out : Out s.heap i (srcs n bs) := by
      rcases hg with rfl | ⟨q, xs, hq, sv, hl⟩
      · exact .inl rfl
      · obtain ⟨us, r, k⟩ := SqV.get I sv
        have e : (srcs n bs)[0]? = some (q.1, n + 0, q.2) := srcs_get.mpr ⟨q, hq, rfl⟩
        exact .inr ⟨_, us.toArray, e, its _ (List.mem_of_getElem? e), k, by simpa using (by rw [← r.length]; exact hl : us.length ≤ i)⟩
    exact next_zip_end (I.ok.hd hc) F.apart of iz t1 t2 ol out fun h' rest => ⟨rfl, I.turnedL (t' := s.toks) (ch := zfp n bs) (fun c o hb q => by
      have hb : ¬ (c = n + bs.length + 2 ∨ c = n + bs.length ∨ c = n + bs.length + 1 ∨ ∃ q ∈ srcs n bs, q.2.1 = c) := by
        simpa only [zfp, List.mem_cons, List.mem_map] using hb
      exact rest c o (fun x => hb (.inl x)) (fun x => hb (.inr (.inr (.inl x)))) (fun q hq x => hb (.inr (.inr (.inr ⟨q, hq, x.symm⟩)))) q) hf⟩
  self := fun A i s Q E st h => by
    obtain ⟨⟨f0, f1, _, iz⟩, _⟩ := st
    exact self_zip iz h

def iZipS (K : PySem.W.Frag) (te : TE) : TI := fun σ H R => te σ H fun y H1 => ∃ (a : Addr) (bs : Bs) (xss : List (List V)), y = V.ref a ∧ (SqT K H1 a (bs.map fun q => V.ref q.2) ∨ SqL K H1 a (bs.map fun q => V.ref q.2)) ∧ bs.length ≤ 12 ∧ Rws K H1 bs xss ∧ R (ItzN K bs) H1
def iZipP (K : PySem.W.Frag) (ta : TA) : TI := fun σ H R => ta σ H fun vs H1 => ∃ (p q : Bool × Addr) (xs ys : List V), vs = [V.ref p.2, V.ref q.2] ∧ SqV K H1 p.1 p.2 xs ∧ SqV K H1 q.1 q.2 ys ∧ R (ItzN K [p, q]) H1
theorem vals_refs : ∀ {bs : Bs} {us : List Value}, Vals (bs.map fun q => V.ref q.2) us → us = bs.map fun q => Value.ref q.2
  | [], _, .nil => rfl
  | q :: bs, _, .cons r t => by
    cases r
    rw [vals_refs t]
    rfl
section
variable {X : Cx} {pins : List (Addr × Obj)} {σ : L2.St} {H : Hp} {s : Shared}
/-- the zip is made and asked for its iterator -/
theorem zip_made {tg : Expr} {bs : Bs} {xss : List (List V)} {R : It → Hp → Prop} (I : Inv X pins σ H s) (hz : bs.length ≤ 12) (rw_ : Rws X.K H bs xss) (q : R (ItzN X.K bs) H) :
    wpAny (model X.prog X.w) X.A (call (.type "zip") (bs.map fun q => Value.ref q.2)) (fun v s1 => wpAny (model X.prog X.w) X.A (pyIter v) (PIE X pins σ tg R) X.xe s1) X.xe s := by
  obtain ⟨us, lu, la, _⟩ := rows_get I rw_
  have F : ZFits s.heap.objs.size bs := ⟨fun q hq => by
    obtain ⟨j, hj⟩ := List.getElem?_of_mem hq
    have jl := (List.getElem?_eq_some_iff.mp hj).1
    obtain ⟨o, ho, _⟩ := (la j q _ hj (List.getElem?_eq_getElem (by rw [List.length_map, lu]; exact jl))).obj
    exact Heap.lt_size ho⟩
  refine call_zipN (xss := us.map List.toArray) (by rw [List.length_map, lu]) hz la fun h' k sz at' t1 t2 iz => self_zip (s := { s with heap := h' }) iz ?_
  have sl := srcs_len (n := s.heap.objs.size) (bs := bs)
  refine ⟨_, zfp s.heap.objs.size bs, ztn s.heap.objs.size bs, _, H, rfl, I.kept (t' := s.toks) k, turn_zipN F hz, ⟨⟨_, _, .inl rfl, iz⟩, t1, ⟨_, by rw [List.length_map], t2⟩, fun q hq => ?_⟩, fun c hc => ?_, q⟩
  · obtain ⟨j, hj⟩ := List.getElem?_of_mem hq
    have jl : j < bs.length := by rw [← sl]; exact (List.getElem?_eq_some_iff.mp hj).1
    exact (at' j q _ hj (List.getElem?_eq_getElem (by rw [List.length_map, lu]; exact jl))).1
  · have hc : c = s.heap.objs.size + bs.length + 2 ∨ c = s.heap.objs.size + bs.length ∨ c = s.heap.objs.size + bs.length + 1 ∨ ∃ q ∈ srcs s.heap.objs.size bs, q.2.1 = c := by
      simpa only [zfp, List.mem_cons, List.mem_map] using hc
    have hle : s.heap.objs.size ≤ c := by
      rcases hc with rfl | rfl | rfl | ⟨q, hq, rfl⟩
      · exact Nat.le_add_right_of_le (Nat.le_add_right _ _)
      · exact Nat.le_add_right _ _
      · exact Nat.le_add_right_of_le (Nat.le_add_right _ _)
      · obtain ⟨j, hj⟩ := List.getElem?_of_mem hq
        obtain ⟨b, _, rfl⟩ := srcs_get.mp hj
        exact Nat.le_add_right _ _
    exact I.fpOk hle (I.hok.fresh hle)
/-- zip(*e): any number of lists and tuples -/
theorem pi_zipS {tg e : Expr} {te : TE} {p sp pos : Pos} (hg : Gl X "zip") (hm : X.mg "zip" = none) (he : PE X e te) (hst : starEach [.Starred e sp] X.env = [(true, eval e X.env)] := by rfl) :
    PI X tg (.Call (.Name "zip" p) [.Starred e sp] [] pos) (iZipS X.K te) := by
  refine ⟨fun pins s σ H R I h => ?_⟩
  refine Call_ (ld_blt I hg hm PyProof.Rows.boot_zip ?_)
  rw [hst]
  refine PySem.W.ks_call (P := fun _ => True) rfl (fun h _ => ⟨.machine, .inr (.inl rfl), PySem.W.Looks.of_pure rfl⟩) (PySem.W.ks_lone (thn (he.run pins s σ H _ I h) fun v s1 ⟨y, H1, I1, ry, a, bs, xss, ey, hx, hz, rw_, q⟩ => ?_))
  subst ey
  obtain rfl : v = Value.ref a := ry
  refine StX.star_any I1 hx fun us s2 I2 rv => ⟨trivial, ?_⟩
  rw [vals_refs rv]
  exact zip_made I2 hz rw_ q
/-- zip(e, e2): each a list or a tuple -/
theorem pi_zipP {tg e e2 : Expr} {ta : TA} {p pos : Pos} (hg : Gl X "zip") (hm : X.mg "zip" = none) (ha : PA X [e, e2] ta)
    (hs : starEach [e, e2] X.env = (false, eval e X.env) :: starEach [e2] X.env := by rfl) (hpl : (backTo pos (starEach [e2] X.env)).any (·.1) = false := by rfl) :
    PI X tg (.Call (.Name "zip" p) [e, e2] [] pos) (iZipP X.K ta) := by
  refine ⟨fun pins s σ H R I h => ?_⟩
  refine Call_ (ld_blt I hg hm PyProof.Rows.boot_zip (PyProof.Rows.callWith_type1 (thn (ha.run pos pins s σ H _ I h) fun us s1 ⟨vs, H1, I1, r1, p, q, xs, ys, ev, h1, h2, qq⟩ => ?_) hs hpl))
  subst ev
  have e := vals_refs (bs := [p, q]) r1
  subst e
  exact zip_made I1 (show 2 ≤ 12 by decide) (.cons h1 (.cons h2 .nil)) qq
end
end Zn

/-! min(xs, default=d) of a list of ints -/
namespace Zn
open PySem PySem.Spec PyProof.Rows L2
section
variable {prog : Program} {w : World} {A : Around} {s : Shared} {R : Result → Shared → Prop} {l it bst : Addr} {its : Array Value} {val : Nat → Int}
theorem minD_loop (kw : List (Str × Value)) (hv : ∀ (i : Nat) (v : Value), its[i]? = some v → ∃ t, v = Value.int (val i) t) (hh : A.in1.handled = none) (hli : l ≠ it) (hbi : bst ≠ it) (hbl : bst ≠ l) :
    ∀ (r j b : Nat) (s : Shared) (vb : Value) (c : Nat), its.size - j = r → j ≤ its.size → s.heap.IsListIter it l j → s.heap.IsList l its → its[b]? = some vb → b < j → (∀ i, i < j → val b ≤ val i) →
      s.heap.get? bst = some { cls := .type "list", dict := none, data := .seq #[vb, vb] c, slots := #[] } →
      (∀ v h' tk b, its[b]? = some v → (∀ i, i < its.size → val b ≤ val i) → (∀ x o, x ≠ it → x ≠ bst → s.heap.get? x = some o → h'.get? x = some o) → R (.ok (.ret v)) { s with heap := h', toks := tk }) →
      codeAny (model prog w) A (.builtin "min.loop" ⟨[.ref it, .none, .ref bst], kw⟩) R s := by
  have word : (toString "min" ++ toString ".loop" : String) = "min.loop" := by decide
  have W := Walks.list (prog := prog) (w := w) (A := A.in1) hh it l hli its
  intro r
  induction r with
  | zero =>
    intro j b s vb c hr hj i1 i2 hb hbj least hS fin
    have ej : j = its.size := by omega
    subst ej
    refine codeAny_builtin PySem.F.entry_min_loop ?_
    rw [Around.under_plainId PySem.F.plain_min_loop _]
    show wpAny _ A.in1 (seqItems? (.ref bst) >>= _) _ _ _
    refine wpAny_bind (wpAny_seqItems hS rfl (?_ : wpAny _ A.in1 (tryCatch (pyNext (.ref it)) _ >>= _) _ _ _))
    refine wpAny_bind (wpAny_tryCatch (W.done s _ _ ⟨i1, i2⟩ fun h' tk kept => ?_))
    have hS2 := kept bst _ (by simpa using hbi) hS
    refine (?_ : wpAny _ A.in1 (updateSeq bst (fun _ => #[]) >>= _) _ _ _)
    refine wpAny_bind (wpAny_updateSeq hS2 rfl (wpAny_bind (wpAny_letGo (wpAny_pure (fin vb _ tk b hb least fun x o x1 x2 e => ?_)))))
    exact (Heap.get?_update_other _ _ (Ne.symm x2)).trans (kept x o (by simpa using x1) e)
  | succ r ih =>
    intro j b s vb c hr hj i1 i2 hb hbj least hS fin
    have lt : j < its.size := by omega
    refine codeAny_builtin PySem.F.entry_min_loop ?_
    rw [Around.under_plainId PySem.F.plain_min_loop _]
    show wpAny _ A.in1 (seqItems? (.ref bst) >>= _) _ _ _
    refine wpAny_bind (wpAny_seqItems hS rfl (?_ : wpAny _ A.in1 (tryCatch (pyNext (.ref it)) _ >>= _) _ _ _))
    refine wpAny_bind (wpAny_tryCatch (W.item j s _ _ lt ⟨i1, i2⟩ fun v h' tk hP st kept => ?_))
    have hS2 := kept bst _ (by simpa using hbi) hS
    obtain ⟨t1, e1⟩ := hv j v hP
    obtain ⟨t2, e2⟩ := hv b vb hb
    refine (?_ : wpAny _ A.in1 (tryCatch (holding [v, v] (richCompare .Lt v vb >>= _)) _ >>= _) _ _ _)
    refine wpAny_bind (wpAny_tryCatch (wpAny_holding (wpAny_bind (CmpOf.ints_lt (prog := prog) (w := w) (A := A.in1) (P := fun i v => ∃ t, v = Value.int (val i) t) val (fun i v h => h) j b v vb _ _ _ ⟨t1, e1⟩ ⟨t2, e2⟩ (wpAny_bind (wpAny_holding (wpAny_truthy_bool ?_)))))))
    refine wpAny_bind (wpAny_letGo (wpAny_pure ?_))
    by_cases q : (val j < val b)
    · simp only [decide_eq_true q, if_true]
      refine wpAny_bind (wpAny_updateSeq hS2 rfl (wpAny_bind (wpAny_letGo ?_)))
      rw [word]
      have sb := Heap.SameBut.update h' bst (Obj.mapSeq fun _ => #[v, v])
      refine wpAny_pure ⟨plainId_quiet PySem.F.plain_min_loop _, ih (j + 1) j _ v _ (by omega) lt (st.1.extBut sb.extBut hbi.symm) (st.2.extBut sb.extBut hbl.symm) hP (Nat.lt_succ_self _) (fun i hi => ?_) (Heap.get?_update_self _ hS2 rfl) fun v' h2 tk2 b' g1 g2 g3 => ?_⟩
      · by_cases c : (i = j)
        · rw [c]
          exact Int.le_refl _
        · exact Int.le_of_lt (Int.lt_of_lt_of_le q (least i (by omega)))
      · exact fin v' h2 tk2 b' g1 g2 fun x o x1 x2 e => g3 x o x1 x2 ((sb.2 x x2).trans (kept x o (by simpa using x1) e))
    · simp only [decide_eq_false q, Bool.false_eq_true, if_false]
      refine wpAny_bind (wpAny_letGo ?_)
      rw [word]
      refine wpAny_pure ⟨plainId_quiet PySem.F.plain_min_loop _, ih (j + 1) b _ vb c (by omega) lt st.1 st.2 hb (by omega) (fun i hi => ?_) hS2 fun v' h2 tk2 b' g1 g2 g3 => ?_⟩
      · by_cases c : (i = j)
        · rw [c]
          exact Int.not_lt.mp q
        · exact least i (by omega)
      · exact fin v' h2 tk2 b' g1 g2 fun x o x1 x2 e => g3 x o x1 x2 (kept x o (by simpa using x1) e)
end
theorem ints_at {its : List Value} {ns : List Int} (hi : IntsAre its ns) : ∀ (i : Nat) (v : Value), its[i]? = some v → ∃ t, v = Value.int (ns.getD i 0) t := by
  induction hi with
  | nil => exact fun i v e => by simp at e
  | cons n t r ih =>
    intro i v e
    cases i with
    | zero =>
      cases e
      exact ⟨t, rfl⟩
    | succ i => exact ih i v e
theorem minD_args (a v : Value) : argsOk "min" ⟨[a], [(Str.ofString "default", v)]⟩ := by unfold argsOk; kernel_rfl
section
variable {prog : Program} {w : World} {A : Around} {E : Value → Shared → Prop} {s : Shared}
theorem minD_raw {l : Addr} {its : List Value} {ns : List Int} {d : Value} {Q : Value → Shared → Prop} (hh : A.handled = none) (hl : s.heap.IsList l its.toArray) (hi : IntsAre its ns)
    (h0 : ∀ h' tk, (∀ b o, s.heap.get? b = some o → h'.get? b = some o) → ns = [] → Q d { s with heap := h', toks := tk })
    (h1 : ∀ h' tk m t', (∀ b o, s.heap.get? b = some o → h'.get? b = some o) → m ∈ ns → (∀ a ∈ ns, m ≤ a) → Q (.int m t') { s with heap := h', toks := tk }) :
    wpAny (model prog w) A (call (.builtin "min") [.ref l] [("default", d)]) Q E s := by
  have word : (toString "min" ++ toString ".loop" : String) = "min.loop" := by decide
  refine kmb_tree PySem.F.kind_min PySem.F.plain_min PySem.F.entry_min (minD_args _ _) ?_
  show wpAny _ A.in1 (Builtin.Builtins.bindParams "min" ["key", "default"] 0 ⟨[], [("default", d)]⟩ >>= _) _ _ s
  refine wpAny_bind (wpAny_of_eq (show Builtin.Builtins.bindParams "min" ["key", "default"] 0 ⟨[], [("default", d)]⟩ = pure [none, some d] from rfl) ?_)
  refine wpAny_bind (wpAny_pure ?_)
  refine wpAny_bind (wpAny_pyIter_list hl ?_)
  refine wpAny_bind (wpAny_newObj_type ?_)
  rw [word]
  have e1 : its = [] ∨ 0 < its.length := by
    cases its with
    | nil => exact .inl rfl
    | cons a l => exact .inr (Nat.succ_pos _)
  have it1 : (s.heap.push { cls := .type "list_iterator", data := .fields #[.ref l, .int 0 0] }).objs.size = s.heap.objs.size + 1 := Heap.size_push ..
  have nS : ∀ {o : Obj}, o.isFreed = false → (((s.heap.push { cls := .type "list_iterator", data := .fields #[.ref l, .int 0 0] }).push o).get? (s.heap.objs.size + 1)) = some o := fun hf => by
    rw [← it1]
    exact Heap.get?_push_size _ hf
  have nI : ∀ {o : Obj}, ((s.heap.push { cls := .type "list_iterator", data := .fields #[.ref l, .int 0 0] }).push o).IsListIter s.heap.objs.size l 0 := ⟨_, Heap.get?_push_of_some _ (Heap.get?_push_size _ rfl), rfl, rfl⟩
  have nL : ∀ {o : Obj}, ((s.heap.push { cls := .type "list_iterator", data := .fields #[.ref l, .int 0 0] }).push o).IsList l its.toArray := (hl.push _).push _
  have ll : l < s.heap.objs.size := by
    obtain ⟨o, ho, _⟩ := hl
    exact Heap.lt_size ho
  have hv : ∀ (i : Nat) (v : Value), its.toArray[i]? = some v → ∃ t, v = Value.int (ns.getD i 0) t := fun i v e => ints_at hi i v (by simpa using e)
  have hlen : its.length = ns.length := hi.length
  have W := Walks.list (prog := prog) (w := w) (A := A.in1) hh s.heap.objs.size l (Nat.ne_of_lt ll) its.toArray
  refine wpAny_pure ⟨plainId_quiet PySem.F.plain_min_loop _, ?_⟩
  refine codeAny_builtin PySem.F.entry_min_loop ?_
  rw [Around.under_plainId PySem.F.plain_min_loop _]
  show wpAny _ A.in1 (seqItems? (.ref _) >>= _) _ _ _
  rw [it1]
  refine wpAny_bind (wpAny_seqItems (nS rfl) rfl (?_ : wpAny _ A.in1 (tryCatch (pyNext (.ref s.heap.objs.size)) _ >>= _) _ _ _))
  rcases e1 with e0 | e1
  · refine wpAny_bind (wpAny_tryCatch (W.done _ _ _ ⟨by rw [e0]; exact nI, nL⟩ fun h' tk kept => ?_))
    refine wpAny_bind (wpAny_rule (wpAny_pure ?_))
    have n0 : ns = [] := List.eq_nil_of_length_eq_zero (by rw [← hlen, e0]; rfl)
    exact h0 h' tk (fun b o e => kept b o (by simpa using Nat.ne_of_lt (Heap.lt_size e)) (Heap.get?_push_of_some _ (Heap.get?_push_of_some _ e))) n0
  · refine wpAny_bind (wpAny_tryCatch (W.item 0 _ _ _ (by simpa using e1) ⟨nI, nL⟩ fun v h' tk hP st kept => ?_))
    have hS2 := kept (s.heap.objs.size + 1) _ (by simp) (nS rfl)
    refine (?_ : wpAny _ A.in1 (updateSeq (s.heap.objs.size + 1) (fun _ => #[v, v]) >>= _) _ _ _)
    refine wpAny_bind (wpAny_updateSeq hS2 rfl ?_)
    rw [word]
    have sb := Heap.SameBut.update h' (s.heap.objs.size + 1) (Obj.mapSeq fun _ => #[v, v])
    have n1 : s.heap.objs.size ≠ s.heap.objs.size + 1 := Nat.ne_of_lt (Nat.lt_succ_self _)
    have n2 : l ≠ s.heap.objs.size + 1 := Nat.ne_of_lt (Nat.lt_succ_of_lt ll)
    refine wpAny_pure ⟨plainId_quiet PySem.F.plain_min_loop _, minD_loop _ hv hh (Nat.ne_of_lt ll) n1.symm n2.symm _ 1 0 _ v _ rfl (by simpa using Nat.succ_le_of_lt e1) (st.1.extBut sb.extBut n1) (st.2.extBut sb.extBut n2) hP Nat.one_pos (fun i hi => ?_) (Heap.get?_update_self _ hS2 rfl) fun v' h2 tk2 b' g1 g2 g3 => ?_⟩
    · have : i = 0 := by omega
      rw [this]
      exact Int.le_refl _
    · obtain ⟨t, rfl⟩ := hv b' v' g1
      have bl : b' < ns.length := by
        have := (Array.getElem?_eq_some_iff.mp g1).1
        simpa [hlen] using this
      refine h1 h2 tk2 _ t (fun b o e => ?_) ?_ fun a ha => ?_
      · have lt := Heap.lt_size e
        exact g3 b o (Nat.ne_of_lt lt) (Nat.ne_of_lt (Nat.lt_succ_of_lt lt)) ((sb.2 b (Nat.ne_of_lt (Nat.lt_succ_of_lt lt))).trans (kept b o (by simpa using Nat.ne_of_lt lt) (Heap.get?_push_of_some _ (Heap.get?_push_of_some _ e))))
      · rw [List.getD_eq_getElem?_getD, List.getElem?_eq_getElem bl]
        exact List.getElem_mem bl
      · obtain ⟨j, hj, rfl⟩ := List.getElem_of_mem ha
        have := g2 j (by simpa [hlen] using hj)
        rw [show ns.getD j 0 = ns[j] by rw [List.getD_eq_getElem?_getD, List.getElem?_eq_getElem hj] <;> rfl] at this
        exact this
end
/-- min(xs, default=d) -/
def rMinD (K : PySem.W.Frag) : List V → List V → Hp → VK → Prop := fun vs zs H Q => ∃ (a : Addr) (ns : List Int) (d : V), vs = [V.ref a] ∧ zs = [d] ∧ SqL K H a (ns.map V.int) ∧ (ns = [] → Q d H) ∧ ∀ m, m ∈ ns → (∀ y, y ∈ ns → m ≤ y) → Q (.int m) H
theorem cr_minD {X : Cx} (hc : X.calm = true) : CallRK X (.builtin "min") ["default"] (rMinD X.K) := by
  intro pins s σ H xs zs us ws Q I r1 r2 h
  obtain ⟨a, ns, d, rfl, rfl, hs, q0, q1⟩ := h
  obtain ⟨its, rv, hl, _⟩ := I.list hs
  rw [Vals.ref1 r1]
  cases r2 with
  | cons rd t =>
    cases t
    exact minD_raw (I.ok.hd hc) hl.isList rv.ints (fun h' tk k e => ⟨d, H, I.kept k, rd, q0 e⟩) fun h' tk m t' k m1 m2 => ⟨.int m, H, I.kept k, ⟨_, rfl⟩, q1 m m1 m2⟩
end Zn

namespace PySem
namespace EzValue
open PySem.W PySem.Calls PyProof.Rows PySem.HandSPX
/-! ### the text of __init__ -/
def iA (p1 p2 : Pos) : Arguments := { posonlyargs := [], args := [{ arg := "self", annotation := none, pos := p1 }, { arg := "value", annotation := none, pos := p2 }], vararg := none, kwonlyargs := [], kw_defaults := [], kwarg := none, defaults := [] }
def iB (q1 q2 q3 q4 : Pos) : List Stmt := [.Assign [.Attribute (.Name "self" q1) "value" q2] (.Name "value" q3) q4]
def iS : Scope := { kind := .function, names := [(PySem.Str.ofString "self", .local), (PySem.Str.ofString "value", .local)], isGenerator := false, isCoroutine := false, more := [] }
/-- what the written part says of Low, at C, and of its __init__, at fI -/
structure LowTxt (K : Frag) (mg : Str → Option Value) (nm : Str) (qn : String) (C fI : Addr) : Prop where
  gC : mg nm = some (.ref C)
  cls : ∃ nmC q N bs bm sn sub ab col dd k0 k1 k2 k3 k5, K.lookup C = some (excClassObj nmC q C N bs bm true sn sub ab col dd k0 k1 k2 k3 k5 "ValueError.__new__") ∧ refsVE bm = true
  sa : findIn K (.ref C) "__setattr__" = some (some (.builtin "object.__setattr__"))
  ga : findIn K (.ref C) "__getattribute__" = some (some (.builtin "BaseException.__getattribute__"))
  gg : findIn K (.ref C) "__getattr__" = some none
  noN : findIn K (.ref C) "value" = some none
  iC : findIn K (.ref C) "__init__" = some (some (.ref fI))
  tC : typeIn K (.ref fI) = some (.type "function")
  kC : keepIn K (.ref C) = true
  exC : subIn K (.ref C) (.type "BaseException") = some true
  tyC : typeIn K (.ref C) = some (.type "type")
  hdC : hasDictIn K C = true
  te : exmOne K (.ref C) (.ref C) = some true
  fn : ∃ (oc : Value) (od : Option Addr) (doc pm : Value) (an : Option Addr) (cdv ct : Value) (osl : Array (Option Value)) (p1 p2 q1 q2 q3 q4 : Pos),
    K.lookup fI = some ⟨oc, od, .func (fnOf "__init__" qn (iA p1 p2) (iB q1 q2 q3 q4) iS .none .none doc pm an cdv ct), osl⟩ ∧ codeIn K cdv qn = true
theorem one_size (v : Value) : [v].length ≤ sizeLine := by
  rw [sizeLine_eq]
  exact (by decide : 1 ≤ 16777216)
theorem kept_but {K : Frag} {h h' : Heap} {x : Addr} (X : K.In h) (hx : K.lookup x = none) (k : ∀ b o, b ≠ x → h.get? b = some o → h'.get? b = some o) : K.In h' := fun a o e =>
  k a o (fun z => by rw [z, hx] at e; cases e) (X a o e)
theorem ldC {M : Model} {s : Shared} {name : Str} {scope : Scope} {L a : Addr} {cd : Value} {m : Str → Option Value} {x : Str} {pos : Pos} {v : Value} {Q : Value → Shared → Prop} {A : Around} {E : Value → Shared → Prop} (hn : s.heap.Ns L m) (hv : m x = some v) (h : Q v s)
    (hk : scope.kind = .function := by rfl) (hl : (envOfC name scope L a cd).kindOf x = some .local := by rfl) (hd : (x == ("__debug__" : Str)) = false := by decide) :
    wpAny M A (eval (.Name x pos) (envOfC name scope L a cd)) Q E s := wpAny_Name (wpAny_loadName_local hk hl hn hv h) hd
/-- what __init__ leaves of a fresh exception at x -/
structure InitEnd (h h' : Heap) (x C dx t1 : Addr) (v : Value) : Prop where
  keep : ∀ b o, b ≠ x → h.get? b = some o → h'.get? b = some o
  obj : h'.get? x = some { cls := .ref C, dict := some dx, data := .fields #[.ref t1, .none, .none, .none, .bool false, .none] }
  dbig : h.objs.size ≤ dx
  dne : dx ≠ x
  ns : h'.Ns1 dx (fun y => if y = "value" then some v else none)
/-- a made Low -/
structure OwnMade (h h' : Heap) (e C d : Addr) (v : Value) : Prop where
  keep : ∀ b o, h.get? b = some o → h'.get? b = some o
  new : h.objs.size ≤ e
  obj : ∃ oe vs, h'.get? e = some oe ∧ oe.cls = .ref C ∧ oe.dict = some d ∧ oe.data = .fields vs ∧ vs[1]? = some .none
  dbig : h.objs.size ≤ d
  dne : d ≠ e
  ns : h'.Ns1 d (fun y => if y = "value" then some v else none)
section
variable {prog : Program} {w : World} {A : Around} {E : Value → Shared → Prop} {R : Result → Shared → Prop} {s : Shared} {K : Frag} {mg : Str → Option Value} {nm : Str} {qn : String} {C fI : Addr}
theorem low_init (T : LowTxt K mg nm qn C fI) {x t0 : Addr} {v : Value} (X : K.In s.heap) (hlim : s.heap.NoLimit) (hx : s.heap.get? x = some (excO C t0)) (hnx : K.lookup x = none) (hroom : A.depth < recursionLimit)
    (hq : ∀ h' tk dx, InitEnd s.heap h' x C dx t0 v → R (.ok (.ret .none)) { s with heap := h', toks := tk }) :
    codeAny (model prog w) A (.call (.ref fI) ⟨[.ref x, v], []⟩) R s := by
  obtain ⟨oc, od, doc, pm, an, cdv, ct, osl, p1, p2, q1, q2, q3, q4, ho, hcd⟩ := T.fn
  obtain ⟨nmC, q, N, bs, bm, sn, sub, ab, col, dd, k0, k1, k2, k3, k5, hC, hbm⟩ := T.cls
  have hcl : clsIn K C = some { name := nmC, bases := bs, mro := .ref C :: bm, ns := N, qualname := q, hasDict := true, slotNames := sn, subclasses := sub, abstract := ab, collection := col, hasDel := false } := by unfold clsIn; rw [hC] <;> rfl
  refine Att.call_fn (binds := [("self", .ref x), ("value", v)]) X hlim ho hcd hroom (BindsTo.of_eq (by first | rfl | with_unfolding_all rfl)) (by first | rfl | decide | with_unfolding_all rfl) (fun s₁ IC => ?_) rfl rfl rfl
  obtain ⟨h₁, tk₁, rfl⟩ := IC.toInCall.same
  have k : ∀ b o, s.heap.get? b = some o → h₁.get? b = some o := IC.toInCall.keep
  have hn := IC.toInCall.ns
  have hxL : s.heap.objs.size ≠ x := Nat.ne_of_gt (Heap.lt_size hx)
  have X₁ : K.In h₁ := X.keeps k
  have hx₁ := k _ _ hx
  -- self.by = by
  show wpAny _ _ (execs _ _) _ _ _
  refine wpAny_execs_cons (plainObj_wpAny_Assign_Attribute ?_)
  refine ldC (v := v) hn (by first | rfl | with_unfolding_all rfl | kernel_rfl) (ldC (v := .ref x) hn (by first | rfl | with_unfolding_all rfl | kernel_rfl) ?_)
  refine set_plain X₁ (ox := excO C t0) (od := none) ⟨hx₁, rfl, rfl, trivial⟩ T.sa ?_
  refine exc_osa X₁ hx₁ hcl (show refsVE (.ref C :: bm) = true from hbm) rfl T.noN (fun h₃ tk₃ dx k₃ dn dne hx₃ hn₃ => ?_)
  show wpAny _ _ (execs _ _) _ _ _
  have z : s.heap.objs.size < h₁.objs.size := hn.lt
  exact wpAny_execs_nil (hq h₃ tk₃ dx ⟨fun b o hb e => k₃ b o hb (k b o e), hx₃, Nat.le_of_lt (Nat.lt_of_lt_of_le z dn), dne, hn₃⟩)
theorem low_made (T : LowTxt K mg nm qn C fI) {v : Value} (X : K.In s.heap) (hlim : s.heap.NoLimit) (hroom : A.depth + 1 < recursionLimit)
    (hq : ∀ h' tk e d, OwnMade s.heap h' e C d v → R (.ok (.ret (.ref e))) { s with heap := h', toks := tk }) :
    codeAny (model prog w) A (.call (.ref C) ⟨[v], []⟩) R s := by
  obtain ⟨nmC, q, N, bs, bm, sn, sub, ab, col, dd, k0, k1, k2, k3, k5, hC, hbm⟩ := T.cls
  obtain ⟨hp, g, dr, tk, os⟩ := s
  have k : ∀ b o, hp.get? b = some o → ((hp.push (kdv_tup [v])).push (excO C hp.objs.size)).get? b = some o := fun b o e => Heap.get?_push_of_some _ (Heap.get?_push_of_some _ e)
  have hget : ((hp.push (kdv_tup [v])).push (excO C hp.objs.size)).get? (hp.objs.size + 1) = some (excO C hp.objs.size) := by heap_get
  have hnx : K.lookup (hp.objs.size + 1) = none := by
    cases e : K.lookup (hp.objs.size + 1) with
    | none => rfl
    | some o =>
      have z : hp.get? (hp.objs.size + 1) = some o := X _ _ e
      exact absurd (Nat.lt_of_succ_lt (Heap.lt_size z)) (Nat.lt_irrefl _)
  refine call_own F.excBase_ValueError (fun X => refsVE_contains X bm hbm) (X _ _ hC) (looks_findIn X T.iC) (fun self => bind_fn X self T.tC) (one_size v) ?_
  refine low_init (s := ⟨(hp.push (kdv_tup [v])).push (excO C hp.objs.size), g, dr, tk, os⟩) T (X.keeps k) (hlim.keeps k) hget hnx ?_ fun h' tk' dx ⟨k', hx, dn, dne, hns⟩ => ?_
  · show A.depth + 1 < recursionLimit
    exact hroom
  · have old : ∀ b o, hp.get? b = some o → h'.get? b = some o := fun b o e => k' b o (Nat.ne_of_lt (Nat.lt_succ_of_lt (Heap.lt_size e))) (k b o e)
    have z : hp.objs.size + 1 + 1 ≤ dx := by
      first
        | (simpa only [Heap.size_push] using dn)
        | exact dn
        | (have q := dn; rw [Heap.size_push, Heap.size_push] at q; exact q)
    exact ⟨rfl, hq h' tk' (hp.objs.size + 1) dx ⟨old, Nat.le_succ _, ⟨_, _, hx, rfl, rfl, rfl, rfl⟩, Nat.le_trans (Nat.le_trans (Nat.le_succ _) (Nat.le_succ _)) z, dne, hns⟩⟩
end
end EzValue
end PySem
namespace L2
open PySem PySem.Spec PyProof.Rows
theorem relO_value {v : V} {v' : Value} (r : RelV v v') (f : Str) : RelO (List.lookup f [(("value" : Str), v)]) (if f = "value" then some v' else none) := by
  by_cases hw : f = "value"
  · subst hw
    rw [if_pos rfl]
    have q : List.lookup ("value" : Str) [(("value" : Str), v)] = some v := by simp [List.lookup]
    rw [q]
    exact r
  · rw [if_neg hw]
    have qw : (f == ("value" : Str)) = false := by simpa using hw
    have q2 : List.lookup f [(("value" : Str), v)] = none := by simp [List.lookup, qw]
    rw [q2]
    trivial
section
variable {X : Cx} {nm : Str} {qn : String} {C fI : Addr}
/-- Low(e) -/
def tMk_value (C : Addr) (ta : TA) : L2.St → Hp → XK → Prop := fun σ H Q => ta σ H fun vs H1 => ∃ v, vs = [v] ∧ ∀ d, H1 d = none → Q (.ref C) (some d) (upd H1 d (.xd [(("value" : Str), v)]))
theorem pmk_value {a : Expr} {ta : TA} {p pos : Pos} {k : Nat} (T : PySem.EzValue.LowTxt X.K X.mg nm qn C fI) (hr : Room k X.A) (ha : PA X [a] ta) (hg : Gl X nm := by rfl) (hdb : (nm == ("__debug__" : Str)) = false := by decide)
    (he : starEach (a :: []) X.env = (false, eval a X.env) :: starEach [] X.env := by rfl) (hpl : (backTo pos (starEach [] X.env)).any (·.1) = false := by rfl) :
    PMk X (.Call (.Name nm p) [a] [] pos) (tMk_value C ta) := by
  intro pins s σ H Q I h
  refine wpAny_Call_Name_kw (ld_glob I hg T.gC ?_ hdb)
  refine PySem.W.callWith_K (h₀ := X.base) I.ok.mod.kin T.kC (thn (ha.run pos pins s σ H _ I h) fun us s1 hh => ?_) he hpl
  obtain ⟨vs, H1, I1, r1, v, ev, q1⟩ := hh
  subst ev
  refine ⟨I1.kIn, ?_⟩
  cases r1 with
  | cons rv rn =>
    rename_i v' us'
    cases rn
    show wpAny _ _ (call (.ref C) [v']) _ _ _
    have hlim := I1.nolimit
    obtain ⟨hp, g, dr, tk, os⟩ := s1
    refine wpAny_call (PySem.EzValue.low_made T I1.kIn hlim (by have := hr.dp; omega) fun h' tk' e d M => ?_)
    show MkP X pins σ Q (.ref e) ⟨h', g, dr, tk', os⟩
    obtain ⟨oe, fv, hoe, hc, hd, hdat, h1⟩ := M.obj
    have hns := M.ns
    obtain ⟨G', g1, g2⟩ := restrict h' fun b => decide (b ≠ e)
    have gk : ∀ b, b ≠ e → G'.get? b = h'.get? b := fun b hb => g1 b (decide_eq_true hb)
    have ge : G'.get? e = none := g2 e (by simp)
    have old : ∀ b o, hp.get? b = some o → G'.get? b = some o := fun b o q => (gk b (Nat.ne_of_lt (Nat.lt_of_lt_of_le (Heap.lt_size q) M.new))).trans (M.keep b o q)
    have ob : ObjOk X.prog X.w (upd H1 d (.xd [(("value" : Str), v)])) G' d (.xd [(("value" : Str), v)]) :=
      ⟨_, hns.at (fun o q => (gk d M.dne).trans q), fun f => relO_value rv f⟩
    have J : Inv X pins σ (upd H1 d (.xd [(("value" : Str), v)])) ⟨G', g, dr, tk', os⟩ := I1.laid (t' := tk') old M.dbig ob
    refine ⟨e, oe, fv, ⟨G', g, dr, tk', os⟩, _, .ref C, some d, rfl, J, fun b o q => ?_, ge, hoe, ⟨hc, hd⟩, hdat, h1, ?_, rfl, I1.bare, raises_own T.exC T.tyC, q1 d (I1.hok.fresh M.dbig)⟩
    · by_cases hb : b = e
      · have q' : G'.get? b = some o := q
        rw [hb, ge] at q'; cases q'
      · exact (gk b hb).symm.trans q
    · rw [upd_ne (Ne.symm M.dne)]
      exact I1.hok.fresh M.new
/-- raise Low(e) -/
def tRaise_value (C : Addr) (W : WX) (ta : TA) : TS := fun _ σ H => tMk_value C ta σ H fun cls d H' => W cls d σ H'
theorem ps_raise_value {a : Expr} {ta : TA} {W : WX} {p pos pos2 : Pos} {k : Nat} (hc : X.calm = true) (T : PySem.EzValue.LowTxt X.K X.mg nm qn C fI) (hr : Room k X.A) (tk : Takes X W) (ha : PA X [a] ta) (hg : Gl X nm := by rfl) (hdb : (nm == ("__debug__" : Str)) = false := by decide)
    (he : starEach (a :: []) X.env = (false, eval a X.env) :: starEach [] X.env := by rfl) (hpl : (backTo pos (starEach [] X.env)).any (·.1) = false := by rfl) :
    PS X (.Raise (some (.Call (.Name nm p) [a] [] pos)) none pos2) (tRaise_value C W ta) := ps_raise hc tk (pmk_value T hr ha hg hdb he hpl)
/-- low.by, low the exception that the suite holds (at a; its class cls, its dict d) -/
def tBy_value (C : Addr) (a : Addr) (cls : Value) (d : Option Addr) (te : TE) : TE := fun σ H Q => te σ H fun x H1 => x = .ref a ∧ cls = .ref C ∧ ∃ (dd : Addr) (v : V), d = some dd ∧ H1 dd = some (.xd [(("value" : Str), v)]) ∧ Q v H1
theorem pe_by_value {a : Addr} {oe : Obj} {cls : Value} {d : Option Addr} {pn : List (Addr × Obj)} {e : Expr} {te : TE} {pos : Pos} (T : PySem.EzValue.LowTxt X.K X.mg nm qn C fI) (hz : Zc cls d oe) (hf : ∃ vs, oe.data = .fields vs) (he : PE (X.suite a ((a, oe) :: pn)) e te)
    (hb : attributeBase e "value" X.env (eval e X.env) = eval e X.env := by rfl) :
    PE (X.suite a ((a, oe) :: pn)) (.Attribute e "value" pos) (tBy_value C a cls d te) := by
  refine ⟨fun pins s σ H Q I h => ?_⟩
  refine attr_of hb (thn (he.run pins s σ H _ I h) fun u s1 hh => ?_)
  obtain ⟨x, H1, I1, rx, ex, ec, dd, v, ed, ea, q⟩ := hh
  subst ex
  obtain rfl : u = Value.ref a := rx
  subst ec
  subst ed
  obtain ⟨ha, _⟩ := I1.pin (a, oe) (List.mem_append_left _ List.mem_cons_self)
  obtain ⟨vs, hd⟩ := hf
  have hx : ObjOk X.prog X.w H1 s1.heap dd (.xd [(("value" : Str), v)]) := I1.hok dd _ ea
  obtain ⟨mA, hns, hr⟩ := hx
  obtain ⟨od, ho, hl⟩ := lookIn_ns hns
  have l : List.lookup ("value" : Str) [(("value" : Str), v)] = some v := by simp [List.lookup]
  obtain ⟨u, hu, ru⟩ := RelO.some_of (v := v) (o := mA "value") (by rw [← l]; exact hr "value")
  have J : PySem.W.InstAt s1.heap a oe C (some od) := ⟨ha, hz.1, by unfold PySem.W.notCls; rw [hd] <;> rfl, by rw [hz.2]; exact ho⟩
  exact HandSPX.exc_get I1.kIn J T.ga T.gg T.exC (PySem.W.findObj_own T.hdC T.noN rfl (by rw [hl, hu])) (handed_of ru) ⟨v, H1, I1.tok _, ru, q⟩
end
end L2


namespace Gd
open PySem PySem.Spec PyProof.Rows L2
/-- an except clause: its class, the slot of its name, what its suite reads -/
structure Cl where
  c : Value
  i : Option Nat
  ts : Addr → Value → Option Addr → TS
/-- behind the suite of a clause with a name the name is gone -/
def gone (D : Ends) (i : Nat) : Ends :=
  { nx := fun σ H => D.nx (σ.set i none) H, rt := D.rt, bk := fun σ H => D.bk (σ.set i none) H, ct := fun σ H => D.ct (σ.set i none) H }
/-- what the suite of a clause is asked -/
def atCl (q : Cl) (D : Ends) (a : Addr) (cls : Value) (d : Option Addr) (σ : L2.St) (H : Hp) : Prop :=
  match q.i with
  | some i => q.ts a cls d (gone D i) (σ.set i (some (.ref a))) H
  | none => q.ts a cls d D σ H
/-- what the clauses wish of an exception; where none of the told ones takes it, that can't be -/
def wCl (K : PySem.W.Frag) (D : Ends) : List Cl → WX
  | [] => fun _ _ _ _ => False
  | q :: r => fun cls d σ H => ∃ b, PySem.W.exmOne K cls q.c = some b ∧ (b = true → ∀ a, H a = none → atCl q D a cls d σ H) ∧ (b = false → wCl K D r cls d σ H)
inductive HdG (X : Cx) : List ExceptHandler → List Cl → Prop
  | stop (hds : List ExceptHandler) : HdG X hds []
  | as {x n : Str} {i : Nat} {c : Value} {ts : Addr → Value → Option Addr → TS} {b₀ : Stmt} {suite : List Stmt} {np ps : Pos} {hds : List ExceptHandler} {l : List Cl} (hi : X.N[i]? = some n) (hl : X.env.kindOf n = some .local) (hc : Names X x c)
      (hsu : ∀ (a : Addr) (oe : Obj) (cls : Value) (d : Option Addr) (pn : List (Addr × Obj)), Zc cls d oe → (∃ vs, oe.data = .fields vs) → PSs (X.suite a ((a, oe) :: pn)) (b₀ :: suite) (ts a cls d)) (r : HdG X hds l) :
      HdG X (.ExceptHandler (some (.Name x np)) (some n) (b₀ :: suite) ps :: hds) (⟨c, some i, ts⟩ :: l)
  | bare {x : Str} {c : Value} {ts : Addr → Value → Option Addr → TS} {b₀ : Stmt} {suite : List Stmt} {np ps : Pos} {hds : List ExceptHandler} {l : List Cl} (hc : Names X x c)
      (hsu : ∀ (a : Addr) (oe : Obj) (cls : Value) (d : Option Addr) (pn : List (Addr × Obj)), Zc cls d oe → (∃ vs, oe.data = .fields vs) → PSs (X.suite a ((a, oe) :: pn)) (b₀ :: suite) (ts a cls d)) (r : HdG X hds l) :
      HdG X (.ExceptHandler (some (.Name x np)) none (b₀ :: suite) ps :: hds) (⟨c, none, ts⟩ :: l)
section
variable {X : Cx} {body : List Stmt} {h₀ : ExceptHandler} {hds : List ExceptHandler} {l : List Cl} {pos : Pos} {tb : WX → TS}
theorem ps_tryG (hs : X.stack = X.env :: X.outer) (hf : X.env.frame = some X.env.locals) (hN : X.N.Nodup)
    (hb : ∀ (W : WX) (pn : List (Addr × Obj)) (xe : Value → Shared → Prop), Takes (X.tr pn xe) W → PassesOwn (model X.prog X.w) X.A X.env xe → PSs (X.tr pn xe) body (tb W))
    (hh : HdG X (h₀ :: hds) l) : PS X (.Try body (h₀ :: hds) [] [] pos) (fun D σ H => tb (wCl X.K D l) D σ H) := by
  refine ⟨fun pins s σ H D I h => ?_⟩
  have ok := I.ok
  have hfr : X.A.frames = some (X.env :: X.outer) := ok.frames.trans (congrArg some hs)
  refine wpAny_Try_except (wpAny_mono ((hb (wCl X.K D l) (X.pn ++ pins) _ ?caught PassesOwn.looking).run [] s σ H D (I.toTry _) h) ?norm fun _ _ z => z)
  case norm =>
    intro f s1 hsp
    match f, hsp with
    | .next, ⟨σ', H', J, q⟩ => exact wpAny_execs_nil ⟨σ', H', J.ofTry ok, q⟩
    | .brk, ⟨σ', H', J, q⟩ => exact ⟨σ', H', J.ofTry ok, q⟩
    | .cont, ⟨σ', H', J, q⟩ => exact ⟨σ', H', J.ofTry ok, q⟩
    | .ret u, ⟨v, σ', H', J, r, q⟩ => exact ⟨v, σ', H', J.ofTry ok, r, q⟩
  case caught =>
    intro u s' xx
    obtain ⟨a, B, sI, pins', σ', H', cls, d, rfl, J', nb, up, sky, na, os, ag, w⟩ := xx
    have J : Inv X pins σ' H' sI := J'.ofTry ok
    rw [show (X.tr (X.pn ++ pins) _).stack = X.env :: X.outer from hs] at sky
    show wpAny _ X.A (noteFrame (.ref a) X.env) _ _ _
    refine Sky.land Zc.steady hfr hf sky fun h3 fl3 up3 => ?_
    have J3 : Inv X pins σ' H' { s' with heap := h3 } := J.landed nb fl3.1 (up.trans up3) os ag
    obtain ⟨oe3, vs3, he3, hz3, hd3⟩ := fl3.there
    have nfr : a ∉ frs (X.env :: X.outer) := fun hm => by
      obtain ⟨_, o, e, hn⟩ := fl3.2.2.1.mem hm
      rw [he3] at e
      cases e
      exact hn _ hd3
    have nL : a ≠ X.env.locals := fun z => nfr (List.mem_filterMap.mpr ⟨X.env, List.mem_cons_self, by rw [hf, z]⟩)
    have nF : a ∉ X.fs := fun hm => nfr (let ⟨e, he, q⟩ := List.mem_filterMap.mp hm; List.mem_filterMap.mpr ⟨e, List.mem_cons_of_mem _ he, q⟩)
    have S3 := J3.suite he3 hd3 na nL nF
    have LT : PySem.W.Looks (model X.prog X.w) h3 (typeOf (.ref a)) cls := fun A Q E s k q => wpAny_typeOf_ref (k _ _ he3) (by rw [hz3.1]; exact q)
    have test : ∀ {x : Str} {c : Value} {np : Pos} {Q E : Value → Shared → Prop}, Names X x c → Q c { s' with heap := h3 } → wpAny (model X.prog X.w) (X.A.mark (some (.ref a))) (eval (.Name x np) X.env) Q E { s' with heap := h3 } := by
      rintro x c np Q E ⟨hg, hdb, hm | ⟨hm, hv, hn⟩⟩ q
      · exact ld_glob (X := X.suite a ((a, oe3) :: (X.pn ++ pins))) S3 hg hm q hdb
      · exact ld_blt (X := X.suite a ((a, oe3) :: (X.pn ++ pins))) S3 hg hm hv q hn hdb
    suffices go : ∀ {hs : List ExceptHandler} {cl : List Cl}, HdG X hs cl → wCl X.K D cl cls d σ' H' → wpAny (model X.prog X.w) X.A (handleBy (.ref a) X.env hs) (SP X pins D) X.xe { s' with heap := h3 } from go hh w
    intro hs' cl k
    induction k with
    | stop => exact fun w => w.elim
    | @as x n i c ts b₀ suite np ps hds l hi hl hc hsu r ih =>
      rintro ⟨b, hb1, yes, no⟩
      have hb2 := PySem.W.exm_one (M := model X.prog X.w) J3.kIn LT hb1
      refine wpAny_handleBy_cons (codeAny_handlers_test (test hc (hb2.here ?_))) (fun q => nomatch q)
      cases b with
      | false => exact ih (no rfl)
      | true =>
        refine codeAny_handlers_suite_as (HandSPX.lands_againZ fl3 fun h4 fl4 up4 => ?_)
        have J4 : Inv X pins σ' H' { s' with heap := h4 } := J.landed nb fl4.1 ((up.trans up3).trans up4) os ag
        obtain ⟨oe4, vs4, he4, hz4, hd4⟩ := fl4.there
        refine store_ok (X := X.suite a ((a, oe4) :: (X.pn ++ pins))) (v := .ref a) (J4.suite he4 hd4 na nL nF) hN hi (.inl hl) rfl (fun s5 S5 => ?_) (.inr hl)
        refine wpAny_mono ((hsu a oe4 cls d (X.pn ++ pins) hz4 ⟨_, hd4⟩).run [] s5 _ H' (gone D i) S5 (yes rfl a na)) (fun f s6 hsp => ?_) fun _ _ z => z.elim
        have fin : ∀ {σ6 : L2.St} {H6 : Hp} {Q : Shared → Prop}, Inv (X.suite a ((a, oe4) :: (X.pn ++ pins))) [] σ6 H6 s6 → (∀ s7, Inv X pins (σ6.set i none) H6 s7 → Q s7) →
          wpAny (model X.prog X.w) X.A (do bindName X.env n .none; unbindBehindTheSuite X.env n ps) (fun _ s7 => Q s7) X.xe s6 := fun S6 hq => gone_ok (S6.unsuite ok) hN hi hl hq
        match f, hsp with
        | .next, ⟨σ6, H6, S6, q6⟩ => exact fin S6 fun s7 J7 => ⟨_, _, J7, q6⟩
        | .brk, ⟨σ6, H6, S6, q6⟩ => exact fin S6 fun s7 J7 => ⟨_, _, J7, q6⟩
        | .cont, ⟨σ6, H6, S6, q6⟩ => exact fin S6 fun s7 J7 => ⟨_, _, J7, q6⟩
        | .ret u, ⟨v6, σ6, H6, S6, r6, q6⟩ => exact fin S6 fun s7 J7 => ⟨_, _, _, J7, r6, q6⟩
    | @bare x c ts b₀ suite np ps hds l hc hsu r ih =>
      rintro ⟨b, hb1, yes, no⟩
      have hb2 := PySem.W.exm_one (M := model X.prog X.w) J3.kIn LT hb1
      refine wpAny_handleBy_cons (codeAny_handlers_test (test hc (hb2.here ?_))) (fun q => nomatch q)
      cases b with
      | false => exact ih (no rfl)
      | true =>
        refine codeAny_handlers_suite (HandSPX.lands_againZ fl3 fun h4 fl4 up4 => ?_)
        have J4 : Inv X pins σ' H' { s' with heap := h4 } := J.landed nb fl4.1 ((up.trans up3).trans up4) os ag
        obtain ⟨oe4, vs4, he4, hz4, hd4⟩ := fl4.there
        refine wpAny_mono ((hsu a oe4 cls d (X.pn ++ pins) hz4 ⟨_, hd4⟩).run [] _ _ H' D (J4.suite he4 hd4 na nL nF) (yes rfl a na)) (fun f s6 hsp => ?_) fun _ _ z => z.elim
        match f, hsp with
        | .next, ⟨σ6, H6, S6, q6⟩ => exact ⟨_, _, S6.unsuite ok, q6⟩
        | .brk, ⟨σ6, H6, S6, q6⟩ => exact ⟨_, _, S6.unsuite ok, q6⟩
        | .cont, ⟨σ6, H6, S6, q6⟩ => exact ⟨_, _, S6.unsuite ok, q6⟩
        | .ret u, ⟨v6, σ6, H6, S6, r6, q6⟩ => exact ⟨_, _, _, S6.unsuite ok, r6, q6⟩
end
end Gd

namespace Gd
open PySem PySem.Spec PyProof.Rows L2
/-- a call of a def: the written arguments, then the defaults; what may be let out, at the slots -/
def tCallG (sp : Sp) (dvs : List V) (E : L2.St → XK) (t : TA) : TE := fun σ H Q => t σ H fun vs H1 => sp (vs ++ dvs) H1 Q (E σ)
/-- .. with keywords -/
def tCallH (n m : Nat) (sp : Sp) (gV : List V → List V → List V) (E : L2.St → XK) (t tk : TA) : TE := fun σ H Q => t σ H fun vs H1 => tk σ H1 fun zs H2 => vs.length = n ∧ zs.length = m ∧ sp (gV vs zs) H2 Q (E σ)
section
variable {X : Cx} {CX : CXT} {k n : Nat} {f : Addr} {fd : FuncData} {ps ks : List Str} {sp : Sp} {dvs : List V} {ds : List Value} {E : L2.St → XK} {x : Str} {p pos : Pos} {e : Expr} {es : List Expr} {t tk : TA} {kws : List Keyword}
  {g : List Value → List Value → List Value} {gV : List V → List V → List V}
theorem passN {σ : L2.St} : PassesAt CX0 X σ E0 := fun _ _ _ _ _ _ h => h.elim
theorem passM {σ : L2.St} : PassesAt (L2.CX X.prog X.w) X σ E0 := fun _ _ _ _ _ _ h => by
  obtain ⟨_, _, _, _, _, _, _, _, _, _, _, _, z⟩ := h
  exact z.elim
theorem endC {pins : List (Addr × Obj)} {σ : L2.St} {H : Hp} {s s' : Shared} {Q : VK} {E1 : XK} {r : Result} (hx : PassesAt CX X σ E1) (I : Inv X pins σ H s) (hq : CR CX X.stack X.prog X.w H s Q E1 r s') :
    match (motive := Result → Prop) r with
    | .ok (.ret v) => EP X pins σ Q v s'
    | .ok _ => False
    | .error e => X.xe e s' := by
  match r, hq with
  | .error e, hq => exact hx pins H s e s' I hq
  | .ok (.ret u), hq => exact I.after hq
  | .ok .next, hq => exact False.elim hq
  | .ok .brk, hq => exact False.elim hq
  | .ok .cont, hq => exact False.elim hq
theorem runC {pins : List (Addr × Obj)} {σ : L2.St} {H : Hp} {s : Shared} {Q : VK} {us : List Value} {vs : List V} (F : FnG X.prog X.w X.K X.mg X.base CX k f fd ps sp) (hc : Clean X.A) (hr : Room k X.A)
    (hb : Binds X.K fd ps ds) (hd : Vals dvs ds) (hx : PassesAt CX X σ (E σ)) (I : Inv X pins σ H s) (r : Vals vs us) (h : sp (vs ++ dvs) H Q (E σ)) :
    wpAny (model X.prog X.w) X.A (call (.ref f) us) (EP X pins σ Q) X.xe s := by
  have r2 := r.append hd
  have hl : (us ++ ds).length = ps.length := r2.length ▸ F.len _ _ _ _ h
  refine wpAny_call (codeAny_mono (F.run X.A X.stack s H ⟨us, []⟩ (us ++ ds) (vs ++ dvs) Q (E σ) hc hr I.env0 (hb s us I.kIn hl) r2 h) ?_)
  intro r s' hq
  have z := endC hx I hq
  match r, z with
  | .error e, z => exact z
  | .ok (.ret u), z => exact z
  | .ok .next, z => exact False.elim z
  | .ok .brk, z => exact False.elim z
  | .ok .cont, z => exact False.elim z
theorem runH {pins : List (Addr × Obj)} {σ : L2.St} {H : Hp} {s : Shared} {Q : VK} {us ws : List Value} {vs zs : List V} (F : FnG X.prog X.w X.K X.mg X.base CX k f fd ps sp) (hc : Clean X.A) (hr : Room k X.A)
    (hb : KBn X.K fd ps n ks g gV) (hx : PassesAt CX X σ (E σ)) (I : Inv X pins σ H s) (r : Vals vs us) (rz : Vals zs ws) (l1 : vs.length = n) (l2 : zs.length = ks.length) (h : sp (gV vs zs) H Q (E σ)) :
    wpAny (model X.prog X.w) X.A (call (.ref f) us (ks.zip ws)) (EP X pins σ Q) X.xe s := by
  refine wpAny_call (codeAny_mono (F.run X.A X.stack s H ⟨us, ks.zip ws⟩ (g us ws) (gV vs zs) Q (E σ) hc hr I.env0 (hb.to s us ws I.kIn (r.length.symm.trans l1) (rz.length.symm.trans l2)) (hb.rel r rz) h) ?_)
  intro r s' hq
  have z := endC hx I hq
  match r, z with
  | .error e, z => exact z
  | .ok (.ret u), z => exact z
  | .ok .next, z => exact False.elim z
  | .ok .brk, z => exact False.elim z
  | .ok .cont, z => exact False.elim z
/-- f(e, ..) -/
theorem pe_c (F : FnG X.prog X.w X.K X.mg X.base CX k f fd ps sp) (hc : Clean X.A) (hr : Room k X.A) (hg : Gl X x) (hm : X.mg x = some (.ref f)) (hk : PySem.W.keepIn X.K (.ref f) = true)
    (hb : Binds X.K fd ps ds) (hd : Vals dvs ds) (hx : ∀ σ, PassesAt CX X σ (E σ)) (ha : PA X (e :: es) t) (hdb : (x == ("__debug__" : Str)) = false := by decide)
    (he : starEach (e :: es) X.env = (false, eval e X.env) :: starEach es X.env := by rfl) (hpl : (backTo pos (starEach es X.env)).any (·.1) = false := by rfl) :
    PE X (.Call (.Name x p) (e :: es) [] pos) (tCallG sp dvs E t) := by
  refine ⟨fun pins s σ H Q I h => wpAny_Call_Name_kw (ld_glob I hg hm ?_ hdb)⟩
  exact PySem.W.callWith_K (h₀ := X.base) I.ok.mod.kin hk (thn (ha.run pos pins s σ H _ I h) fun us s1 ⟨vs, H1, I1, r, q⟩ => ⟨I1.kIn, runC F hc hr hb hd (hx σ) I1 r q⟩) he hpl
/-- f() -/
theorem pe_c0 (F : FnG X.prog X.w X.K X.mg X.base CX k f fd ps sp) (hc : Clean X.A) (hr : Room k X.A) (hg : Gl X x) (hm : X.mg x = some (.ref f)) (hk : PySem.W.keepIn X.K (.ref f) = true)
    (hb : Binds X.K fd ps ds) (hd : Vals dvs ds) (hx : ∀ σ, PassesAt CX X σ (E σ)) (hdb : (x == ("__debug__" : Str)) = false := by decide) :
    PE X (.Call (.Name x p) [] [] pos) (tCallG sp dvs E tNil) := by
  refine ⟨fun pins s σ H Q I h => wpAny_Call_Name_kw (ld_glob I hg hm ?_ hdb)⟩
  exact PySem.W.callWith_K0 I.kIn hk (runC (us := []) F hc hr hb hd (hx σ) I .nil h)
/-- f(e, .., k = v, ..) -/
theorem pe_h (F : FnG X.prog X.w X.K X.mg X.base CX k f fd ps sp) (hc : Clean X.A) (hr : Room k X.A) (hg : Gl X x) (hm : X.mg x = some (.ref f)) (hk : PySem.W.keepIn X.K (.ref f) = true)
    (hb : KBn X.K fd ps n ks g gV) (hx : ∀ σ, PassesAt CX X σ (E σ)) (ha : PA X (e :: es) t) (hkw : PK X kws tk)
    (hall : (backToKw pos (keywordEach kws X.env)).all (·.1.isSome) = true := by rfl) (hks : (backToKw pos (keywordEach kws X.env)).filterMap (·.1) = ks := by rfl) (hdb : (x == ("__debug__" : Str)) = false := by decide)
    (he : starEach (e :: es) X.env = (false, eval e X.env) :: starEach es X.env := by rfl)
    (hpl : ((backTo pos (starEach (e :: es) X.env)).any (·.1) || (backToKw pos (keywordEach kws X.env)).any (·.1.isNone)) = false := by rfl) :
    PE X (.Call (.Name x p) (e :: es) kws pos) (tCallH n ks.length sp gV E t tk) := by
  refine ⟨fun pins s σ H Q I h => wpAny_Call_Name_kw (ld_glob I hg hm ?_ hdb)⟩
  refine PySem.W.callWith_KW (h₀ := X.base) I.ok.mod.kin hk hall (thn (ha.run pos pins s σ H _ I h) fun us s1 ⟨vs, H1, I1, r, q⟩ => ?_) hpl he
  refine thn (hkw.run pos pins s1 σ H1 _ I1 q) fun ws s2 ⟨zs, H2, I2, rz, l1, l2, q2⟩ => ⟨I2.kIn, ?_⟩
  rw [hks]
  exact runH F hc hr hb (hx σ) I2 r rz l1 l2 q2
/-- f(k = v, ..) -/
theorem pe_h0 (F : FnG X.prog X.w X.K X.mg X.base CX k f fd ps sp) (hc : Clean X.A) (hr : Room k X.A) (hg : Gl X x) (hm : X.mg x = some (.ref f)) (hk : PySem.W.keepIn X.K (.ref f) = true)
    (hb : KBn X.K fd ps 0 ks g gV) (hx : ∀ σ, PassesAt CX X σ (E σ)) (hkw : PK X kws tk)
    (hall : (backToKw pos (keywordEach kws X.env)).all (·.1.isSome) = true := by rfl) (hks : (backToKw pos (keywordEach kws X.env)).filterMap (·.1) = ks := by rfl) (hdb : (x == ("__debug__" : Str)) = false := by decide)
    (hpl : ((backTo pos (starEach [] X.env)).any (·.1) || (backToKw pos (keywordEach kws X.env)).any (·.1.isNone)) = false := by rfl) :
    PE X (.Call (.Name x p) [] kws pos) (tCallH 0 ks.length sp gV E tNil tk) := by
  refine ⟨fun pins s σ H Q I h => wpAny_Call_Name_kw (ld_glob I hg hm ?_ hdb)⟩
  refine PySem.W.callWith_KW0 (h₀ := X.base) I.ok.mod.kin hk hall (thn (hkw.run pos pins s σ H _ I h) fun ws s2 ⟨zs, H2, I2, rz, l1, l2, q2⟩ => ⟨I2.kIn, ?_⟩) hpl
  rw [hks]
  exact runH (us := []) F hc hr hb (hx σ) I2 .nil rz l1 l2 q2
end
end Gd

namespace Gd
open PySem PySem.Spec PyProof.Rows L2
/-! ### data as it stands in the heap, dicts among it -/
def kD : Key → PyData
  | .inl i => .int i
  | .inr x => .str x
mutual
inductive Da (K : PySem.W.Frag) (H : Hp) : V → PyData → Prop
  | non : Da K H .non .none
  | bl (b : Bool) : Da K H (.bl b) (.bool b)
  | int (i : Int) : Da K H (.int i) (.int i)
  | str (x : Str) : Da K H (.str x) (.str x)
  | lst {a : Addr} {xs : List V} {ds : List PyData} : H a = some (.lst xs) → DaL K H xs ds → Da K H (.ref a) (.list ds)
  | tup {a : Addr} {xs : List V} {ds : List PyData} : SqT K H a xs → DaL K H xs ds → Da K H (.ref a) (.tuple ds)
  | dct {a : Addr} {kvs : List (Key × V)} {ds : List PyData} : H a = some (.dK kvs) → DaL K H (kvs.map (·.2)) ds → Da K H (.ref a) (.dict ((kvs.map fun p => kD p.1).zip ds))
inductive DaL (K : PySem.W.Frag) (H : Hp) : List V → List PyData → Prop
  | nil : DaL K H [] []
  | cons {v : V} {vs : List V} {d : PyData} {ds : List PyData} : Da K H v d → DaL K H vs ds → DaL K H (v :: vs) (d :: ds)
end
section
variable {K : PySem.W.Frag} {H H' : Hp}
theorem DaL.length : ∀ {vs : List V} {ds : List PyData}, DaL K H vs ds → ds.length = vs.length
  | _, _, .nil => rfl
  | _, _, .cons _ r => by rw [List.length_cons, List.length_cons, r.length]
theorem sameT {a : Addr} {xs : List V} (e : Same H H') (h : SqT K H a xs) : SqT K H' a xs := by
  rcases h with (h | ⟨o, h⟩) | h
  · exact .inl (.inl (e _ _ h))
  · exact .inl (.inr ⟨o, e _ _ h⟩)
  · exact .inr h
mutual
theorem Da.same (e : Same H H') : ∀ {v : V} {d : PyData}, Da K H v d → Da K H' v d
  | _, _, .non => .non
  | _, _, .bl b => .bl b
  | _, _, .int i => .int i
  | _, _, .str x => .str x
  | _, _, .lst h r => .lst (e _ _ h) (DaL.same e r)
  | _, _, .tup h r => .tup (sameT e h) (DaL.same e r)
  | _, _, .dct h r => .dct (e _ _ h) (DaL.same e r)
theorem DaL.same (e : Same H H') : ∀ {vs : List V} {ds : List PyData}, DaL K H vs ds → DaL K H' vs ds
  | _, _, .nil => .nil
  | _, _, .cons h r => .cons (Da.same e h) (DaL.same e r)
end
theorem DaL.append : ∀ {vs ws : List V} {ds es : List PyData}, DaL K H vs ds → DaL K H ws es → DaL K H (vs ++ ws) (ds ++ es)
  | _, _, _, _, .nil, r => r
  | _, _, _, _, .cons h t, r => .cons h (DaL.append t r)
theorem DaL.strs : ∀ l : List Str, DaL K H (l.map V.str) (l.map PyData.str)
  | [] => .nil
  | x :: l => .cons (.str x) (DaL.strs l)
theorem DaL.ints : ∀ l : List Int, DaL K H (l.map V.int) (l.map PyData.int)
  | [] => .nil
  | x :: l => .cons (.int x) (DaL.ints l)
theorem DaL.bls : ∀ l : List Bool, DaL K H (l.map V.bl) (l.map PyData.bool)
  | [] => .nil
  | x :: l => .cons (.bl x) (DaL.bls l)
end
/-! ### what stands there is read -/
section
variable {X : Cx} {pins : List (Addr × Obj)} {σ : L2.St} {H : Hp} {s : Shared}
abbrev Free (as : List Addr) : Prop := sysModules ∉ as
theorem free_cons {a : Addr} {as : List Addr} (h : a ≠ sysModules) (r : Free as) : Free (a :: as) := fun m =>
  (List.mem_cons.mp m).elim (fun e => h e.symm) r
theorem free_app {as bs : List Addr} (h : Free as) (r : Free bs) : Free (as ++ bs) := fun m => (List.mem_append.mp m).elim h r
theorem notSys (I : Inv X pins σ H s) (hS : SysIn X.base) {a : Addr} {o : HO} (h : H a = some o) : a ≠ sysModules := by
  rintro rfl
  obtain ⟨ob, hb⟩ := hS
  rw [(I.bs _ _ hb).2] at h
  exact nomatch h
theorem key_reads : ∀ (kvs : List (Key × V)) (vs : List (Key × Value)) (es : List DictEntry), KV kvs vs → Pairs (mixKind X.prog X.w) es vs →
    (∃ as, ReadsAll s.heap (es.map (·.key)) (kvs.map fun p => kD p.1) as ∧ Free as) ∧ Vals (kvs.map (·.2)) (es.map (·.val))
  | _, _, _, .nil, .nil => ⟨⟨[], .nil, List.not_mem_nil⟩, .nil⟩
  | _, _, _, .cons ⟨ek, rv⟩ r, .cons hk hv p => by
    obtain ⟨⟨as, h1, h2⟩, h3⟩ := key_reads _ _ _ r p
    refine ⟨?_, .cons (by show RelV _ (DictEntry.val _); rw [hv]; exact rv) h3⟩
    rw [← ek] at hk
    rcases keyIs_shape hk with ⟨i, t, e1, e2⟩ | ⟨y, t, e1, e2⟩
    · refine ⟨[] ++ as, ?_, h2⟩
      refine .cons ?_ h1
      show Reads _ (DictEntry.key _) (kD _) []
      rw [e1, e2]
      exact .int i t
    · refine ⟨[] ++ as, ?_, h2⟩
      refine .cons ?_ h1
      show Reads _ (DictEntry.key _) (kD _) []
      rw [e1, e2]
      exact .str y t
theorem zip_fst : ∀ (ks ds : List PyData), ks.length = ds.length → (ks.zip ds).map (·.1) = ks
  | [], _, _ => rfl
  | _ :: _, [], h => nomatch h
  | k :: ks, d :: ds, h => by
    show k :: (ks.zip ds).map (·.1) = k :: ks
    rw [zip_fst ks ds (Nat.succ.inj h)]
theorem zip_snd : ∀ (ks ds : List PyData), ks.length = ds.length → (ks.zip ds).map (·.2) = ds
  | [], [], _ => rfl
  | [], _ :: _, h => nomatch h
  | _ :: _, [], h => nomatch h
  | k :: ks, d :: ds, h => by
    show d :: (ks.zip ds).map (·.2) = d :: ds
    rw [zip_snd ks ds (Nat.succ.inj h)]
mutual
theorem Da.reads (I : Inv X pins σ H s) (hS : SysIn X.base) : ∀ {v : V} {d : PyData} {u : Value}, Da X.K H v d → RelV v u → ∃ as, Reads s.heap u d as ∧ Free as
  | _, _, _, .non, r => by
    cases r
    exact ⟨_, .none, List.not_mem_nil⟩
  | _, _, _, .bl b, r => by
    cases r
    exact ⟨_, .bool b, List.not_mem_nil⟩
  | _, _, _, .int i, ⟨t, r⟩ => by
    cases r
    exact ⟨_, .int i t, List.not_mem_nil⟩
  | _, _, _, .str x, ⟨t, r⟩ => by
    cases r
    exact ⟨_, .str x t, List.not_mem_nil⟩
  | _, _, _, .lst h q, r => by
    cases r
    obtain ⟨_, its, n, rv, ho⟩ := I.hok _ _ h
    obtain ⟨as, h1, h2⟩ := DaL.reads I hS q rv
    exact ⟨_, .list ho rfl rfl h1, free_cons (notSys I hS h) h2⟩
  | _, _, _, .tup h q, r => by
    cases r
    obtain ⟨its, rv, ⟨o, ho, hc, n, hd⟩, _⟩ := I.tuple h
    obtain ⟨as, h1, h2⟩ := DaL.reads I hS q rv
    exact ⟨_, .tuple ho hc hd h1, h2⟩
  | _, _, _, .dct (kvs := kvs) (ds := ds) h q, r => by
    cases r
    obtain ⟨_, hns, vs, rk, o, es, ep, ho, hex, hd, _, hp, _⟩ := I.hok _ _ h
    obtain ⟨⟨as, k1, k2⟩, rv⟩ := key_reads (s := s) kvs vs es.toList rk hp
    obtain ⟨bs, v1, v2⟩ := DaL.reads I hS q rv
    have hl : (kvs.map fun p => kD p.1).length = ds.length := by
      rw [q.length, List.length_map, List.length_map]
    have k1' : ReadsAll s.heap (es.toList.map (·.key)) (((kvs.map fun p => kD p.1).zip ds).map (·.1)) as := by
      rw [zip_fst _ _ hl]
      exact k1
    have v1' : ReadsAll s.heap (es.toList.map (·.val)) (((kvs.map fun p => kD p.1).zip ds).map (·.2)) bs := by
      rw [zip_snd _ _ hl]
      exact v1
    exact ⟨_, .dict ho hex.1 hd k1' v1', free_app (free_cons (notSys I hS h) k2) v2⟩
theorem DaL.reads (I : Inv X pins σ H s) (hS : SysIn X.base) : ∀ {vs : List V} {ds : List PyData} {us : List Value}, DaL X.K H vs ds → Vals vs us → ∃ as, ReadsAll s.heap us ds as ∧ Free as
  | _, _, _, .nil, .nil => ⟨_, .nil, List.not_mem_nil⟩
  | _, _, _, .cons h q, .cons r rs => by
    obtain ⟨as, h1, h2⟩ := Da.reads I hS h r
    obtain ⟨bs, h3, h4⟩ := DaL.reads I hS q rs
    exact ⟨_, .cons h1 h3, free_app h2 h4⟩
end
end
/-! ### the room that a written form takes -/
mutual
/-- more than its written form has signs -/
def wid : PyData → Nat
  | .none => 4
  | .bool _ => 5
  | .int i => i.natAbs.log2 + 3
  | .str x => 10 * x.length + 2
  | .list xs => widL xs + 2
  | .tuple xs => widL xs + 3
  | .dict kvs => widK kvs + 2
def widL : List PyData → Nat
  | [] => 0
  | x :: xs => wid x + 2 + widL xs
def widK : List (PyData × PyData) → Nat
  | [] => 0
  | (k, v) :: r => wid k + wid v + 4 + widK r
end
mutual
/-- it can be written: the signs of its texts are signs, its numbers are not too great -/
def Ok1 : PyData → Prop
  | .none => True
  | .bool _ => True
  | .int i => i.natAbs.log2 < 1920
  | .str x => ∀ c ∈ x.cps.toList, c < 16 ^ 8
  | .list xs => OkL xs
  | .tuple xs => OkL xs
  | .dict kvs => OkK kvs
def OkL : List PyData → Prop
  | [] => True
  | x :: xs => Ok1 x ∧ OkL xs
def OkK : List (PyData × PyData) → Prop
  | [] => True
  | (k, v) :: r => Ok1 k ∧ Ok1 v ∧ OkK r
end

mutual
theorem ok_show : ∀ d : PyData, Ok1 d → d.showable = true
  | .none, _ => rfl
  | .bool _, _ => rfl
  | .int _, h => decide_eq_true h
  | .str _, _ => rfl
  | .list xs, h => ok_showL xs h
  | .tuple xs, h => ok_showL xs h
  | .dict kvs, h => ok_showK kvs h
theorem ok_showL : ∀ xs : List PyData, OkL xs → PyData.showableAll xs = true
  | [], _ => rfl
  | x :: xs, h => by
    show (PyData.showable x && PyData.showableAll xs) = true
    rw [ok_show x h.1, ok_showL xs h.2]
    rfl
theorem ok_showK : ∀ xs : List (PyData × PyData), OkK xs → PyData.showableKv xs = true
  | [], _ => rfl
  | (k, v) :: xs, h => by
    show (PyData.showable k && PyData.showable v && PyData.showableKv xs) = true
    rw [ok_show k h.1, ok_show v h.2.1, ok_showK xs h.2.2]
    rfl
end
theorem textFrom_le : ∀ (ts : List Str) (k : Nat) (acc : Str), (textFrom k acc ts).length ≤ acc.length + (ts.map fun t => t.length + 2).sum
  | [], _, acc => Nat.le_add_right _ _
  | t :: r, k, acc => by
    have ih := textFrom_le r (k + 1) (acc ++ (if k > 0 then ", " else "" : String) ++ t)
    rw [strLen_append, strLen_append] at ih
    have e : (((if k > 0 then ", " else "" : String) : Str)).length ≤ 2 := by split <;> decide +kernel
    rw [List.map_cons, List.sum_cons]
    show (textFrom (k + 1) (acc ++ (if k > 0 then ", " else "" : String) ++ t) r).length ≤ _
    omega
theorem listText_le (ts : List Str) : (listText ts).length ≤ 2 + (ts.map fun t => t.length + 2).sum := by
  have h := textFrom_le ts 0 "["
  have e1 : (("[" : String) : Str).length = 1 := by decide +kernel
  have e2 : (("]" : String) : Str).length = 1 := by decide +kernel
  unfold listText
  rw [strLen_append]
  omega
theorem piled_map : ∀ ts : List Str, piled ts = (ts.map fun t => t.length + 2).sum
  | [] => rfl
  | t :: r => by
    rw [piled_cons, piled_map r, List.map_cons, List.sum_cons]
theorem join_le (ts : List Str) : (Str.join ", " ts).length ≤ (ts.map fun t => t.length + 2).sum := by
  by_cases h : ts = []
  · subst h
    decide +kernel
  · have := join_length_add ts h
    rw [piled_map] at this
    omega
theorem tupleText_le (ts : List Str) : (tupleText ts).length ≤ 3 + (ts.map fun t => t.length + 2).sum := by
  have e3 : (((if ts.length == 1 then ",)" else ")" : String) : Str)).length ≤ 2 := by split <;> decide +kernel
  have e1 : (("(" : String) : Str).length = 1 := by decide +kernel
  have h := join_le ts
  unfold tupleText
  rw [strLen_append, strLen_append]
  omega
theorem dictText_le (ts : List Str) : (dictText ts).length ≤ 2 + (ts.map fun t => t.length + 2).sum := by
  have e1 : (("{" : String) : Str).length = 1 := by decide +kernel
  have e2 : (("}" : String) : Str).length = 1 := by decide +kernel
  have h := join_le ts
  unfold dictText
  rw [strLen_append, strLen_append]
  omega
mutual
theorem wid_le : ∀ d : PyData, Ok1 d → d.shown.length ≤ wid d
  | .none, _ => by show (("None" : String) : Str).length ≤ 4; decide +kernel
  | .bool b, _ => by cases b <;> (show Str.length _ ≤ 5) <;> decide +kernel
  | .int i, _ => by
    have h := int_text_length_le (a := i) (k := i.natAbs.log2 + 1) (Nat.succ_pos _) (Nat.lt_succ_self _)
    show (Str.ofString (toString i)).length ≤ i.natAbs.log2 + 3
    have e : (Str.ofString (toString i)).length = (toString i).length := PySem.ofString_length _
    omega
  | .str x, h => StrLaws.reprText_len x h
  | .list xs, h => by
    have h1 := widL_le xs h
    have h2 := listText_le (PyData.shownAll xs)
    show (listText (PyData.shownAll xs)).length ≤ widL xs + 2
    omega
  | .tuple xs, h => by
    have h1 := widL_le xs h
    have h2 := tupleText_le (PyData.shownAll xs)
    show (tupleText (PyData.shownAll xs)).length ≤ widL xs + 3
    omega
  | .dict xs, h => by
    have h1 := widK_le xs h
    have h2 := dictText_le (PyData.shownKv xs)
    show (dictText (PyData.shownKv xs)).length ≤ widK xs + 2
    omega
theorem widL_le : ∀ xs : List PyData, OkL xs → ((PyData.shownAll xs).map fun t => t.length + 2).sum ≤ widL xs
  | [], _ => Nat.le_refl _
  | x :: xs, h => by
    have h1 := wid_le x h.1
    have h2 := widL_le xs h.2
    show (x.shown.length + 2) + ((PyData.shownAll xs).map fun t => t.length + 2).sum ≤ wid x + 2 + widL xs
    omega
theorem widK_le : ∀ xs : List (PyData × PyData), OkK xs → ((PyData.shownKv xs).map fun t => t.length + 2).sum ≤ widK xs
  | [], _ => Nat.le_refl _
  | (k, v) :: xs, h => by
    have h1 := wid_le k h.1
    have h2 := wid_le v h.2.1
    have h3 := widK_le xs h.2.2
    have e2 : ((": " : String) : Str).length = 2 := by decide +kernel
    show ((k.shown ++ ": " ++ v.shown).length + 2) + ((PyData.shownKv xs).map fun t => t.length + 2).sum ≤ wid k + wid v + 4 + widK xs
    rw [strLen_append, strLen_append]
    omega
end
/-- repr of data: the text, all else as it stood -/
theorem call_repr {X : Cx} (hc : Clean X.A) (hS : SysIn X.base) (hu : X.A.units + 100 < cLine) : CallR X (.builtin "repr") (fun xs H Q => ∃ x d, xs = [x] ∧ Da X.K H x d ∧ Ok1 d ∧ wid d ≤ sizeLine ∧ d.depth ≤ 64 ∧ Q (.str d.shown) H) := by
  intro pins s σ H xs us Q I r h
  obtain ⟨x, d, rfl, hd, ok, hz, hdp, q⟩ := h
  obtain ⟨u, rfl, ru⟩ := vals1 r
  have hz' : d.shown.length ≤ sizeLine := Nat.le_trans (wid_le d ok) hz
  obtain ⟨as, hr, hf⟩ := Da.reads I hS hd ru
  have fin : ∀ (t tk : Tok) (h' : Heap), (∀ b o, s.heap.get? b = some o → h'.get? b = some o) → EP X pins σ Q (.str d.shown t) { s with heap := h', toks := tk } :=
    fun t tk h' k => ⟨.str d.shown, H, I.kept k, ⟨t, rfl⟩, q⟩
  cases hd with
  | non =>
    cases ru
    exact PySem.P.repr_of_none (fin _ _ s.heap fun _ _ e => e)
  | bl b =>
    cases ru
    exact PySem.P.repr_of_bool (fin _ _ s.heap fun _ _ e => e)
  | int i =>
    obtain ⟨t, rfl⟩ := ru
    exact PySem.P.repr_of_int ok (fin _ _ s.heap fun _ _ e => e)
  | str y =>
    obtain ⟨t, rfl⟩ := ru
    exact PySem.P.repr_of_str (fin _ _ s.heap fun _ _ e => e) hz'
  | lst h1 h2 =>
    cases ru
    exact repr_of_reads' hr (ok_show _ ok) (fun _ => hf) hc (by omega) (fun _ _ e => e) (fun h' u tk k => fin u tk h' k) hz'
  | tup h1 h2 =>
    cases ru
    exact repr_of_reads' hr (ok_show _ ok) (fun _ => hf) hc (by omega) (fun _ _ e => e) (fun h' u tk k => fin u tk h' k) hz'
  | dct h1 h2 =>
    cases ru
    exact repr_of_reads' hr (ok_show _ ok) (fun _ => hf) hc (by omega) (fun _ _ e => e) (fun h' u tk k => fin u tk h' k) hz'
end Gd

namespace Gd
open PySem PySem.Spec PyProof.Rows L2
/-! ### a def as its callers see it -/
structure Df (P : Program) (w : World) (K : PySem.W.Frag) (mg : Str → Option Value) (base : Heap) (CX : CXT) (k : Nat) (x : Str) (f : Addr) (fd : FuncData) (ps : List Str) (sp : Sp) : Prop where
  G : FnG P w K mg base CX k f fd ps sp
  m : mg x = some (.ref f)
  kp : PySem.W.keepIn K (.ref f) = true
  b : Binds K fd ps []
theorem room100 {k : Nat} {A : Around} (r : Room k A) : A.units + 100 < cLine := by
  have := r.un
  omega
section
variable {X : Cx} {CX : CXT} {k n : Nat} {f : Addr} {fd : FuncData} {ps ks : List Str} {sp : Sp} {E : L2.St → XK} {x : Str} {p pos : Pos} {e : Expr} {es : List Expr} {t tk : TA} {kws : List Keyword}
  {g : List Value → List Value → List Value} {gV : List V → List V → List V}
theorem pe_k {v : V} {x : Str} {pos : Pos} (hg : Gl X x) (h : ∃ u, X.mg x = some u ∧ RelV v u) (hd : (x == ("__debug__" : Str)) = false := by decide) : PE X (.Name x pos) (tC v) :=
  let ⟨_, h1, h2⟩ := h
  pe_glob hg h1 h2 hd
theorem pe_d (D : Df X.prog X.w X.K X.mg X.base CX k x f fd ps sp) (hc : Clean X.A) (hr : Room k X.A) (hg : Gl X x) (hx : ∀ σ, PassesAt CX X σ (E σ)) (ha : PA X (e :: es) t) (hdb : (x == ("__debug__" : Str)) = false := by decide)
    (he : starEach (e :: es) X.env = (false, eval e X.env) :: starEach es X.env := by rfl) (hpl : (backTo pos (starEach es X.env)).any (·.1) = false := by rfl) :
    PE X (.Call (.Name x p) (e :: es) [] pos) (tCallG sp [] E t) := pe_c D.G hc hr hg D.m D.kp D.b .nil hx ha hdb he hpl
theorem pe_d0 (D : Df X.prog X.w X.K X.mg X.base CX k x f fd ps sp) (hc : Clean X.A) (hr : Room k X.A) (hg : Gl X x) (hx : ∀ σ, PassesAt CX X σ (E σ)) (hdb : (x == ("__debug__" : Str)) = false := by decide) :
    PE X (.Call (.Name x p) [] [] pos) (tCallG sp [] E tNil) := pe_c0 D.G hc hr hg D.m D.kp D.b .nil hx hdb
/-- with defaults -/
structure Dd (P : Program) (w : World) (K : PySem.W.Frag) (mg : Str → Option Value) (base : Heap) (CX : CXT) (k : Nat) (x : Str) (f : Addr) (fd : FuncData) (ps : List Str) (dvs : List V) (sp : Sp) : Prop where
  G : FnG P w K mg base CX k f fd ps sp
  m : mg x = some (.ref f)
  kp : PySem.W.keepIn K (.ref f) = true
  b : ∃ ds, Vals dvs ds ∧ Binds K fd ps ds
theorem pe_dd {dvs : List V} (D : Dd X.prog X.w X.K X.mg X.base CX k x f fd ps dvs sp) (hc : Clean X.A) (hr : Room k X.A) (hg : Gl X x) (hx : ∀ σ, PassesAt CX X σ (E σ)) (ha : PA X (e :: es) t) (hdb : (x == ("__debug__" : Str)) = false := by decide)
    (he : starEach (e :: es) X.env = (false, eval e X.env) :: starEach es X.env := by rfl) (hpl : (backTo pos (starEach es X.env)).any (·.1) = false := by rfl) :
    PE X (.Call (.Name x p) (e :: es) [] pos) (tCallG sp dvs E t) :=
  let ⟨_, hd, hb⟩ := D.b
  pe_c D.G hc hr hg D.m D.kp hb hd hx ha hdb he hpl
/-- called with keywords -/
structure Dk (P : Program) (w : World) (K : PySem.W.Frag) (mg : Str → Option Value) (base : Heap) (CX : CXT) (k : Nat) (x : Str) (f : Addr) (fd : FuncData) (ps : List Str) (sp : Sp) (n : Nat) (ks : List Str) (gV : List V → List V → List V) : Prop where
  G : FnG P w K mg base CX k f fd ps sp
  m : mg x = some (.ref f)
  kp : PySem.W.keepIn K (.ref f) = true
  b : ∃ g, KBn K fd ps n ks g gV
theorem pe_dk (D : Dk X.prog X.w X.K X.mg X.base CX k x f fd ps sp n ks gV) (hc : Clean X.A) (hr : Room k X.A) (hg : Gl X x) (hx : ∀ σ, PassesAt CX X σ (E σ)) (ha : PA X (e :: es) t) (hkw : PK X kws tk)
    (hall : (backToKw pos (keywordEach kws X.env)).all (·.1.isSome) = true := by rfl) (hks : (backToKw pos (keywordEach kws X.env)).filterMap (·.1) = ks := by rfl) (hdb : (x == ("__debug__" : Str)) = false := by decide)
    (he : starEach (e :: es) X.env = (false, eval e X.env) :: starEach es X.env := by rfl)
    (hpl : ((backTo pos (starEach (e :: es) X.env)).any (·.1) || (backToKw pos (keywordEach kws X.env)).any (·.1.isNone)) = false := by rfl) :
    PE X (.Call (.Name x p) (e :: es) kws pos) (tCallH n ks.length sp gV E t tk) :=
  let ⟨_, hb⟩ := D.b
  pe_h D.G hc hr hg D.m D.kp hb hx ha hkw hall hks hdb he hpl
theorem pe_dk0 (D : Dk X.prog X.w X.K X.mg X.base CX k x f fd ps sp 0 ks gV) (hc : Clean X.A) (hr : Room k X.A) (hg : Gl X x) (hx : ∀ σ, PassesAt CX X σ (E σ)) (hkw : PK X kws tk)
    (hall : (backToKw pos (keywordEach kws X.env)).all (·.1.isSome) = true := by rfl) (hks : (backToKw pos (keywordEach kws X.env)).filterMap (·.1) = ks := by rfl) (hdb : (x == ("__debug__" : Str)) = false := by decide)
    (hpl : ((backTo pos (starEach [] X.env)).any (·.1) || (backToKw pos (keywordEach kws X.env)).any (·.1.isNone)) = false := by rfl) :
    PE X (.Call (.Name x p) [] kws pos) (tCallH 0 ks.length sp gV E tNil tk) :=
  let ⟨_, hb⟩ := D.b
  pe_h0 D.G hc hr hg D.m D.kp hb hx hkw hall hks hdb hpl
end
/-! ### is True, is not False -/
section
variable {X : Cx}
theorem rel_bl {x : V} {u : Value} {b : Bool} (r : RelV x u) (h : x ≠ .bl b) : u ≠ Value.bool b := by
  intro e
  subst e
  cases x with
  | bl c =>
    have : Value.bool b = Value.bool c := r
    cases this
    exact h rfl
  | non => exact nomatch (r : Value.bool b = Value.none)
  | int _ => obtain ⟨_, q⟩ := r; exact nomatch q
  | str _ => obtain ⟨_, q⟩ := r; exact nomatch q
  | byt _ => obtain ⟨_, q⟩ := r; exact nomatch q
  | flt _ => obtain ⟨_, q⟩ := r; exact nomatch q
  | ref a => exact nomatch (r : Value.bool b = Value.ref a)
  | ty n => exact nomatch (r : Value.bool b = Value.type n)
theorem plain_bl {x : V} {u : Value} {b : Bool} (r : RelV x u) : plainIs u (Value.bool b) = true := by
  cases x with
  | bl c => cases (show u = Value.bool c from r); rfl
  | non => cases (show u = Value.none from r); rfl
  | int _ => obtain ⟨_, q⟩ := r; subst q; rfl
  | str _ => obtain ⟨_, q⟩ := r; subst q; rfl
  | byt _ => obtain ⟨_, q⟩ := r; subst q; rfl
  | flt _ => obtain ⟨_, q⟩ := r; subst q; rfl
  | ref a => cases (show u = Value.ref a from r); rfl
  | ty n => cases (show u = Value.type n from r); rfl
theorem op_isB : OpR X (compareOp .Is) (fun x y H Q => ∃ b, y = .bl b ∧ Q (.bl (decide (x = .bl b))) H) := by
  intro pins s σ H x y v u Q I rx ry h
  obtain ⟨b, rfl, q⟩ := h
  cases (show u = Value.bool b from ry)
  by_cases e : x = .bl b
  · subst e
    cases (show v = Value.bool b from rx)
    exact wpAny_is_self rfl ⟨.bl true, H, I, rfl, by simpa using q⟩
  · exact wpAny_is_other (plain_bl rx) (rel_bl rx e) ⟨.bl false, H, I, rfl, by simpa [e] using q⟩
theorem op_notB : OpR X (compareOp .IsNot) (fun x y H Q => ∃ b, y = .bl b ∧ Q (.bl (!decide (x = .bl b))) H) := by
  intro pins s σ H x y v u Q I rx ry h
  obtain ⟨b, rfl, q⟩ := h
  cases (show u = Value.bool b from ry)
  by_cases e : x = .bl b
  · subst e
    cases (show v = Value.bool b from rx)
    exact wpAny_isNot_self rfl ⟨.bl false, H, I, rfl, by simpa using q⟩
  · exact wpAny_isNot_other (plain_bl rx) (rel_bl rx e) ⟨.bl true, H, I, rfl, by simpa [e] using q⟩
/-! ### s * n -/
def repS (x : Str) (n : Int) : Str := ⟨(List.replicate n.toNat x.cps).foldl (· ++ ·) #[]⟩
theorem fold_app (c : Array Nat) : ∀ (n : Nat) (a : Array Nat), ((List.replicate n c).foldl (· ++ ·) a).toList = a.toList ++ (List.replicate n c.toList).flatten
  | 0, a => by simp
  | n + 1, a => by
    rw [List.replicate_succ, List.foldl_cons, fold_app c n (a ++ c), List.replicate_succ, List.flatten_cons, Array.toList_append, List.append_assoc]
theorem repS_list (x : Str) (n : Int) : (repS x n).cps.toList = (List.replicate n.toNat x.cps.toList).flatten := by
  show ((List.replicate n.toNat x.cps).foldl (· ++ ·) #[]).toList = _
  rw [fold_app]
  rfl
theorem op_repS : OpR X (binaryOp .Mult) (fun x y H Q => ∃ z n, x = .str z ∧ y = .int n ∧ 1 < n ∧ n < 1000000 ∧ z.length ≠ 0 ∧ z.length * n.toNat ≤ sizeLine ∧ Q (.str (repS z n)) H) := by
  intro pins s σ H x y v u Q I rx ry h
  obtain ⟨z, n, rfl, rfl, h1, h2, h0, hz, q⟩ := h
  obtain ⟨t, rfl⟩ := rx
  obtain ⟨t', rfl⟩ := ry
  have e1 : (n == 1 || z.length == 0) = false := by
    rw [Bool.or_eq_false_iff]
    exact ⟨beq_eq_false_iff_ne.mpr (by omega), beq_eq_false_iff_ne.mpr h0⟩
  have hb : ¬ (z.length : Int) > (2 ^ 63 - 1) / n := by
    intro c
    have hs := hz
    rw [sizeLine_eq] at hs
    have h3 : (z.length : Int) * n ≤ 16777216 := by
      have h4 : ((z.length * n.toNat : Nat) : Int) ≤ 16777216 := Int.ofNat_le.mpr hs
      rw [Int.natCast_mul, Int.toNat_of_nonneg (by omega)] at h4
      exact h4
    have h5 : (z.length : Int) ≤ 16777216 := by
      have h6 : (1 : Int) ≤ z.length := by omega
      have h7 : (z.length : Int) * 1 ≤ (z.length : Int) * n := Int.mul_le_mul_of_nonneg_left (by omega) (by omega)
      omega
    have h8 : (2 ^ 63 - 1 : Int) / n ≥ (2 ^ 63 - 1) / 1000000 := by
      have : (2 ^ 63 - 1 : Int) / 1000000 * n ≤ (2 ^ 63 - 1) := by
        have h9 : (2 ^ 63 - 1 : Int) / 1000000 = 9223372036854 := by decide
        rw [h9]
        omega
      exact (Int.le_ediv_iff_mul_le (by omega)).mpr this
    have h10 : (2 ^ 63 - 1 : Int) / 1000000 = 9223372036854 := by decide
    omega
  refine PySem.P.mul_str (by rw [Bool.or_eq_false_iff]; exact ⟨decide_eq_false (by omega), decide_eq_false (by omega)⟩) (fun _ _ => hb) (fun _ _ => ?_) ?_
  · unfold Builtin.Str.tooLong
    exact decide_eq_false (by omega)
  · rw [if_neg (by omega), if_neg (by rw [e1]; exact Bool.false_ne_true)]
    have hl : (repS z n).length ≤ sizeLine := by
      have e : (repS z n).length = z.length * n.toNat := by
        show (repS z n).cps.size = _
        rw [← Array.length_toList, repS_list, List.length_flatten, List.map_replicate, List.sum_replicate_nat]
        show n.toNat * z.cps.toList.length = _
        rw [Array.length_toList, Nat.mul_comm]
        rfl
      omega
    exact ⟨hl, ⟨.str (repS z n), H, I.tok _, ⟨_, rfl⟩, q⟩⟩
end
end Gd

namespace Gd
open PySem PySem.Spec PyProof.Rows L2
/-! ### the kind of a value -/
inductive Kind where
  | non | bl | int | str | lst | tup | dct | odd
  deriving DecidableEq
def Kind.name : Kind → String
  | .non => "NoneType"
  | .bl => "bool"
  | .int => "int"
  | .str => "str"
  | .lst => "list"
  | .tup => "tuple"
  | .dct => "dict"
  | .odd => "?"
def kindO : Option HO → Kind
  | some (.lst _) => .lst
  | some (.tup _) => .tup
  | some (.dK _) => .dct
  | _ => .odd
def kind (H : Hp) : V → Kind
  | .non => .non
  | .bl _ => .bl
  | .int _ => .int
  | .str _ => .str
  | .ref a => kindO (H a)
  | _ => .odd
abbrev Pv (H : Hp) (v : V) : Prop := kind H v ≠ .odd
/-- isinstance of such a value -/
def inst (n : String) (k : Kind) : Bool := k.name == n || (n == "int" && k == .bl)
theorem kind_ty {K : PySem.W.Frag} {H : Hp} {v : V} (h : Pv H v) : TyX K H v (.type (kind H v).name) := by
  cases v with
  | non => exact .base .non
  | bl b => exact .base (.bl b)
  | int i => exact .base (.int i)
  | str x => exact .base (.str x)
  | byt b => exact absurd rfl h
  | flt b => exact absurd rfl h
  | ty n => exact absurd rfl h
  | ref a =>
    change kindO (H a) ≠ .odd at h
    show TyX K H (.ref a) (.type (kindO (H a)).name)
    cases e : H a with
    | none => rw [e] at h; exact absurd rfl h
    | some o =>
      rw [e] at h
      cases o with
      | lst xs => exact .base (.lst e)
      | tup xs => exact .base (.tup e)
      | dK kvs => exact .base (.dK e)
      | _ => exact absurd rfl h
abbrev Cn (n : String) : Prop := n = "int" ∨ n = "str" ∨ n = "bool" ∨ n = "list" ∨ n = "tuple" ∨ n = "dict"
theorem kit_kind {K : PySem.W.Frag} {H : Hp} {v : V} (h : Pv H v) {n : String} (hn : Cn n) : PySem.W.kitOne K (.type (kind H v).name) (.type n) = some (inst n (kind H v)) := by
  apply kit_ty
  revert h
  unfold Pv
  generalize kind H v = k
  intro h
  rcases hn with rfl | rfl | rfl | rfl | rfl | rfl <;> cases k <;> first | exact absurd rfl h | decide +kernel
section
variable {X : Cx}
theorem call_isk : CallR X (.builtin "isinstance") (fun xs H Q => ∃ x n, xs = [x, .ty n] ∧ Cn n ∧ Pv H x ∧ Q (.bl (inst n (kind H x))) H) := by
  intro pins s σ H xs us Q I r h
  obtain ⟨x, n, rfl, hn, hv, q⟩ := h
  exact call_isi pins s σ H _ us Q I r ⟨x, .ty n, _, _, _, rfl, .ty n, kind_ty hv, kit_kind hv hn, q⟩
/-- (list, tuple) and its like -/
theorem call_isk2 : CallR X (.builtin "isinstance") (fun xs H Q => ∃ x t n m, xs = [x, .ref t] ∧ H t = some (.tup [.ty n, .ty m]) ∧ Cn n ∧ Cn m ∧ Pv H x ∧ Q (.bl (inst n (kind H x) || inst m (kind H x))) H) := by
  intro pins s σ H xs us Q I r h
  obtain ⟨x, t, n, m, rfl, ht, hn, hm, hv, q⟩ := h
  refine call_isiT pins s σ H _ us Q I r ⟨x, t, [.ty n, .ty m], _, [.type n, .type m], _, rfl, ht, .cons (.ty n) (.cons (.ty m) .nil), kind_ty hv, ?_, q⟩
  refine kitAny_cons (kit_kind hv hn) (fun e1 => ?_) (fun e1 => ?_)
  · rw [e1, Bool.false_or]
    exact kitAny_cons (kit_kind hv hm) (fun e2 => by rw [e2]; exact kitAny_nil) fun e2 => e2
  · rw [e1]
    rfl
end
/-- an int other than True and False -/
def isInt : V → Bool
  | .int _ => true
  | _ => false
def isStr : V → Bool
  | .str _ => true
  | _ => false
theorem kind_ref {H : Hp} {a : Addr} : kind H (.ref a) = .lst ∨ kind H (.ref a) = .tup ∨ kind H (.ref a) = .dct ∨ kind H (.ref a) = .odd := by
  show kindO (H a) = _ ∨ kindO (H a) = _ ∨ kindO (H a) = _ ∨ kindO (H a) = _
  cases H a with
  | none => exact .inr (.inr (.inr rfl))
  | some o =>
    cases o <;> first | exact .inl rfl | exact .inr (.inl rfl) | exact .inr (.inr (.inl rfl)) | exact .inr (.inr (.inr rfl))
theorem isInt_kind (H : Hp) (v : V) : (inst "int" (kind H v) && !inst "bool" (kind H v)) = isInt v := by
  cases v with
  | ref a =>
    show _ = false
    rcases kind_ref (H := H) (a := a) with e | e | e | e <;> rw [e] <;> decide +kernel
  | _ => rfl
theorem isStr_kind (H : Hp) (v : V) : inst "str" (kind H v) = isStr v := by
  cases v with
  | ref a =>
    show _ = false
    rcases kind_ref (H := H) (a := a) with e | e | e | e <;> rw [e] <;> decide +kernel
  | _ => rfl
theorem kind_same {H H' : Hp} (e : Same H H') {v : V} (h : Pv H v) : kind H' v = kind H v := by
  cases v with
  | ref a =>
    change kindO (H a) ≠ .odd at h
    show kindO (H' a) = kindO (H a)
    cases q : H a with
    | none => rw [q] at h; exact absurd rfl h
    | some o => rw [e a o q]
  | _ => rfl
theorem Pv.same {H H' : Hp} (e : Same H H') {v : V} (h : Pv H v) : Pv H' v := by
  unfold Pv
  rw [kind_same e h]
  exact h
theorem isStr_iff {v : V} (h : isStr v = true) : ∃ x, v = .str x := by
  cases v <;> first | exact ⟨_, rfl⟩ | exact absurd h Bool.false_ne_true
theorem isInt_iff {v : V} (h : isInt v = true) : ∃ x, v = .int x := by
  cases v <;> first | exact ⟨_, rfl⟩ | exact absurd h Bool.false_ne_true
end Gd

namespace Gd
open PySem L2
/-! ### the law's pool of digits -/
/-- it stands at p -/
def BoxAt (H : Hp) (p : Addr) : Prop := ∃ a b c : Int, H p = some (.lst [.int a, .int b, .int c]) ∧ 0 ≤ b ∧ b < 2147483647
/-- it may have turned, nothing else has -/
def Turned (H H' : Hp) (p : Addr) : Prop := BoxAt H' p ∧ ∀ q, q ≠ p → H' q = H q
theorem Turned.refl {H : Hp} {p : Addr} (b : BoxAt H p) : Turned H H p := ⟨b, fun _ _ => rfl⟩
theorem Turned.trans {H H1 H2 : Hp} {p : Addr} (a : Turned H H1 p) (b : Turned H1 H2 p) : Turned H H2 p := ⟨b.1, fun q hq => (b.2 q hq).trans (a.2 q hq)⟩
theorem Turned.box {H H' : Hp} {p : Addr} (t : Turned H H' p) : BoxAt H' p := t.1
theorem Turned.at {H H' : Hp} {p q : Addr} {o : HO} (t : Turned H H' p) (hq : q ≠ p) (h : H q = some o) : H' q = some o := (t.2 q hq).trans h
theorem turned_upd {H : Hp} {p : Addr} {a b c : Int} (h0 : 0 ≤ b) (h1 : b < 2147483647) : Turned H (upd H p (.lst [.int a, .int b, .int c])) p :=
  ⟨⟨a, b, c, upd_same, h0, h1⟩, fun q hq => upd_ne hq⟩
theorem BoxAt.some {H : Hp} {p : Addr} (b : BoxAt H p) : ∃ o, H p = some o := let ⟨_, _, _, h, _⟩ := b; ⟨_, h⟩
theorem BoxAt.upd {H : Hp} {p q : Addr} {o : HO} (b : BoxAt H p) (hq : H q = none) : BoxAt (upd H q o) p := by
  obtain ⟨x, y, z, h, r⟩ := b
  exact ⟨x, y, z, by rw [upd_ne (ne_of_none h hq)]; exact h, r⟩
def spScr (K : PySem.W.Frag) : Sp := fun vs H Q _ => ∃ (a : Addr) (ns : List Int) (k : Int), vs = [.ref a, .int k] ∧ SqL K H a (ns.map V.int) ∧ 0 ≤ k ∧ k < 1000 ∧ ∀ z, Q (.int z) H
def spBox : Sp := fun vs H Q _ => ∃ z : Int, vs = [.int z] ∧ ∀ (p : Addr) (o : HO), H p = none → BoxAt (upd H p o) p → Q (.ref p) (upd H p o)
def spTake : Sp := fun vs H Q _ => ∃ (p : Addr) (n : Int), vs = [.ref p, .int n] ∧ BoxAt H p ∧ 0 < n ∧ n < 1000000 ∧ ∀ (d : Int) (H' : Hp), 0 ≤ d → d < n → Turned H H' p → Q (.int d) H'
/-- an item of the script -/
theorem at_script {ns : List Int} {k : Int} (h0 : 0 ≤ k) (h1 : k < ns.length) : ∃ z, atI (ns.map V.int) k = some (.int z) := by
  obtain ⟨j, rfl⟩ := Int.eq_ofNat_of_zero_le h0
  have hj : j < ns.length := by omega
  refine ⟨ns[j], atI_nat ?_⟩
  rw [List.getElem?_map, List.getElem?_eq_getElem hj]
  rfl
theorem mod_pos {i j : Int} (h : 0 < j) : 0 ≤ i % j ∧ i % j < j := ⟨Int.emod_nonneg _ (by omega), Int.emod_lt_of_pos _ h⟩
end Gd

namespace Gd
open PySem L2
theorem iteB {c : Bool} {A B : Prop} (h1 : c = true → A) (h2 : c = false → B) : if c = true then A else B := by
  cases c with
  | true => exact iteT (h1 rfl)
  | false => exact iteF (h2 rfl)
/-- what a comprehension over J asks, its list at D -/
def LcW (J : It) (g : TG) (tt : TT) (te : TE) (vs : List Nat) (σ : L2.St) (H1 : Hp) (D : Addr) (Qd : Hp → Prop) : Prop :=
  ∃ W : Nat → Nat → Hp → Prop, (∃ m, W 0 m (upd H1 D (.lst []))) ∧ ∀ i m H, W i m H →
    (J.stop i H ∧ Qd H) ∨ (J.go i H ∧ ∃ Nx : Hp → Prop, (∀ H', Nx H' → ∃ m', m' < m ∧ W (i + 1) m' H') ∧ ∀ x H', J.yld i H x H' →
      g x (wipe σ vs) H' fun σ2 H2 => wipe σ2 vs = wipe σ vs ∧ tt σ2 H2 fun b H3 => if b = true then te σ2 H3 fun y H4 => ∃ acc, H4 D = some (.lst acc) ∧ acc.length < sizeLine ∧ Nx (upd H4 D (.lst (acc ++ [y]))) else Nx H3)
theorem wipe1 (σ : L2.St) (j : Nat) (v : Option V) : wipe ((wipe σ [j]).set j v) [j] = wipe σ [j] := by
  show ((σ.set j none).set j v).set j none = σ.set j none
  rw [List.set_set, List.set_set]
theorem take_snoc {α : Type} {l : List α} {i : Nat} {x : α} (h : l[i]? = some x) : l.take (i + 1) = l.take i ++ [x] := by
  rw [List.take_succ, h]
  rfl
section
variable {K : PySem.W.Frag} {tt : TT} {te : TE} {j : Nat} {σ : L2.St} {H1 : Hp} {D : Addr} {Qd : Hp → Prop}
/-- over a text, all else as it stood -/
theorem lc_text {z : Str} (f : Nat → V) (p : Nat → Bool) (hz : z.length < sizeLine)
    (ht : ∀ c acc (Q : Bool → Hp → Prop), c ∈ z.cps.toList → Q (p c) (upd H1 D (.lst acc)) → tt ((wipe σ [j]).set j (some (.str ⟨#[c]⟩))) (upd H1 D (.lst acc)) Q)
    (he : ∀ c acc (Q : VK), c ∈ z.cps.toList → p c = true → Q (f c) (upd H1 D (.lst acc)) → te ((wipe σ [j]).set j (some (.str ⟨#[c]⟩))) (upd H1 D (.lst acc)) Q)
    (hd : Qd (upd H1 D (.lst ((z.cps.toList.filter p).map f)))) : LcW (Its z) (gName j) tt te [j] σ H1 D Qd := by
  have hl : z.cps.toList.length = z.cps.size := Array.length_toList
  refine lc_it walk_str (fun i H => H = upd H1 D (.lst (((z.cps.toList.take i).filter p).map f))) rfl (fun _ _ _ _ => trivial) ?_ ?_
  · rintro i x H H' hi e ⟨e', c, hc, rfl⟩
    subst e'
    have hc' : z.cps.toList[i]? = some c := by rw [Array.getElem?_toList]; exact hc
    have hm : c ∈ z.cps.toList := List.mem_of_getElem? hc'
    show gName j _ (wipe σ [j]) H' _
    refine ⟨wipe1 _ _ _, ?_⟩
    rw [e]
    refine ht c _ _ hm ?_
    have es := take_snoc hc'
    refine iteB (fun b => ?_) (fun b => ?_)
    · refine he c _ _ hm b ⟨_, upd_same, ?_, ?_⟩
      · rw [List.length_map]
        refine Nat.lt_of_le_of_lt (List.length_filter_le _ _) ?_
        rw [List.length_take]
        have : z.length = z.cps.size := rfl
        omega
      · rw [upd_upd, es, List.filter_append, List.map_append]
        have e1 : [c].filter p = [c] := by rw [List.filter_cons, if_pos b]; rfl
        rw [e1]
        rfl
    · rw [es, List.filter_append, List.map_append]
      have e1 : [c].filter p = [] := by rw [List.filter_cons, if_neg (by rw [b]; exact Bool.false_ne_true)]; rfl
      rw [e1]
      show upd H1 D _ = _
      rw [List.map_nil, List.append_nil]
  · intro H e
    subst e
    rw [← hl, List.take_length]
    exact hd
end
/-- order of single signs -/
theorem lt_sign (a b : Nat) : decide (([a] : List Nat) < [b]) = decide (a < b) := by
  by_cases h : a < b
  · rw [decide_eq_true h]
    exact decide_eq_true (List.Lex.rel h)
  · rw [decide_eq_false h]
    refine decide_eq_false fun z => ?_
    cases z with
    | rel h' => exact h h'
    | cons h' => cases h'
end Gd

namespace Gd
open PySem L2
/-! ### plain texts of a size -/
structure Tx (n : Nat) (x : Str) : Prop where
  len : x.length ≤ n
  asc : ∀ c ∈ x.cps.toList, c < 128
theorem len_list (x : Str) : x.length = x.cps.toList.length := (Array.length_toList).symm
theorem Tx.mono {n m : Nat} {x : Str} (t : Tx n x) (h : n ≤ m) : Tx m x := ⟨Nat.le_trans t.len h, t.asc⟩
theorem app_list (x y : Str) : (x ++ y).cps.toList = x.cps.toList ++ y.cps.toList := Array.toList_append
theorem Tx.app {n m : Nat} {x y : Str} (t : Tx n x) (u : Tx m y) : Tx (n + m) (x ++ y) := by
  refine ⟨?_, fun c hc => ?_⟩
  · have := t.len
    have := u.len
    rw [len_list, app_list, List.length_append, ← len_list, ← len_list]
    omega
  · rw [app_list] at hc
    rcases List.mem_append.mp hc with h | h
    · exact t.asc c h
    · exact u.asc c h
theorem cut_mem {z : Str} {lo hi : Option Int} {c : Nat} (h : c ∈ (cutS z lo hi).cps.toList) : c ∈ z.cps.toList := by
  have h' : c ∈ (z.cps.toList.drop (HT.sIx z.length 0 lo)).take (HT.sIx z.length z.length hi - HT.sIx z.length 0 lo) := h
  exact List.mem_of_mem_drop (List.mem_of_mem_take h')
theorem Tx.cut {n : Nat} {z : Str} (t : Tx n z) (lo hi : Option Int) : Tx n (cutS z lo hi) := ⟨Nat.le_trans (cutS_length z lo hi) t.len, fun c hc => t.asc c (cut_mem hc)⟩
theorem Tx.sign {n : Nat} {z : Str} (t : Tx n z) {c : Nat} (h : c ∈ z.cps.toList) : Tx 1 ⟨#[c]⟩ := ⟨Nat.le_refl _, fun d hd => by
  have : d = c := by simpa using hd
  rw [this]
  exact t.asc c h⟩
/-- a written one: by decide +kernel -/
theorem Tx.of {n : Nat} {x : Str} (h : (decide (x.length ≤ n) && x.cps.toList.all fun c => decide (c < 128)) = true) : Tx n x := by
  rw [Bool.and_eq_true, decide_eq_true_eq, List.all_eq_true] at h
  exact ⟨h.1, fun c hc => of_decide_eq_true (h.2 c hc)⟩
theorem Tx.big {n : Nat} {x : Str} (t : Tx n x) : ∀ c ∈ x.cps.toList, c < 16 ^ 8 := fun c hc => Nat.lt_trans (t.asc c hc) (by decide)
theorem atI_mem {α : Type} {l : List α} {i : Int} {v : α} (h : atI l i = some v) : v ∈ l := by
  unfold atI at h
  cases e : ixN l.length i with
  | none => rw [e] at h; exact nomatch h
  | some j =>
    rw [e] at h
    exact List.mem_of_getElem? h
/-- an item that all of them are like -/
theorem atI_all {α : Type} {l : List α} {p : α → Prop} (h : ∀ v ∈ l, p v) {d : Int} (h0 : 0 ≤ d) (h1 : d < l.length) : ∃ v, atI l d = some v ∧ p v := by
  obtain ⟨j, rfl⟩ := Int.eq_ofNat_of_zero_le h0
  have hj : j < l.length := by omega
  exact ⟨l[j], atI_nat (List.getElem?_eq_getElem hj), h _ (List.getElem_mem hj)⟩
/-- a sign of a text -/
theorem atI_sign {n : Nat} {z : Str} (t : Tx n z) {d : Int} (h0 : 0 ≤ d) (h1 : d < z.length) : ∃ c, atI z.cps.toList d = some c ∧ Tx 1 ⟨#[c]⟩ ∧ c ∈ z.cps.toList := by
  obtain ⟨c, h, hm⟩ := atI_all (l := z.cps.toList) (p := fun c => c ∈ z.cps.toList) (fun _ h => h) h0 (by rw [← len_list]; exact h1)
  exact ⟨c, h, t.sign hm, hm⟩
/-! ### parts and equality of texts -/
theorem str_ext {x y : Str} (h : x.cps.toList = y.cps.toList) : x = y := by
  obtain ⟨a⟩ := x
  obtain ⟨b⟩ := y
  exact congrArg Str.mk (Array.toList_inj.mp h)
theorem str_eq (x y : Str) : decide (V.str x = V.str y) = decide (x.cps.toList = y.cps.toList) :=
  decide_eq_decide.mpr ⟨fun z => by rw [V.str.injEq] at z; rw [z], fun z => by rw [str_ext z]⟩
theorem cut_take (x : Str) (k : Nat) : (cutS x none (some (k : Int))).cps.toList = x.cps.toList.take k := by
  show (x.cps.toList.drop (HT.sIx x.length 0 none)).take (HT.sIx x.length x.length (some (k : Int)) - HT.sIx x.length 0 none) = _
  rw [HT.sIx_none, HT.sIx_nat, List.drop_zero, Nat.sub_zero, len_list]
  rcases Nat.le_total k x.cps.toList.length with h | h
  · rw [Nat.min_eq_left h]
  · rw [Nat.min_eq_right h, List.take_length, List.take_of_length_le h]
theorem cut_drop (x : Str) (k : Nat) : (cutS x (some (k : Int)) none).cps.toList = x.cps.toList.drop k := by
  show (x.cps.toList.drop (HT.sIx x.length 0 (some (k : Int)))).take (HT.sIx x.length x.length none - HT.sIx x.length 0 (some (k : Int))) = _
  rw [HT.sIx_none, HT.sIx_nat, len_list]
  rcases Nat.le_total k x.cps.toList.length with h | h
  · rw [Nat.min_eq_left h, List.take_of_length_le (by rw [List.length_drop]; exact Nat.le_refl _)]
  · rw [Nat.min_eq_right h, Nat.sub_self, List.take_zero, List.drop_of_length_le h]
/-! ### joined -/
theorem join_str (sep : Str) (l : List Str) : Txt.join sep l = Str.join sep l := eq_of_beq (PyProof.Rows.join_plain_closes sep l)
theorem join_len (sep : Str) : ∀ l : List Str, (Str.join sep l).length ≤ (l.map (·.length)).sum + l.length * sep.length
  | [] => Nat.zero_le _
  | [x] => by
    show x.length ≤ _
    simp
  | x :: y :: r => by
    have ih := join_len sep (y :: r)
    show (x ++ sep ++ Str.join sep (y :: r)).length ≤ _
    rw [len_list, app_list, app_list, List.length_append, List.length_append, ← len_list, ← len_list, ← len_list, List.map_cons, List.sum_cons, List.length_cons, Nat.succ_mul]
    omega
theorem join_mem (sep : Str) {c : Nat} : ∀ {l : List Str}, c ∈ (Str.join sep l).cps.toList → c ∈ sep.cps.toList ∨ ∃ y ∈ l, c ∈ y.cps.toList
  | [], h => nomatch (show c ∈ ([] : List Nat) from h)
  | [x], h => .inr ⟨x, List.mem_cons_self, h⟩
  | x :: y :: r, h => by
    have h' : c ∈ (x ++ sep ++ Str.join sep (y :: r)).cps.toList := h
    rw [app_list, app_list, List.mem_append, List.mem_append] at h'
    rcases h' with (h | h) | h
    · exact .inr ⟨x, List.mem_cons_self, h⟩
    · exact .inl h
    · rcases join_mem sep h with h | ⟨z, hz, h⟩
      · exact .inl h
      · exact .inr ⟨z, List.mem_cons_of_mem _ hz, h⟩
theorem join_empty_len : ∀ l : List Str, (Str.join "" l).length = (l.map (·.length)).sum
  | [] => rfl
  | [x] => by
    show x.length = _
    simp
  | x :: y :: r => by
    have ih := join_empty_len (y :: r)
    show (x ++ "" ++ Str.join "" (y :: r)).length = _
    have e : (("" : String) : Str).cps.toList = [] := by decide +kernel
    rw [len_list, app_list, app_list, e, List.append_nil, List.length_append, ← len_list, ← len_list, List.map_cons, List.sum_cons, ih]
theorem sum_le {l : List Nat} {n : Nat} (h : ∀ x ∈ l, x ≤ n) : l.sum ≤ l.length * n := by
  induction l with
  | nil => exact Nat.zero_le _
  | cons a l ih =>
    have := ih fun x hx => h x (List.mem_cons_of_mem _ hx)
    have := h a List.mem_cons_self
    rw [List.sum_cons, List.length_cons, Nat.succ_mul]
    omega
theorem Tx.join {n m k : Nat} {sep : Str} {l : List Str} (s : Tx m sep) (h : ∀ y ∈ l, Tx n y) (hl : l.length ≤ k) : Tx (k * n + k * m) (Txt.join sep l) := by
  rw [join_str]
  refine ⟨?_, fun c hc => ?_⟩
  · have h1 := join_len sep l
    have h2 : (l.map (·.length)).sum ≤ l.length * n := by
      have := sum_le (l := l.map (·.length)) (n := n) fun x hx => by
        obtain ⟨y, hy, rfl⟩ := List.mem_map.mp hx
        exact (h y hy).len
      rw [List.length_map] at this
      exact this
    have h3 : l.length * n ≤ k * n := Nat.mul_le_mul_right _ hl
    have h4 : l.length * sep.length ≤ k * m := Nat.mul_le_mul hl s.len
    omega
  · rcases join_mem sep hc with h' | ⟨y, hy, h'⟩
    · exact s.asc c h'
    · exact (h y hy).asc c h'
/-! ### all but the pool is kept -/
def Kept (H H' : Hp) (p : Addr) : Prop := BoxAt H' p ∧ ∀ q o, q ≠ p → H q = some o → H' q = some o
theorem Kept.refl {H : Hp} {p : Addr} (b : BoxAt H p) : Kept H H p := ⟨b, fun _ _ _ h => h⟩
theorem Kept.trans {H H1 H2 : Hp} {p : Addr} (a : Kept H H1 p) (b : Kept H1 H2 p) : Kept H H2 p := ⟨b.1, fun q o hq h => b.2 q o hq (a.2 q o hq h)⟩
theorem Kept.box {H H' : Hp} {p : Addr} (k : Kept H H' p) : BoxAt H' p := k.1
theorem Turned.kept {H H' : Hp} {p : Addr} (t : Turned H H' p) : Kept H H' p := ⟨t.1, fun q o hq h => t.at hq h⟩
theorem Kept.new {H H' : Hp} {p l : Addr} {o : HO} (k : Kept H H' p) (h : H' l = none) : Kept H (upd H' l o) p :=
  ⟨k.1.upd h, fun q u hq hu => by rw [upd_ne (ne_of_none (k.2 q u hq hu) h)]; exact k.2 q u hq hu⟩
theorem Kept.turn {H H1 H2 : Hp} {p : Addr} (k : Kept H H1 p) (t : Turned H1 H2 p) : Kept H H2 p := k.trans t.kept
theorem Kept.same {H H1 H2 : Hp} {p : Addr} (k : Kept H H1 p) (s : Same H1 H2) : Kept H H2 p := by
  obtain ⟨⟨a, b, c, h, r⟩, f⟩ := k
  exact ⟨⟨a, b, c, s _ _ h, r⟩, fun q o hq hh => s _ _ (f q o hq hh)⟩
/-- fresh behind is fresh ahead -/
theorem Kept.free {H H' : Hp} {p q : Addr} (k : Kept H H' p) (hb : BoxAt H p) (h : H' q = none) : H q = none := by
  cases e : H q with
  | none => rfl
  | some o =>
    by_cases hq : q = p
    · subst hq
      obtain ⟨_, hh⟩ := k.1.some
      rw [hh] at h
      exact nomatch h
    · rw [k.2 q o hq e] at h
      exact nomatch h
theorem Kept.ne {H : Hp} {p q : Addr} (b : BoxAt H p) (h : H q = none) : q ≠ p := by
  rintro rfl
  obtain ⟨_, hh⟩ := b.some
  rw [hh] at h
  exact nomatch h
theorem Kept.put {H H' : Hp} {p D : Addr} {o : HO} (k : Kept H H' p) (hb : BoxAt H p) (h : H D = none) : Kept H (upd H' D o) p := by
  have hne : D ≠ p := Kept.ne hb h
  obtain ⟨⟨a, b, c, hh, r⟩, f⟩ := k
  exact ⟨⟨a, b, c, by rw [upd_ne hne.symm]; exact hh, r⟩, fun q u hq hu => by rw [upd_ne (ne_of_none hu h)]; exact f q u hq hu⟩
/-- no test: the turn gives -/
theorem yes_go {σ : L2.St} {H : Hp} {A B : Hp → Prop} (h : A H) : tYes σ H (fun b H' => if b = true then A H' else B H') := by
  show if true = true then A H else B H
  exact iteT h
/-! a word between a statement and what follows -/
def tMid (t u : TS) : TS := fun D σ H => ∃ M : L2.St → Hp → Prop, t { D with nx := M } σ H ∧ ∀ σ' H', M σ' H' → u D σ' H'
theorem pss_mid {X : Cx} {st : Stmt} {rest : List Stmt} {t u : TS} (h1 : PS X st t) (h2 : PSs X rest u) : PSs X (st :: rest) (tMid t u) := by
  refine ⟨fun pins s σ H D I ⟨M, hm, hu⟩ => ?_⟩
  refine wpAny_execs_cons (thn (h1.run pins s σ H { D with nx := M } I hm) fun f s1 q => ?_)
  match f, q with
  | .next, ⟨σ', H', I', q⟩ => exact h2.run pins s1 σ' H' D I' (hu σ' H' q)
  | .ret _, q => exact q
  | .brk, q => exact q
  | .cont, q => exact q
end Gd

namespace Gd
open PySem L2
/-- a list of signs == [] -/
theorem signs_nil {K : PySem.W.Frag} {H : Hp} {D D2 : Addr} {bs : List Nat} (h1 : H D = some (.lst (bs.map fun c => V.str ⟨#[c]⟩))) (h2 : H D2 = some (.lst [])) (asc : ∀ c ∈ bs, c < 128) {Q : VK} (q : Q (.bl bs.isEmpty) H) : rEqD K (.ref D) (.ref D2) H Q := by
  have dp : ∀ l : List Nat, DpAll K H (l.map fun c => V.str ⟨#[c]⟩) (l.map fun c => PyData.str ⟨#[c]⟩) := by
    intro l
    induction l with
    | nil => exact .nil
    | cons c l ih => exact .cons (.str _) ih
  have shp : ∀ l : List Nat, (∀ c ∈ l, c < 128) → SeqAt.shaped (.list (l.map fun c => PyData.str ⟨#[c]⟩)) = true := by
    intro l hl
    unfold SeqAt.shaped
    have h1 : ∀ l : List Nat, (∀ c ∈ l, c < 128) → PyData.canLayAll0 (l.map fun c => PyData.str ⟨#[c]⟩) = true := by
      intro l
      induction l with
      | nil => exact fun _ => rfl
      | cons c l ih =>
        intro h
        show (PyData.canLay0 (.str ⟨#[c]⟩) && PyData.canLayAll0 (l.map fun c => PyData.str ⟨#[c]⟩)) = true
        rw [ih fun x hx => h x (List.mem_cons_of_mem _ hx), Bool.and_true]
        show (#[c] : Array Nat).all (· < 0x110000) = true
        have := h c List.mem_cons_self
        simp
        omega
    have h2 : ∀ l : List Nat, PyData.depthAll (l.map fun c => PyData.str ⟨#[c]⟩) = 0 := by
      intro l
      induction l with
      | nil => rfl
      | cons c l ih =>
        show max 0 (PyData.depthAll (l.map fun c => PyData.str ⟨#[c]⟩)) = 0
        rw [ih]
        rfl
    rw [Bool.and_eq_true]
    refine ⟨h1 l hl, decide_eq_true ?_⟩
    show PyData.depthAll (l.map fun c => PyData.str ⟨#[c]⟩) + 1 ≤ 64
    rw [h2]
    decide
  refine ⟨.list (bs.map fun c => PyData.str ⟨#[c]⟩), .list [], .lst (SqL.of h1) (dp bs), .lst (SqL.of h2) .nil, shp bs asc, by decide, ?_⟩
  have eqv : PyData.eqv (.list (bs.map fun c => PyData.str ⟨#[c]⟩)) (.list []) = bs.isEmpty := by
    cases bs <;> rfl
  rw [eqv]
  exact q
/-! ### small letters -/
def low (c : Nat) : Bool := decide (97 ≤ c) && decide (c ≤ 122)
theorem low_fst (c : Nat) : (!decide ((({ cps := #[c] } : Str)).cps.toList < (("a" : String) : Str).cps.toList)) = decide (97 ≤ c) := by
  show (!decide (([c] : List Nat) < [97])) = _
  rw [lt_sign, ← decide_not]
  exact decide_eq_decide.mpr (by omega)
theorem low_snd (c : Nat) : (!decide ((("z" : String) : Str).cps.toList < (({ cps := #[c] } : Str)).cps.toList)) = decide (c ≤ 122) := by
  show (!decide (([122] : List Nat) < [c])) = _
  rw [lt_sign, ← decide_not]
  exact decide_eq_decide.mpr (by omega)
end Gd

namespace Gd
open PySem PySem.Spec PyProof.Rows L2
theorem repS_same {z : Str} {n : Int} (h : n = 1 ∨ z.length = 0) : repS z n = z := by
  refine str_ext ?_
  rw [repS_list]
  rcases h with rfl | h
  · show (List.replicate 1 z.cps.toList).flatten = _
    simp
  · have e : z.cps.toList = [] := by
      rw [← List.length_eq_zero_iff, ← len_list]
      exact h
    rw [e]
    simp
theorem Tx.reps {m : Nat} {x : Str} (t : Tx m x) (n : Int) : Tx (n.toNat * m) (repS x n) := by
  refine ⟨?_, fun c hc => ?_⟩
  · rw [len_list, repS_list, List.length_flatten, List.map_replicate]
    have h1 := sum_le (l := List.replicate n.toNat x.cps.toList.length) (n := m) fun k hk => by
      rw [(List.mem_replicate.mp hk).2, ← len_list]
      exact t.len
    rw [List.length_replicate] at h1
    exact h1
  · rw [repS_list] at hc
    obtain ⟨l, hl, hc⟩ := List.mem_flatten.mp hc
    rw [(List.mem_replicate.mp hl).2] at hc
    exact t.asc c hc
section
variable {X : Cx}
theorem op_repA : OpR X (binaryOp .Mult) (fun x y H Q => ∃ z n, x = .str z ∧ y = .int n ∧ 1 ≤ n ∧ n < 1000000 ∧ z.length * n.toNat ≤ sizeLine ∧ Q (.str (repS z n)) H) := by
  intro pins s σ H x y v u Q I rx ry h
  obtain ⟨z, n, rfl, rfl, h1, h2, hz, q⟩ := h
  by_cases hs : n = 1 ∨ z.length = 0
  · rw [repS_same hs] at q
    obtain ⟨t, rfl⟩ := rx
    obtain ⟨t', rfl⟩ := ry
    have e1 : (n == 1 || z.length == 0) = true := by
      rw [Bool.or_eq_true]
      rcases hs with h | h
      · exact .inl (beq_iff_eq.mpr h)
      · exact .inr (beq_iff_eq.mpr h)
    have hb : ¬ (z.length : Int) > (2 ^ 63 - 1) / n := by
      intro c
      have hs := hz
      rw [sizeLine_eq] at hs
      have h3 : (z.length : Int) * n ≤ 16777216 := by
        have h4 : ((z.length * n.toNat : Nat) : Int) ≤ 16777216 := Int.ofNat_le.mpr hs
        rw [Int.natCast_mul, Int.toNat_of_nonneg (by omega)] at h4
        exact h4
      have h5 : (z.length : Int) ≤ 16777216 := by
        have h6 : (0 : Int) ≤ z.length := by omega
        have h7 : (z.length : Int) * 1 ≤ (z.length : Int) * n := Int.mul_le_mul_of_nonneg_left (by omega) (by omega)
        omega
      have h8 : (2 ^ 63 - 1 : Int) / n ≥ (2 ^ 63 - 1) / 1000000 := by
        have : (2 ^ 63 - 1 : Int) / 1000000 * n ≤ (2 ^ 63 - 1) := by
          have h9 : (2 ^ 63 - 1 : Int) / 1000000 = 9223372036854 := by decide
          rw [h9]
          omega
        exact (Int.le_ediv_iff_mul_le (by omega)).mpr this
      have h10 : (2 ^ 63 - 1 : Int) / 1000000 = 9223372036854 := by decide
      omega
    refine PySem.P.mul_str (by rw [Bool.or_eq_false_iff]; exact ⟨decide_eq_false (by omega), decide_eq_false (by omega)⟩) (fun _ _ => hb) (fun _ _ => ?_) ?_
    · unfold Builtin.Str.tooLong
      exact decide_eq_false (by omega)
    · rw [if_neg (by omega), if_pos e1]
      first
        | exact ⟨.str z, H, I, ⟨t, rfl⟩, q⟩
        | (unfold Made.post; exact ⟨.str z, H, I, ⟨t, rfl⟩, q⟩)
  · refine op_repS pins s σ H _ _ v u Q I rx ry ⟨z, n, rfl, rfl, ?_, h2, fun z => hs (.inr z), hz, q⟩
    have : n ≠ 1 := fun z => hs (.inl z)
    omega
end
end Gd

namespace Gd
open PySem L2
/-! ### what has come since -/
def newer (H H' : Hp) : Hp := fun a => match H a with
  | none => H' a
  | some _ => none
section
variable {H H' H'' : Hp} {a : Addr} {o : HO}
theorem newer_at (h : H a = none) (h' : H' a = some o) : newer H H' a = some o := by
  unfold newer
  rw [h]
  exact h'
theorem newer_of (h : newer H H' a = some o) : H a = none ∧ H' a = some o := by
  unfold newer at h
  cases e : H a with
  | none => rw [e] at h; exact ⟨rfl, h⟩
  | some u => rw [e] at h; exact nomatch h
theorem newer_same : Same (newer H H') H' := fun _ _ h => (newer_of h).2
theorem newer_go (k : ∀ b u, H b = none → H' b = some u → H'' b = some u) : Same (newer H H') (newer H H'') := fun b u h => newer_at (newer_of h).1 (k b u (newer_of h).1 (newer_of h).2)
end
/-! ### data of a depth -/
def Wd : Nat → Nat
  | 0 => 40000
  | n + 1 => 4 * Wd n + 1000
def Item (K : PySem.W.Frag) (G : Hp) (n : Nat) (v : V) : Prop := ∃ d, Da K G v d ∧ Ok1 d ∧ wid d ≤ Wd n ∧ d.depth ≤ n
section
variable {K : PySem.W.Frag} {G G' : Hp} {n : Nat}
theorem Item.same {v : V} (s : Same G G') : Item K G n v → Item K G' n v
  | ⟨d, h, r⟩ => ⟨d, h.same s, r⟩
theorem wd_pos : ∀ n, 1000 ≤ Wd n
  | 0 => by decide
  | n + 1 => by
    show 1000 ≤ 4 * Wd n + 1000
    omega
theorem Item.up {v : V} : Item K G n v → Item K G (n + 1) v
  | ⟨d, h, o, w, p⟩ => ⟨d, h, o, by
    show wid d ≤ 4 * Wd n + 1000
    omega, by omega⟩
theorem items : ∀ {ys : List V}, (∀ y ∈ ys, Item K G n y) → ∃ ds, DaL K G ys ds ∧ OkL ds ∧ widL ds ≤ ys.length * (Wd n + 2) ∧ PyData.depthAll ds ≤ n
  | [], _ => ⟨[], .nil, trivial, Nat.zero_le _, Nat.zero_le _⟩
  | y :: ys, h => by
    obtain ⟨d, h1, h2, h3, h4⟩ := h y List.mem_cons_self
    obtain ⟨ds, g1, g2, g3, g4⟩ := items (ys := ys) fun x hx => h x (List.mem_cons_of_mem _ hx)
    refine ⟨d :: ds, .cons h1 g1, ⟨h2, g2⟩, ?_, ?_⟩
    · show wid d + 2 + widL ds ≤ (ys.length + 1) * (Wd n + 2)
      rw [Nat.succ_mul]
      omega
    · show max d.depth (PyData.depthAll ds) ≤ n
      omega
theorem three {ys : List V} (hl : ys.length ≤ 3) : ys.length * (Wd n + 2) ≤ 3 * (Wd n + 2) := Nat.mul_le_mul_right _ hl
theorem item_lst {a : Addr} {ys : List V} (h : G a = some (.lst ys)) (hl : ys.length ≤ 3) (hy : ∀ y ∈ ys, Item K G n y) : Item K G (n + 1) (.ref a) := by
  obtain ⟨ds, g1, g2, g3, g4⟩ := items hy
  have := three (n := n) hl
  exact ⟨.list ds, .lst h g1, g2, by show widL ds + 2 ≤ 4 * Wd n + 1000; have := wd_pos n; omega, by show PyData.depthAll ds + 1 ≤ n + 1; omega⟩
theorem item_tup {a : Addr} {ys : List V} (h : G a = some (.tup ys)) (hl : ys.length ≤ 3) (hy : ∀ y ∈ ys, Item K G n y) : Item K G (n + 1) (.ref a) := by
  obtain ⟨ds, g1, g2, g3, g4⟩ := items hy
  have := three (n := n) hl
  exact ⟨.tuple ds, .tup (SqT.of h) g1, g2, by show widL ds + 3 ≤ 4 * Wd n + 1000; have := wd_pos n; omega, by show PyData.depthAll ds + 1 ≤ n + 1; omega⟩
/-- a small key -/
def SmK : Key → Prop
  | .inl _ => False
  | .inr x => Tx 5 x
theorem pairs : ∀ {kvs : List (Key × V)}, (∀ kv ∈ kvs, SmK kv.1 ∧ Item K G n kv.2) →
    ∃ ds, DaL K G (kvs.map (·.2)) ds ∧ OkK ((kvs.map fun p => kD p.1).zip ds) ∧ widK ((kvs.map fun p => kD p.1).zip ds) ≤ kvs.length * (Wd n + 60) ∧ PyData.depthKv ((kvs.map fun p => kD p.1).zip ds) ≤ n
  | [], _ => ⟨[], .nil, trivial, Nat.zero_le _, Nat.zero_le _⟩
  | kv :: kvs, h => by
    obtain ⟨hk, d, h1, h2, h3, h4⟩ := h kv List.mem_cons_self
    obtain ⟨ds, g1, g2, g3, g4⟩ := pairs (kvs := kvs) fun x hx => h x (List.mem_cons_of_mem _ hx)
    obtain ⟨k, v⟩ := kv
    cases k with
    | inl i => exact hk.elim
    | inr x =>
      have tx : Tx 5 x := hk
      have := tx.len
      refine ⟨d :: ds, .cons h1 g1, ⟨tx.big, h2, g2⟩, ?_, ?_⟩
      · show (10 * x.length + 2) + wid d + 4 + widK ((kvs.map fun p => kD p.1).zip ds) ≤ (kvs.length + 1) * (Wd n + 60)
        have e : (kvs.length + 1) * (Wd n + 60) = kvs.length * (Wd n + 60) + (Wd n + 60) := Nat.succ_mul _ _
        omega
      · show max (max 0 d.depth) (PyData.depthKv ((kvs.map fun p => kD p.1).zip ds)) ≤ n
        omega
theorem item_dct {a : Addr} {kvs : List (Key × V)} (h : G a = some (.dK kvs)) (hl : kvs.length ≤ 3) (hy : ∀ kv ∈ kvs, SmK kv.1 ∧ Item K G n kv.2) : Item K G (n + 1) (.ref a) := by
  obtain ⟨ds, g1, g2, g3, g4⟩ := pairs hy
  have : kvs.length * (Wd n + 60) ≤ 3 * (Wd n + 60) := Nat.mul_le_mul_right _ hl
  exact ⟨.dict _, .dct h g1, g2, by show widK _ + 2 ≤ 4 * Wd n + 1000; have := wd_pos n; omega, by show PyData.depthKv _ + 1 ≤ n + 1; omega⟩
end
theorem put_all {P : Key → Prop} {R : V → Prop} {acc : List (Key × V)} {k : Key} {v : V} (h : ∀ kv ∈ acc, P kv.1 ∧ R kv.2) (hk : P k) (hv : R v) : ∀ kv ∈ putK acc k v, P kv.1 ∧ R kv.2 := by
  intro kv hm
  unfold putK at hm
  split at hm
  · obtain ⟨u, hu, rfl⟩ := List.mem_map.mp hm
    split
    · exact ⟨(h u hu).1, hv⟩
    · exact h u hu
  · rcases List.mem_append.mp hm with e | e
    · exact h kv e
    · have : kv = (k, v) := by simpa using e
      rw [this]
      exact ⟨hk, hv⟩
theorem merge_all {P : Key → Prop} {R : V → Prop} : ∀ {more acc : List (Key × V)}, (∀ kv ∈ acc, P kv.1 ∧ R kv.2) → (∀ kv ∈ more, P kv.1 ∧ R kv.2) → ∀ kv ∈ mergeK acc more, P kv.1 ∧ R kv.2
  | [], acc, h, _ => h
  | m :: r, acc, h, hm => by
    show ∀ kv ∈ mergeK (putK acc m.1 m.2) r, _
    have := hm m List.mem_cons_self
    exact merge_all (put_all h this.1 this.2) fun x hx => hm x (List.mem_cons_of_mem _ hx)
theorem key_small {i : Nat} (h : i < 4) : Tx 5 (((toString ((i : Nat) : Int) : String)) : Str) := by
  have : i = 0 ∨ i = 1 ∨ i = 2 ∨ i = 3 := by omega
  rcases this with rfl | rfl | rfl | rfl <;> exact .of (by decide +kernel)
end Gd

/-! matrices in the heap: lists or tuples of lists or tuples -/
namespace KM
open PySem PySem.Spec PyProof.Rows L2 Gd Zn
/-- a list (true) or a tuple (false) -/
def so (b : Bool) (xs : List V) : HO := if b then .lst xs else .tup xs
theorem so_sq {K : PySem.W.Frag} {H : Hp} {b : Bool} {p : Addr} {xs : List V} (h : H p = some (so b xs)) : SqV K H b p xs := by
  cases b
  · exact SqT.of h
  · exact SqL.of h
theorem so_any {K : PySem.W.Frag} {H : Hp} {b : Bool} {p : Addr} {xs : List V} (h : H p = some (so b xs)) : SqL K H p xs ∨ SqT K H p xs := by
  cases b
  · exact .inr (SqT.of h)
  · exact .inl (SqL.of h)
theorem so_kind {H : Hp} {b : Bool} {p : Addr} {xs : List V} (h : H p = some (so b xs)) : Pv H (.ref p) ∧ (inst "list" (kind H (.ref p)) || inst "tuple" (kind H (.ref p))) = true := by
  cases b
  · have e : kind H (.ref p) = .tup := by show kindO (H p) = _; rw [h]; rfl
    rw [Pv, e]
    exact ⟨by decide, by decide⟩
  · have e : kind H (.ref p) = .lst := by show kindO (H p) = _; rw [h]; rfl
    rw [Pv, e]
    exact ⟨by decide, by decide⟩
/-- what is walked -/
def ItV (K : PySem.W.Frag) (b : Bool) (a : Addr) : It := if b then Itl K a else Itt K a
def iSq (K : PySem.W.Frag) (te : TE) : TI := fun σ H R => te σ H fun x H1 => ∃ b a xs, x = V.ref a ∧ SqV K H1 b a xs ∧ R (ItV K b a) H1
theorem pi_sq {X : Cx} {tg e : Expr} {te : TE} (he : PE X e te) : PI X tg e (iSq X.K te) := by
  refine ⟨fun pins s σ H R I h => thn (he.run pins s σ H _ I h) fun v s1 ⟨x, H1, I1, r1, b, a, xs, ex, hq, q⟩ => ?_⟩
  subst ex
  obtain rfl : v = Value.ref a := r1
  have fp : ∀ c ∈ [s1.heap.objs.size], FpOk X pins H1 c := fun c hc => by
    obtain rfl : c = s1.heap.objs.size := by simpa using hc
    exact I1.fpOk (Nat.le_refl _) (I1.hok.fresh (Nat.le_refl _))
  cases b with
  | false =>
    obtain ⟨its, rv, pl, hz⟩ := I1.tuple hq
    exact wpAny_pyIter_tuple (show s1.heap.IsTuple a its.toArray from pl) ⟨_, [_], _, _, H1, rfl, I1.kept (t' := s1.toks) fun b o e => Heap.get?_push_of_some _ e, turn_tuple a _, ⟨_, Heap.get?_push_size _ rfl, rfl, rfl⟩, fp, q⟩
  | true =>
    obtain ⟨its, rv, pl, hz⟩ := I1.list hq
    exact wpAny_pyIter_list pl.isList ⟨_, [_], _, _, H1, rfl, I1.kept (t' := s1.toks) fun b o e => Heap.get?_push_of_some _ e, turn_list a _, ⟨_, Heap.get?_push_size _ rfl, rfl, rfl⟩, fp, q⟩
theorem walk_sq {K : PySem.W.Frag} {b : Bool} {a : Addr} {xs : List V} : Walk (ItV K b a) xs.length (fun H => SqV K H b a xs) (YAt xs) := by
  cases b
  · exact walk_tup
  · exact walk_list
/-- rows at their places -/
inductive RwAt (H : Hp) : Bs → List (List V) → Prop
  | nil : RwAt H [] []
  | cons {q : Bool × Addr} {xs : List V} {bs : Bs} {xss : List (List V)} : H q.2 = some (so q.1 xs) → RwAt H bs xss → RwAt H (q :: bs) (xs :: xss)
theorem RwAt.same {H H' : Hp} (s : Same H H') {bs : Bs} {xss : List (List V)} (h : RwAt H bs xss) : RwAt H' bs xss := by
  induction h with
  | nil => exact .nil
  | cons a _ ih => exact .cons (s _ _ a) ih
theorem RwAt.len {H : Hp} {bs : Bs} {xss : List (List V)} (h : RwAt H bs xss) : bs.length = xss.length := by
  induction h with
  | nil => rfl
  | cons _ _ ih => rw [List.length_cons, List.length_cons, ih]
theorem RwAt.rws {K : PySem.W.Frag} {H : Hp} {bs : Bs} {xss : List (List V)} (h : RwAt H bs xss) : Rws K H bs xss := by
  induction h with
  | nil => exact .nil
  | cons a _ ih => exact .cons (so_sq a) ih
theorem RwAt.get {H : Hp} {bs : Bs} {xss : List (List V)} (h : RwAt H bs xss) : ∀ {i : Nat} {x : V}, (bs.map fun q => V.ref q.2)[i]? = some x → ∃ b p xs, x = .ref p ∧ xss[i]? = some xs ∧ H p = some (so b xs) := by
  induction h with
  | nil => exact fun e => by simp at e
  | @cons q xs bs xss a _ ih =>
    intro i x e
    cases i with
    | zero =>
      cases e
      exact ⟨q.1, q.2, xs, rfl, rfl, a⟩
    | succ i => exact ih e
/-- a matrix -/
def MAt (H : Hp) (x : V) (xss : List (List V)) : Prop := ∃ b p bs, x = V.ref p ∧ H p = some (so b (bs.map fun q => V.ref q.2)) ∧ RwAt H bs xss
theorem MAt.same {H H' : Hp} {x : V} {xss : List (List V)} (s : Same H H') : MAt H x xss → MAt H' x xss
  | ⟨b, p, bs, e, h, r⟩ => ⟨b, p, bs, e, s _ _ h, r.same s⟩
theorem MAt.on {H H' : Hp} {x : V} {xss : List (List V)} (h : MAt H x xss) (s : Same H H') : MAt H' x xss := h.same s
/-- n rows of n items -/
def Sqr (n : Nat) (xss : List (List V)) : Prop := xss.length = n ∧ ∀ xs ∈ xss, xs.length = n
/-- lists at their places -/
inductive LsAt (H : Hp) : List Addr → List (List V) → Prop
  | nil : LsAt H [] []
  | cons {p : Addr} {xs : List V} {ps : List Addr} {xss : List (List V)} : H p = some (.lst xs) → LsAt H ps xss → LsAt H (p :: ps) (xs :: xss)
theorem LsAt.same {H H' : Hp} (s : Same H H') {ps : List Addr} {xss : List (List V)} (h : LsAt H ps xss) : LsAt H' ps xss := by
  induction h with
  | nil => exact .nil
  | cons a _ ih => exact .cons (s _ _ a) ih
theorem LsAt.on {H H' : Hp} {ps : List Addr} {xss : List (List V)} (h : LsAt H ps xss) (s : ∀ p ∈ ps, H' p = H p) : LsAt H' ps xss := by
  induction h with
  | nil => exact .nil
  | cons a _ ih => exact .cons ((s _ List.mem_cons_self).trans a) (ih fun p hp => s p (List.mem_cons_of_mem _ hp))
theorem LsAt.len {H : Hp} {ps : List Addr} {xss : List (List V)} (h : LsAt H ps xss) : ps.length = xss.length := by
  induction h with
  | nil => rfl
  | cons _ _ ih => rw [List.length_cons, List.length_cons, ih]
theorem LsAt.snoc {H : Hp} {ps : List Addr} {xss : List (List V)} {p : Addr} {xs : List V} (h : LsAt H ps xss) (hp : H p = some (.lst xs)) : LsAt H (ps ++ [p]) (xss ++ [xs]) := by
  induction h with
  | nil => exact .cons hp .nil
  | cons a _ ih => exact .cons a ih
theorem LsAt.rw {H : Hp} {ps : List Addr} {xss : List (List V)} (h : LsAt H ps xss) : RwAt H (ps.map fun p => (true, p)) xss := by
  induction h with
  | nil => exact .nil
  | cons a _ ih => exact .cons a ih
theorem LsAt.get {H : Hp} {ps : List Addr} {xss : List (List V)} (h : LsAt H ps xss) : ∀ {i : Nat} {p : Addr}, ps[i]? = some p → ∃ xs, xss[i]? = some xs ∧ H p = some (.lst xs) := by
  induction h with
  | nil => exact fun e => by simp at e
  | @cons p xs ps xss a _ ih =>
    intro i x e
    cases i with
    | zero =>
      cases e
      exact ⟨xs, rfl, a⟩
    | succ i => exact ih e
/-- a list of new lists, being made at D in what was H0 -/
structure Bld (H0 : Hp) (D : Addr) (xss : List (List V)) (H : Hp) : Prop where
  ex : ∃ ps, H D = some (.lst (ps.map V.ref)) ∧ LsAt H ps xss ∧ (∀ p ∈ ps, H0 p = none ∧ p ≠ D) ∧ ps.Nodup
  same : Same H0 H
  free : H0 D = none
theorem Bld.nil {H0 : Hp} {D : Addr} (h : H0 D = none) : Bld H0 D [] (upd H0 D (.lst [])) :=
  ⟨⟨[], upd_same, .nil, fun p hp => absurd hp List.not_mem_nil, List.nodup_nil⟩, fun b u hu => by rw [upd_ne (ne_of_none hu h)]; exact hu, h⟩
theorem Bld.ext {H0 H H' : Hp} {D : Addr} {xss : List (List V)} (b : Bld H0 D xss H) (s : Same H H') : Bld H0 D xss H' := by
  obtain ⟨ps, h1, h2, h3, h4⟩ := b.ex
  exact ⟨⟨ps, s _ _ h1, h2.same s, h3, h4⟩, b.same.trans s, b.free⟩
/-- one list more, new behind H -/
theorem Bld.add {H0 H H' : Hp} {D q : Addr} {xss : List (List V)} {xs : List V} (b : Bld H0 D xss H) (hq : H q = none) (s : Same H H') (h : H' q = some (.lst xs)) (hz : xss.length < sizeLine) :
    ∃ acc, H' D = some (.lst acc) ∧ acc.length < sizeLine ∧ Bld H0 D (xss ++ [xs]) (upd H' D (.lst (acc ++ [V.ref q]))) := by
  obtain ⟨ps, h1, h2, h3, h4⟩ := b.ex
  have qD : q ≠ D := fun e => by rw [e, h1] at hq; exact nomatch hq
  have hps : ∀ p ∈ ps, p ≠ D := fun p hp => (h3 p hp).2
  refine ⟨ps.map V.ref, s _ _ h1, by rw [List.length_map, h2.len]; exact hz, ⟨⟨ps ++ [q], by rw [List.map_append]; exact upd_same, ?_, fun p hp => ?_, ?_⟩, fun c u hu => ?_, b.free⟩⟩
  · exact ((h2.same s).on fun p hp => upd_ne (hps p hp)).snoc ((upd_ne qD).trans h)
  · rcases List.mem_append.mp hp with hp | hp
    · exact h3 p hp
    · obtain rfl : p = q := by simpa using hp
      refine ⟨?_, qD⟩
      cases e : H0 p with
      | none => rfl
      | some u => rw [b.same _ _ e] at hq; exact nomatch hq
  · refine List.nodup_append.mpr ⟨h4, by simp, fun a ha c hc e => ?_⟩
    obtain rfl : c = q := by simpa using hc
    subst e
    obtain ⟨i, hi⟩ := List.getElem?_of_mem ha
    obtain ⟨ys, _, hy⟩ := h2.get hi
    rw [hy] at hq
    exact nomatch hq
  · have : c ≠ D := fun e => by rw [e, b.free] at hu; exact nomatch hu
    rw [upd_ne this]
    exact s _ _ (b.same _ _ hu)
/-- a list of new lists -/
def NewM (H H' : Hp) (x : V) (xss : List (List V)) : Prop := ∃ D, x = V.ref D ∧ Bld H D xss H'
theorem NewM.same {H H' : Hp} {x : V} {xss : List (List V)} : NewM H H' x xss → Same H H'
  | ⟨_, _, b⟩ => b.same
theorem NewM.mat {H H' : Hp} {x : V} {xss : List (List V)} : NewM H H' x xss → MAt H' x xss
  | ⟨D, e, b⟩ => by
    obtain ⟨ps, h1, h2, _, _⟩ := b.ex
    exact ⟨true, D, ps.map fun p => (true, p), e, by rw [List.map_map]; exact h1, h2.rw⟩
/-- values into a new list -/
structure Vls (H0 : Hp) (D : Addr) (ys : List V) (H : Hp) : Prop where
  at_ : H D = some (.lst ys)
  same : Same H0 H
  free : H0 D = none
theorem Vls.nil {H0 : Hp} {D : Addr} (h : H0 D = none) : Vls H0 D [] (upd H0 D (.lst [])) := ⟨upd_same, fun b u hu => by rw [upd_ne (ne_of_none hu h)]; exact hu, h⟩
theorem Vls.ext {H0 H H' : Hp} {D : Addr} {ys : List V} (b : Vls H0 D ys H) (s : Same H H') : Vls H0 D ys H' := ⟨s _ _ b.at_, b.same.trans s, b.free⟩
theorem Vls.add {H0 H : Hp} {D : Addr} {ys : List V} {y : V} (b : Vls H0 D ys H) (hz : ys.length < sizeLine) : ∃ acc, H D = some (.lst acc) ∧ acc.length < sizeLine ∧ Vls H0 D (ys ++ [y]) (upd H D (.lst (acc ++ [y]))) :=
  ⟨ys, b.at_, hz, upd_same, fun c u hu => by
    have : c ≠ D := fun e => by rw [e, b.free] at hu; exact nomatch hu
    rw [upd_ne this]
    exact b.same _ _ hu, b.free⟩
theorem upd_new {H : Hp} {q : Addr} {o : HO} (h : H q = none) : Same H (upd H q o) := fun b u hu => by
  rw [upd_ne (ne_of_none hu h)]
  exact hu
theorem take_succ {α : Type} {l : List α} {i : Nat} {x : α} (h : l[i]? = some x) : l.take (i + 1) = l.take i ++ [x] := by
  rw [List.take_add_one, h]
  rfl

/-- a walk in a comprehension, whatever is asked of each turn -/
theorem out_it {J : It} {n : Nat} {G : Hp → Prop} {Y : Nat → Hp → V → Hp → Prop} (w : Walk J n G Y) {B : V → Hp → (Hp → Prop) → Prop} {H0 : Hp} {Qd : Hp → Prop} (Pv : Nat → Hp → Prop) (h0 : Pv 0 H0) (hG : ∀ i H, i ≤ n → Pv i H → G H)
    (hs : ∀ i x H H', i < n → Pv i H → Y i H x H' → B x H' (Pv (i + 1))) (hd : ∀ H, Pv n H → Qd H) :
    ∃ W : Nat → Nat → Hp → Prop, (∃ m, W 0 m H0) ∧ ∀ i m H, W i m H → (J.stop i H ∧ Qd H) ∨ (J.go i H ∧ ∃ Nx : Hp → Prop, (∀ H', Nx H' → ∃ m', m' < m ∧ W (i + 1) m' H') ∧ ∀ x H', J.yld i H x H' → B x H' Nx) := by
  refine ⟨fun i m H => m + i = n ∧ Pv i H, ⟨n, rfl, h0⟩, ?_⟩
  rintro i m H ⟨e, p⟩
  have q := hG i H (by omega) p
  by_cases hlt : (i < n)
  · exact .inr ⟨w.goes i H hlt q, Pv (i + 1), fun H' p' => ⟨m - 1, by omega, by omega, p'⟩, fun x H' y => hs i x H H' hlt p (w.yields i H x H' hlt q y)⟩
  · obtain rfl : i = n := by omega
    exact .inl ⟨w.stops H q, hd H p⟩
theorem pi_zipPK {K : PySem.W.Frag} {X : Cx} (h : X.K = K) {tg e e2 : Expr} {ta : TA} {p pos : Pos} (hg : Gl X "zip") (hm : X.mg "zip" = none) (ha : PA X [e, e2] ta)
    (hs : starEach [e, e2] X.env = (false, eval e X.env) :: starEach [e2] X.env := by rfl) (hpl : (backTo pos (starEach [e2] X.env)).any (·.1) = false := by rfl) : PI X tg (.Call (.Name "zip" p) [e, e2] [] pos) (iZipP K ta) := by
  subst h
  exact pi_zipP hg hm ha hs hpl
/-! ### rules within a comprehension, the written part named -/
def rLen (K : PySem.W.Frag) : List V → Hp → VK → Prop := fun xs H Q => ∃ p ys, xs = [V.ref p] ∧ (SqL K H p ys ∨ SqT K H p ys) ∧ Q (.int ys.length) H
def rListOf (K : PySem.W.Frag) : List V → Hp → VK → Prop := fun xs H Q => ∃ p ys, xs = [V.ref p] ∧ (SqL K H p ys ∨ SqT K H p ys) ∧ ∀ l, H l = none → Q (.ref l) (upd H l (.lst ys))
def rTupOf (K : PySem.W.Frag) : List V → Hp → VK → Prop := fun xs H Q => ∃ p ys, xs = [V.ref p] ∧ ((SqL K H p ys ∧ ∀ l, H l = none → Q (.ref l) (upd H l (.tup ys))) ∨ (SqT K H p ys ∧ Q (.ref p) H))
section
variable {K : PySem.W.Frag} {X : Cx} (h : X.K = K)
include h
theorem call_lenK : CallR X (.builtin "len") (rLen K) := by subst h; exact call_len_seq
theorem call_listK : CallR X (.type "list") (rListOf K) := by subst h; exact call_list_of
theorem call_tupleK : CallR X (.type "tuple") (rTupOf K) := by subst h; exact call_tuple_of
theorem cr_minK (hc : X.calm = true) : CallR X (.builtin "min") (rMin K) := by subst h; exact cr_min hc
theorem ix_listK : IxR X (rIxL K) := by subst h; exact ix_list
theorem pg_tupK {es : List Expr} {k : Nat} {pos : Pos} {t : TGs} {n : Nat} (hc : X.calm = true) (hs : PGs X es t) (hn : (assignEach es X.env).length = n := by rfl) (hst : (assignEach es X.env).findIdx? (·.1) = none := by rfl) : PG X (.Tuple es k pos) (gTup K n t) := by
  subst h
  exact pg_tup hc hs hn hst
theorem pi_listK {tg l : Expr} {tl : TE} (hl : PE X l tl) : PI X tg l (iList K tl) := by subst h; exact pi_list hl
theorem pi_sqK {tg l : Expr} {tl : TE} (hl : PE X l tl) : PI X tg l (iSq K tl) := by subst h; exact pi_sq hl
end
end KM

/-! matrices as data: compared and written -/
namespace KM
open PySem PySem.Spec PyProof.Rows L2 Gd Zn
/-- None or an integer that is not too long -/
def Itm (v : V) : Prop := v = .non ∨ ∃ i : Int, v = .int i ∧ i.natAbs < 2 ^ 200
def dI : V → PyData
  | .int i => .int i
  | _ => .none
def dR (xs : List V) : PyData := .list (xs.map dI)
def dM (xss : List (List V)) : PyData := .list (xss.map dR)
theorem dp_row {K : PySem.W.Frag} {H : Hp} : ∀ {xs : List V}, (∀ v ∈ xs, Itm v) → DpAll K H xs (xs.map dI)
  | [], _ => .nil
  | v :: xs, h => .cons (by
      rcases h v List.mem_cons_self with rfl | ⟨i, rfl, _⟩
      · exact .non
      · exact .int i) (dp_row fun u hu => h u (List.mem_cons_of_mem _ hu))
theorem da_row {K : PySem.W.Frag} {H : Hp} : ∀ {xs : List V}, (∀ v ∈ xs, Itm v) → DaL K H xs (xs.map dI)
  | [], _ => .nil
  | v :: xs, h => .cons (by
      rcases h v List.mem_cons_self with rfl | ⟨i, rfl, _⟩
      · exact .non
      · exact .int i) (da_row fun u hu => h u (List.mem_cons_of_mem _ hu))
def All (p : V → Prop) (xss : List (List V)) : Prop := ∀ xs ∈ xss, ∀ v ∈ xs, p v
theorem All.mono {p q : V → Prop} {xss : List (List V)} (h : All p xss) (k : ∀ v, p v → q v) : All q xss := fun xs hx v hv => k v (h xs hx v hv)
theorem dp_rows {K : PySem.W.Frag} {H : Hp} {ps : List Addr} {xss : List (List V)} (h : LsAt H ps xss) (c : All Itm xss) : DpAll K H (ps.map V.ref) (xss.map dR) := by
  induction h with
  | nil => exact .nil
  | @cons p xs ps xss a _ ih => exact .cons (.lst (SqL.of a) (dp_row fun v hv => c _ List.mem_cons_self v hv)) (ih fun xs hx => c xs (List.mem_cons_of_mem _ hx))
theorem da_rows {K : PySem.W.Frag} {H : Hp} {ps : List Addr} {xss : List (List V)} (h : LsAt H ps xss) (c : All Itm xss) : DaL K H (ps.map V.ref) (xss.map dR) := by
  induction h with
  | nil => exact .nil
  | @cons p xs ps xss a _ ih => exact .cons (.lst a (da_row fun v hv => c _ List.mem_cons_self v hv)) (ih fun xs hx => c xs (List.mem_cons_of_mem _ hx))
/-- as lists of lists -/
def LMat (H : Hp) (x : V) (xss : List (List V)) : Prop := ∃ D ps, x = V.ref D ∧ H D = some (.lst (ps.map V.ref)) ∧ LsAt H ps xss
theorem LMat.same {H H' : Hp} {x : V} {xss : List (List V)} (s : Same H H') : LMat H x xss → LMat H' x xss
  | ⟨D, ps, e, h, r⟩ => ⟨D, ps, e, s _ _ h, r.same s⟩
theorem LMat.mat {H : Hp} {x : V} {xss : List (List V)} : LMat H x xss → MAt H x xss
  | ⟨D, ps, e, h, r⟩ => ⟨true, D, ps.map fun p => (true, p), e, by rw [List.map_map]; exact h, r.rw⟩
theorem NewM.lm {H H' : Hp} {x : V} {xss : List (List V)} : NewM H H' x xss → LMat H' x xss
  | ⟨D, e, b⟩ => by
    obtain ⟨ps, h1, h2, _, _⟩ := b.ex
    exact ⟨D, ps, e, h1, h2⟩
theorem LMat.dp {K : PySem.W.Frag} {H : Hp} {x : V} {xss : List (List V)} (c : All Itm xss) : LMat H x xss → Dp K H x (dM xss)
  | ⟨D, ps, e, h, r⟩ => by
    subst e
    exact .lst (SqL.of h) (dp_rows r c)
theorem LMat.da {K : PySem.W.Frag} {H : Hp} {x : V} {xss : List (List V)} (c : All Itm xss) : LMat H x xss → Da K H x (dM xss)
  | ⟨D, ps, e, h, r⟩ => by
    subst e
    exact .lst h (da_rows r c)
theorem dI_lay (v : V) : (dI v).canLay0 = true ∧ (dI v).depth = 0 := by cases v <;> exact ⟨by first | rfl | simp [dI, PyData.canLay0], rfl⟩
theorem shaped_M (xss : List (List V)) : SeqAt.shaped (dM xss) = true := by
  have r1 : ∀ xs : List V, PyData.canLayAll0 (xs.map dI) = true ∧ PyData.depthAll (xs.map dI) = 0 := by
    intro xs
    induction xs with
    | nil => exact ⟨by simp [PyData.canLayAll0], rfl⟩
    | cons v xs ih =>
      obtain ⟨a, b⟩ := dI_lay v
      refine ⟨by simp [PyData.canLayAll0, a, ih.1], ?_⟩
      show max (dI v).depth (PyData.depthAll (xs.map dI)) = 0
      rw [b, ih.2]
      rfl
  have r2 : PyData.canLayAll0 (xss.map dR) = true ∧ PyData.depthAll (xss.map dR) ≤ 1 := by
    induction xss with
    | nil => exact ⟨by simp [PyData.canLayAll0], Nat.zero_le _⟩
    | cons xs xss ih =>
      obtain ⟨a, b⟩ := r1 xs
      refine ⟨by simp [PyData.canLayAll0, ih.1, dR, PyData.canLay0, a], ?_⟩
      show max (PyData.depthAll (xs.map dI) + 1) (PyData.depthAll (xss.map dR)) ≤ 1
      rw [b]
      omega
  unfold SeqAt.shaped
  have e1 : (dM xss).canLay0 = true := by simp [dM, PyData.canLay0, r2.1]
  have e2 : (dM xss).depth ≤ 64 := by
    show PyData.depthAll (xss.map dR) + 1 ≤ 64
    omega
  rw [e1, decide_eq_true e2]
  rfl
theorem log_small {i : Int} (h : i.natAbs < 2 ^ 200) : i.natAbs.log2 < 200 := by
  rcases Nat.eq_zero_or_pos i.natAbs with e | e
  · rw [e]; decide
  · exact (Nat.log2_lt (by omega)).mpr h
theorem row_ok : ∀ {xs : List V}, (∀ v ∈ xs, Itm v) → OkL (xs.map dI) ∧ widL (xs.map dI) ≤ 205 * xs.length ∧ PyData.depthAll (xs.map dI) = 0
  | [], _ => ⟨trivial, Nat.zero_le _, rfl⟩
  | v :: xs, h => by
    obtain ⟨a, b, c⟩ := row_ok (xs := xs) fun u hu => h u (List.mem_cons_of_mem _ hu)
    rcases h v List.mem_cons_self with rfl | ⟨i, rfl, hi⟩
    · refine ⟨⟨trivial, a⟩, ?_, ?_⟩
      · show 4 + 2 + widL (xs.map dI) ≤ _
        rw [List.length_cons]
        omega
      · show max 0 (PyData.depthAll (xs.map dI)) = 0
        rw [c]
        rfl
    · have := log_small hi
      refine ⟨⟨by show i.natAbs.log2 < 1920; omega, a⟩, ?_, ?_⟩
      · show i.natAbs.log2 + 3 + 2 + widL (xs.map dI) ≤ _
        rw [List.length_cons]
        omega
      · show max 0 (PyData.depthAll (xs.map dI)) = 0
        rw [c]
        rfl
theorem mat_ok {n : Nat} (hn : n ≤ 12) : ∀ {xss : List (List V)}, (∀ xs ∈ xss, xs.length ≤ n) → All Itm xss → OkL (xss.map dR) ∧ widL (xss.map dR) ≤ 3000 * xss.length ∧ PyData.depthAll (xss.map dR) ≤ 1
  | [], _, _ => ⟨trivial, Nat.zero_le _, Nat.zero_le _⟩
  | xs :: xss, l, h => by
    obtain ⟨a, b, c⟩ := mat_ok hn (xss := xss) (fun u hu => l u (List.mem_cons_of_mem _ hu)) fun u hu => h u (List.mem_cons_of_mem _ hu)
    obtain ⟨a1, b1, c1⟩ := row_ok (h xs List.mem_cons_self)
    have l1 := l xs List.mem_cons_self
    refine ⟨⟨a1, a⟩, ?_, ?_⟩
    · show widL (xs.map dI) + 2 + 2 + widL (xss.map dR) ≤ _
      rw [List.length_cons]
      omega
    · show max (PyData.depthAll (xs.map dI) + 1) (PyData.depthAll (xss.map dR)) ≤ 1
      rw [c1]
      omega
/-- written -/
theorem M_ok {n : Nat} {xss : List (List V)} (hn : n ≤ 12) (sq : Sqr n xss) (h : All Itm xss) : Ok1 (dM xss) ∧ wid (dM xss) ≤ 40000 ∧ (dM xss).depth ≤ 2 := by
  obtain ⟨a, b, c⟩ := mat_ok hn (fun xs hx => by rw [sq.2 xs hx]; exact Nat.le_refl _) h
  refine ⟨a, ?_, ?_⟩
  · show widL (xss.map dR) + 2 ≤ _
    rw [sq.1] at b
    omega
  · show PyData.depthAll (xss.map dR) + 1 ≤ 2
    omega
end KM

/-! the pool at p, and all the data beside it -/
namespace KM
open PySem L2 Gd Zn
/-- all but what stands at p -/
def Gp (H : Hp) (p : Addr) : Hp := fun a => if a = p then none else H a
structure Pool (G H : Hp) (p : Addr) : Prop where
  b : BoxAt H p
  s : Same G H
  n : G p = none
theorem gp_ne {H : Hp} {p a : Addr} (h : a ≠ p) : Gp H p a = H a := if_neg h
theorem gp_at {H : Hp} {p a : Addr} {o : HO} (h : a ≠ p) (e : H a = some o) : Gp H p a = some o := (gp_ne h).trans e
theorem gp_same {H : Hp} {p : Addr} : Same (Gp H p) H := fun a o e => by
  by_cases c : (a = p)
  · subst c
    rw [show Gp H a a = none from if_pos rfl] at e
    exact nomatch e
  · rw [gp_ne c] at e
    exact e
theorem Pool.take {G H H' : Hp} {p : Addr} (P : Pool G H p) (t : Turned H H' p) : Pool G H' p :=
  ⟨t.1, fun a o e => t.at (fun x => by rw [x, P.n] at e; exact nomatch e) (P.s a o e), P.n⟩
theorem Pool.go {G H H' : Hp} {p : Addr} (P : Pool G H p) (s : Same H H') : Pool G H' p := by
  obtain ⟨x, y, z, h, r⟩ := P.b
  exact ⟨⟨x, y, z, s _ _ h, r⟩, P.s.trans s, P.n⟩
/-- all that stands by now -/
theorem Pool.all {G H : Hp} {p : Addr} (P : Pool G H p) : Pool (Gp H p) H p ∧ Same G (Gp H p) :=
  ⟨⟨P.b, gp_same, if_pos rfl⟩, fun a o e => gp_at (fun x => by rw [x, P.n] at e; exact nomatch e) (P.s a o e)⟩
theorem Pool.ne {G H : Hp} {p a : Addr} (P : Pool G H p) (h : H a = none) : a ≠ p := fun e => by
  obtain ⟨o, ho⟩ := P.b.some
  rw [e, ho] at h
  exact nomatch h
theorem Pool.new {G H : Hp} {p a : Addr} {o : HO} (P : Pool G H p) (h : H a = none) : Pool (upd G a o) (upd H a o) p := by
  have hne := P.ne h
  refine ⟨P.b.upd h, fun c u e => ?_, by rw [upd_ne hne.symm]; exact P.n⟩
  by_cases x : (c = a)
  · subst x
    rw [upd_same] at e ⊢
    exact e
  · rw [upd_ne x] at e ⊢
    exact P.s c u e
theorem Pool.fresh {G H : Hp} {p a : Addr} (P : Pool G H p) (h : H a = none) : G a = none := by
  cases e : G a with
  | none => rfl
  | some u => rw [P.s _ _ e] at h; exact nomatch h
theorem Pool.put {G H : Hp} {p a : Addr} {o : HO} (P : Pool G H p) (hp : a ≠ p) (h : G a = none) : Pool G (upd H a o) p := by
  obtain ⟨x, y, z, e, r⟩ := P.b
  refine ⟨⟨x, y, z, by rw [upd_ne hp.symm]; exact e, r⟩, fun c u e => ?_, P.n⟩
  have : c ≠ a := fun x => by rw [x, h] at e; exact nomatch e
  rw [upd_ne this]
  exact P.s c u e
/-- what stands at a is counted to the data -/
theorem Pool.own {G H : Hp} {p a : Addr} {o : HO} (P : Pool G H p) (hp : a ≠ p) (h : G a = none) (e : H a = some o) : Pool (upd G a o) H p ∧ Same G (upd G a o) := by
  refine ⟨⟨P.b, fun c u hc => ?_, by rw [upd_ne hp.symm]; exact P.n⟩, upd_new h⟩
  by_cases x : (c = a)
  · subst x
    rw [upd_same] at hc
    rw [e]
    exact hc
  · rw [upd_ne x] at hc
    exact P.s c u hc
theorem NewM.gp {G H H' : Hp} {p : Addr} {x : V} {xss : List (List V)} (P : Pool G H p) : NewM H H' x xss → LMat (Gp H' p) x xss
  | ⟨D, e, b⟩ => by
    obtain ⟨ps, h1, h2, h3, _⟩ := b.ex
    exact ⟨D, ps, e, gp_at (P.ne b.free) h1, h2.on fun q hq => gp_ne (P.ne (h3 q hq).1)⟩
end KM

/-! patterns: lists of letters and of repetitions; their lengths and texts; in the heap, as lists or as tuples -/
namespace KP
open PySem PySem.Spec PyProof.Rows L2 Gd Zn KM
inductive Pt where
  | ch (c : Nat)
  | rep (l : List Pt)
mutual
def Pt.dep : Pt → Nat
  | .ch _ => 0
  | .rep l => deps l + 1
def deps : List Pt → Nat
  | [] => 0
  | p :: l => max p.dep (deps l)
end
mutual
def Pt.nod : Pt → Nat
  | .ch _ => 1
  | .rep l => nods l + 1
def nods : List Pt → Nat
  | [] => 0
  | p :: l => p.nod + nods l
end
mutual
def Pt.Wf : Pt → Prop
  | .ch c => low c = true
  | .rep l => 1 ≤ l.length ∧ Wfs l
def Wfs : List Pt → Prop
  | [] => True
  | p :: l => p.Wf ∧ Wfs l
end
mutual
/-- the length of the text -/
def plen (n : Int) : Pt → Int
  | .ch _ => 1
  | .rep l => n * plens n l
def plens (n : Int) : List Pt → Int
  | [] => 0
  | p :: l => plen n p + plens n l
end
mutual
/-- the text -/
def ptx (n : Int) : Pt → Str
  | .ch c => ⟨#[c]⟩
  | .rep l => repS (Txt.join "" (ptl n l)) n
def ptl (n : Int) : List Pt → List Str
  | [] => []
  | p :: l => ptx n p :: ptl n l
end
def ptxs (n : Int) (l : List Pt) : Str := Txt.join "" (ptl n l)
abbrev sRep : Str := "repeat"
mutual
inductive PtAt (H : Hp) (b : Bool) : V → Pt → Prop
  | ch {c : Nat} : PtAt H b (.str ⟨#[c]⟩) (.ch c)
  | rep {a q : Addr} {vs : List V} {l : List Pt} : H a = some (.tup [.str sRep, .ref q]) → H q = some (so b vs) → PtsAt H b vs l → PtAt H b (.ref a) (.rep l)
inductive PtsAt (H : Hp) (b : Bool) : List V → List Pt → Prop
  | nil : PtsAt H b [] []
  | cons {v : V} {vs : List V} {p : Pt} {l : List Pt} : PtAt H b v p → PtsAt H b vs l → PtsAt H b (v :: vs) (p :: l)
end
/-- a pattern: its list or tuple at an address -/
def LiAt (H : Hp) (b : Bool) (v : V) (l : List Pt) : Prop := ∃ q vs, v = .ref q ∧ H q = some (so b vs) ∧ PtsAt H b vs l
section
variable {H H' : Hp} {b : Bool}
mutual
theorem PtAt.same (e : Same H H') : ∀ {v : V} {p : Pt}, PtAt H b v p → PtAt H' b v p
  | _, _, .ch => .ch
  | _, _, .rep h g t => .rep (e _ _ h) (e _ _ g) (PtsAt.same e t)
theorem PtsAt.same (e : Same H H') : ∀ {vs : List V} {l : List Pt}, PtsAt H b vs l → PtsAt H' b vs l
  | _, _, .nil => .nil
  | _, _, .cons h r => .cons (PtAt.same e h) (PtsAt.same e r)
end
theorem LiAt.same (e : Same H H') {v : V} {l : List Pt} : LiAt H b v l → LiAt H' b v l
  | ⟨q, vs, ev, h, r⟩ => ⟨q, vs, ev, e _ _ h, r.same e⟩
theorem PtsAt.length : ∀ {vs : List V} {l : List Pt}, PtsAt H b vs l → vs.length = l.length
  | _, _, .nil => rfl
  | _, _, .cons _ r => by rw [List.length_cons, List.length_cons, r.length]
theorem PtsAt.at : ∀ {vs : List V} {l : List Pt} {i : Nat} {v : V}, PtsAt H b vs l → vs[i]? = some v → ∃ p, l[i]? = some p ∧ PtAt H b v p
  | _, _, 0, _, .cons h _, e => by
    injection e with e
    subst e
    exact ⟨_, rfl, h⟩
  | _, _, i + 1, _, .cons _ r, e => PtsAt.at (i := i) r e
theorem PtsAt.snoc : ∀ {vs : List V} {l : List Pt} {v : V} {p : Pt}, PtsAt H b vs l → PtAt H b v p → PtsAt H b (vs ++ [v]) (l ++ [p])
  | _, _, _, _, .nil, h => .cons h .nil
  | _, _, _, _, .cons g r, h => .cons g (PtsAt.snoc r h)
theorem PtsAt.rep {v : V} {p : Pt} (h : PtAt H b v p) : ∀ n : Nat, PtsAt H b (List.replicate n v) (List.replicate n p)
  | 0 => .nil
  | n + 1 => .cons h (PtsAt.rep h n)
end
/-! ### measures -/
theorem deps_at : ∀ {l : List Pt} {i : Nat} {p : Pt}, l[i]? = some p → p.dep ≤ deps l
  | [], _, _, e => nomatch e
  | u :: l, 0, t, e => by
    injection e with e
    subst e
    exact Nat.le_max_left _ _
  | u :: l, i + 1, t, e => Nat.le_trans (deps_at (l := l) (i := i) e) (Nat.le_max_right _ _)
theorem nods_at : ∀ {l : List Pt} {i : Nat} {p : Pt}, l[i]? = some p → p.nod ≤ nods l
  | [], _, _, e => nomatch e
  | u :: l, 0, t, e => by
    injection e with e
    subst e
    exact Nat.le_add_right _ _
  | u :: l, i + 1, t, e => Nat.le_trans (nods_at (l := l) (i := i) e) (Nat.le_add_left _ _)
theorem wfs_at : ∀ {l : List Pt} {i : Nat} {p : Pt}, Wfs l → l[i]? = some p → p.Wf
  | [], _, _, _, e => nomatch e
  | u :: l, 0, t, h, e => by
    injection e with e
    subst e
    exact h.1
  | u :: l, i + 1, t, h, e => wfs_at (l := l) (i := i) h.2 e
theorem nod_pos : ∀ p : Pt, 1 ≤ p.nod
  | .ch _ => Nat.le_refl _
  | .rep _ => Nat.le_add_left _ _
theorem nods_len : ∀ l : List Pt, l.length ≤ nods l
  | [] => Nat.le_refl _
  | p :: l => by
    have := nod_pos p
    have := nods_len l
    show l.length + 1 ≤ p.nod + nods l
    omega
theorem nods_app : ∀ l m : List Pt, nods (l ++ m) = nods l + nods m
  | [], m => by show nods m = 0 + nods m; omega
  | p :: l, m => by
    have := nods_app l m
    show p.nod + nods (l ++ m) = p.nod + nods l + nods m
    omega
theorem deps_app : ∀ l m : List Pt, deps (l ++ m) = max (deps l) (deps m)
  | [], m => by show deps m = max 0 (deps m); omega
  | p :: l, m => by
    have := deps_app l m
    show max p.dep (deps (l ++ m)) = max (max p.dep (deps l)) (deps m)
    omega
theorem wfs_app : ∀ {l m : List Pt}, Wfs l → Wfs m → Wfs (l ++ m)
  | [], _, _, h => h
  | p :: l, m, h, g => ⟨h.1, wfs_app (l := l) h.2 g⟩
theorem plens_app (n : Int) : ∀ l m : List Pt, plens n (l ++ m) = plens n l + plens n m
  | [], m => by show plens n m = 0 + plens n m; omega
  | p :: l, m => by
    have := plens_app n l m
    show plen n p + plens n (l ++ m) = plen n p + plens n l + plens n m
    omega
theorem ptl_app (n : Int) : ∀ l m : List Pt, ptl n (l ++ m) = ptl n l ++ ptl n m
  | [], m => rfl
  | p :: l, m => by
    show ptx n p :: ptl n (l ++ m) = ptx n p :: (ptl n l ++ ptl n m)
    rw [ptl_app n l m]
theorem ptl_len (n : Int) : ∀ l : List Pt, (ptl n l).length = l.length
  | [] => rfl
  | p :: l => by
    show (ptl n l).length + 1 = l.length + 1
    rw [ptl_len n l]
theorem ptl_at (n : Int) : ∀ {l : List Pt} {i : Nat} {p : Pt}, l[i]? = some p → (ptl n l)[i]? = some (ptx n p)
  | [], _, _, e => nomatch e
  | u :: l, 0, t, e => by
    injection e with e
    subst e
    rfl
  | u :: l, i + 1, t, e => ptl_at n (l := l) (i := i) e
theorem plens_take (n : Int) {l : List Pt} {i : Nat} {p : Pt} (e : l[i]? = some p) : plens n (l.take (i + 1)) = plens n (l.take i) + plen n p := by
  rw [take_succ e, plens_app]
  show plens n (l.take i) + (plen n p + 0) = _
  omega
mutual
theorem plen_pos {n : Int} (hn : 1 ≤ n) : ∀ p : Pt, 0 ≤ plen n p
  | .ch _ => by show (0 : Int) ≤ 1; decide
  | .rep l => Int.mul_nonneg (by omega) (plens_pos hn l)
theorem plens_pos {n : Int} (hn : 1 ≤ n) : ∀ l : List Pt, 0 ≤ plens n l
  | [] => Int.le_refl _
  | p :: l => Int.add_nonneg (plen_pos hn p) (plens_pos hn l)
end
theorem plen_at {n : Int} (hn : 1 ≤ n) : ∀ {l : List Pt} {i : Nat} {p : Pt}, l[i]? = some p → plen n p ≤ plens n l
  | [], _, _, e => nomatch e
  | u :: l, 0, t, e => by
    injection e with e
    subst e
    have := plens_pos hn l
    show plen n u ≤ plen n u + plens n l
    omega
  | u :: l, i + 1, t, e => by
    have h1 := plen_at hn (l := l) (i := i) e
    have h2 := plen_pos hn u
    show plen n t ≤ plen n u + plens n l
    omega
theorem plens_le_rep {n : Int} (hn : 1 ≤ n) (l : List Pt) : plens n l ≤ plen n (.rep l) := by
  have h := plens_pos hn l
  have := Int.mul_le_mul_of_nonneg_right hn h
  show plens n l ≤ n * plens n l
  omega
theorem repS_len (x : Str) (n : Int) : (repS x n).length = n.toNat * x.length := by
  rw [Gd.len_list, repS_list, List.length_flatten, List.map_replicate, List.sum_replicate_nat, Gd.len_list]
theorem joinE_len (l : List Str) : (Txt.join "" l).length = (l.map (·.length)).sum := by rw [join_str, join_empty_len]
mutual
theorem ptx_len {n : Int} (hn : 1 ≤ n) : ∀ p : Pt, ((ptx n p).length : Int) = plen n p
  | .ch c => rfl
  | .rep l => by
    have h := ptl_sum hn l
    show (((repS (Txt.join "" (ptl n l)) n).length : Nat) : Int) = n * plens n l
    rw [repS_len, joinE_len, Int.natCast_mul, h, Int.toNat_of_nonneg (by omega)]
theorem ptl_sum {n : Int} (hn : 1 ≤ n) : ∀ l : List Pt, ((((ptl n l).map (·.length)).sum : Nat) : Int) = plens n l
  | [] => rfl
  | p :: l => by
    have h1 := ptx_len hn p
    have h2 := ptl_sum hn l
    show (((ptx n p).length + ((ptl n l).map (·.length)).sum : Nat) : Int) = plen n p + plens n l
    rw [Int.natCast_add, h1, h2]
end
theorem ptxs_len {n : Int} (hn : 1 ≤ n) (l : List Pt) : ((ptxs n l).length : Int) = plens n l := by
  unfold ptxs
  rw [joinE_len, ptl_sum hn]
/-! ### as data -/
mutual
def dPt : Pt → PyData
  | .ch c => .str ⟨#[c]⟩
  | .rep l => .tuple [.str sRep, .list (dPts l)]
def dPts : List Pt → List PyData
  | [] => []
  | p :: l => dPt p :: dPts l
end
section
variable {K : PySem.W.Frag} {H : Hp}
mutual
theorem PtAt.da : ∀ {v : V} {p : Pt}, PtAt H true v p → Da K H v (dPt p)
  | _, _, .ch => .str _
  | _, _, .rep h g t => .tup (SqT.of h) (.cons (.str _) (.cons (.lst g (PtsAt.da t)) .nil))
theorem PtsAt.da : ∀ {vs : List V} {l : List Pt}, PtsAt H true vs l → DaL K H vs (dPts l)
  | _, _, .nil => .nil
  | _, _, .cons h r => .cons (PtAt.da h) (PtsAt.da r)
end
theorem LiAt.da {v : V} {l : List Pt} : LiAt H true v l → Da K H v (.list (dPts l))
  | ⟨q, vs, e, h, r⟩ => by
    subst e
    exact .lst h r.da
end
theorem low_small {c : Nat} (h : low c = true) : 97 ≤ c ∧ c ≤ 122 := by
  unfold low at h
  rw [Bool.and_eq_true, decide_eq_true_eq, decide_eq_true_eq] at h
  exact h
mutual
theorem dPt_ok : ∀ {p : Pt}, p.Wf → Ok1 (dPt p) ∧ wid (dPt p) + 2 ≤ 80 * p.nod ∧ (dPt p).depth ≤ 2 * p.dep
  | .ch c, h => by
    have := low_small h
    refine ⟨fun d hd => ?_, ?_, Nat.le_refl _⟩
    · have : d = c := by simpa using hd
      have : (16 : Nat) ^ 8 = 4294967296 := by decide
      omega
    · show 10 * 1 + 2 + 2 ≤ 80 * 1
      decide
  | .rep l, h => by
    obtain ⟨a, b, c⟩ := dPts_ok (l := l) h.2
    refine ⟨⟨(Tx.of (n := 10) (by decide +kernel) : Tx 10 sRep).big, a, trivial⟩, ?_, ?_⟩
    · have e : sRep.length = 6 := by decide +kernel
      show (10 * sRep.length + 2) + 2 + ((widL (dPts l) + 2) + 2 + 0) + 3 + 2 ≤ 80 * (nods l + 1)
      omega
    · show max 0 (max (PyData.depthAll (dPts l) + 1) 0) + 1 ≤ 2 * (deps l + 1)
      omega
theorem dPts_ok : ∀ {l : List Pt}, Wfs l → OkL (dPts l) ∧ widL (dPts l) ≤ 80 * nods l ∧ PyData.depthAll (dPts l) ≤ 2 * deps l
  | [], _ => ⟨trivial, Nat.le_refl _, Nat.le_refl _⟩
  | p :: l, h => by
    obtain ⟨a, b, c⟩ := dPt_ok h.1
    obtain ⟨a2, b2, c2⟩ := dPts_ok (l := l) h.2
    have := nod_pos p
    refine ⟨⟨a, a2⟩, ?_, ?_⟩
    · show wid (dPt p) + 2 + widL (dPts l) ≤ 80 * (p.nod + nods l)
      omega
    · show max (dPt p).depth (PyData.depthAll (dPts l)) ≤ 2 * max p.dep (deps l)
      omega
end
theorem li_ok {l : List Pt} (h : Wfs l) : Ok1 (.list (dPts l)) ∧ wid (.list (dPts l)) ≤ 80 * nods l + 2 ∧ (PyData.list (dPts l)).depth ≤ 2 * deps l + 1 := by
  obtain ⟨a, b, c⟩ := dPts_ok h
  exact ⟨a, by show widL (dPts l) + 2 ≤ _; omega, by show PyData.depthAll (dPts l) + 1 ≤ _; omega⟩
/-- a good pattern of at most so many nodes, at most so deep -/
structure Good (m d : Nat) (l : List Pt) : Prop where
  ne : 1 ≤ l.length
  wf : Wfs l
  dp : deps l ≤ d
  nd : nods l ≤ m
theorem Good.up {m d m' d' : Nat} {l : List Pt} (g : Good m d l) (h : m ≤ m') (h2 : d ≤ d') : Good m' d' l := ⟨g.ne, g.wf, Nat.le_trans g.dp h2, Nat.le_trans g.nd h⟩
theorem Good.len {m d : Nat} {l : List Pt} (g : Good m d l) : l.length ≤ m := Nat.le_trans (nods_len l) g.nd
/-- the part of a repetition -/
theorem Good.part {m d i : Nat} {l k : List Pt} (g : Good m d l) (e : l[i]? = some (.rep k)) : Good m (d - 1) k ∧ 1 ≤ d := by
  have h1 := wfs_at g.wf e
  have h2 := deps_at e
  have h3 := nods_at e
  have e2 : (Pt.rep k).dep = deps k + 1 := rfl
  have e3 : (Pt.rep k).nod = nods k + 1 := rfl
  have := g.dp
  have := g.nd
  exact ⟨⟨h1.1, h1.2, by omega, by omega⟩, by omega⟩
theorem Good.letter {m d i : Nat} {l : List Pt} {c : Nat} (g : Good m d l) (e : l[i]? = some (.ch c)) : low c = true := wfs_at g.wf e
/-- repr of data of some depth -/
theorem call_reprD {X : Cx} (hc : Clean X.A) (hS : SysIn X.base) (hu : X.A.units + 230 < cLine) : CallR X (.builtin "repr") (fun xs H Q => ∃ x d, xs = [x] ∧ Da X.K H x d ∧ Ok1 d ∧ wid d ≤ sizeLine ∧ d.depth ≤ 220 ∧ Q (.str d.shown) H) := by
  intro pins s σ H xs us Q I r h
  obtain ⟨x, d, rfl, hd, ok, hz, hdp, q⟩ := h
  obtain ⟨u, rfl, ru⟩ := vals1 r
  have hz' : d.shown.length ≤ sizeLine := Nat.le_trans (wid_le d ok) hz
  obtain ⟨as, hr, hf⟩ := Da.reads I hS hd ru
  have fin : ∀ (t tk : Tok) (h' : Heap), (∀ b o, s.heap.get? b = some o → h'.get? b = some o) → EP X pins σ Q (.str d.shown t) { s with heap := h', toks := tk } :=
    fun t tk h' k => ⟨.str d.shown, H, I.kept k, ⟨t, rfl⟩, q⟩
  cases hd with
  | non =>
    cases ru
    exact PySem.P.repr_of_none (fin _ _ s.heap fun _ _ e => e)
  | bl b =>
    cases ru
    exact PySem.P.repr_of_bool (fin _ _ s.heap fun _ _ e => e)
  | int i =>
    obtain ⟨t, rfl⟩ := ru
    exact PySem.P.repr_of_int ok (fin _ _ s.heap fun _ _ e => e)
  | str y =>
    obtain ⟨t, rfl⟩ := ru
    exact PySem.P.repr_of_str (fin _ _ s.heap fun _ _ e => e) hz'
  | lst h1 h2 =>
    cases ru
    exact repr_of_reads' hr (ok_show _ ok) (fun _ => hf) hc (by omega) (fun _ _ e => e) (fun h' u tk k => fin u tk h' k) hz'
  | tup h1 h2 =>
    cases ru
    exact repr_of_reads' hr (ok_show _ ok) (fun _ => hf) hc (by omega) (fun _ _ e => e) (fun h' u tk k => fin u tk h' k) hz'
  | dct h1 h2 =>
    cases ru
    exact repr_of_reads' hr (ok_show _ ok) (fun _ => hf) hc (by omega) (fun _ _ e => e) (fun h' u tk k => fin u tk h' k) hz'
theorem ix_tupK {K : PySem.W.Frag} {X : Cx} (h : X.K = K) : IxR X (rIxT K) := by subst h; exact ix_tup
theorem room230 {k : Nat} {A : Around} (r : Room (k + 2) A) : A.units + 230 < cLine := by
  have := r.un
  omega
end KP

namespace Gd
open PySem PySem.Spec PyProof.Rows L2
/-! ### exceptions held as values -/
/-- one of the class C, its dict at d, stands at e -/
def ExV (C d e : Addr) : HO := .ext fun h => ∃ (oe : Obj) (vs : Array Value), h.get? e = some oe ∧ oe.cls = .ref C ∧ oe.dict = some d ∧ oe.data = .fields vs
theorem exV_ok {P : Program} {w : World} {H : Hp} {h : Heap} {C d e : Addr} {oe : Obj} {vs : Array Value} (h1 : h.get? e = some oe) (h2 : oe.cls = .ref C) (h3 : oe.dict = some d) (h4 : oe.data = .fields vs) : ObjOk P w H h e (ExV C d e) :=
  ⟨⟨oe, vs, h1, h2, h3, h4⟩, ⟨oe, h1⟩, fun _ _ ⟨o, v, a, b, c, e'⟩ k => ⟨o, v, k _ a, b, c, e'⟩⟩
def IsEx (C : Addr) (H : Hp) (v : V) : Prop := ∃ e d fs, v = .ref e ∧ H e = some (ExV C d e) ∧ H d = some (.xd fs)
theorem IsEx.same {C : Addr} {H H' : Hp} {v : V} (s : Same H H') : IsEx C H v → IsEx C H' v
  | ⟨e, d, fs, a, b, c⟩ => ⟨e, d, fs, a, s _ _ b, s _ _ c⟩
theorem IsEx.kind {C : Addr} {H : Hp} {v : V} : IsEx C H v → kind H v = .odd
  | ⟨e, d, fs, a, b, c⟩ => by
    subst a
    show kindO (H e) = .odd
    rw [b]
    rfl
/-- what isinstance asks of the class -/
structure ExcT (K : PySem.W.Frag) (C : Addr) : Prop where
  hcl : (PySem.W.clsIn K C).isSome = true
  hga : PySem.W.findIn K (.ref C) "__getattribute__" = some (some (.builtin "BaseException.__getattribute__"))
  hgt : PySem.W.findIn K (.ref C) "__getattr__" = some none
  hsub : PySem.W.subIn K (.ref C) (.type "BaseException") = some true
  ha : PySem.W.findIn K (.ref C) "__class__" = some (some (.builtin "object.__class__"))
  hn : PySem.W.specialIn K (.builtin "object.__class__") "__get__" = some (some (.builtin "getset_descriptor.__get__"))
  htk : PySem.W.takesIn K (.builtin "object.__class__") = some true
  hm : PySem.W.mroIn K C (.type "object") = some true
  noI : PySem.W.kitOne K (.ref C) (.type "int") = some false
  noS : PySem.W.kitOne K (.ref C) (.type "str") = some false
section
variable {X : Cx} {C : Addr}
theorem call_iskE (T : ExcT X.K C) : CallR X (.builtin "isinstance") (fun xs H Q => ∃ x n, xs = [x, .ty n] ∧ (n = "int" ∨ n = "str" ∨ (n = "bool" ∧ Pv H x)) ∧ (Pv H x ∨ IsEx C H x) ∧ Q (.bl (inst n (kind H x))) H) := by
  intro pins s σ H xs us Q I r h
  obtain ⟨x, n, rfl, hn, hv, q⟩ := h
  rcases hv with hv | hv
  · refine call_isk pins s σ H _ us Q I r ⟨x, n, rfl, ?_, hv, q⟩
    rcases hn with h | h | h
    · exact .inl h
    · exact .inr (.inl h)
    · exact .inr (.inr (.inl h.1))
  · rcases hn with h | h | h
    rotate_left 2
    · exact absurd hv.kind h.2
    all_goals
      rw [hv.kind] at q
      obtain ⟨e, d, fs, rfl, he, hd⟩ := hv
      obtain ⟨u1, u2, rfl, r1, r2⟩ := vals2 r
      cases (show u1 = Value.ref e from r1)
      cases (show u2 = Value.type n from r2)
      obtain ⟨⟨oe, vs, h1, h2, h3, h4⟩, _⟩ := (show ObjOk X.prog X.w H s.heap e (ExV C d e) from I.hok e _ he)
      obtain ⟨mA, hns, _⟩ := (show ObjOk X.prog X.w H s.heap d (.xd fs) from I.hok d _ hd)
      obtain ⟨od, ho, hl⟩ := lookIn_ns hns
      have J : PySem.W.InstAt s.heap e oe C (some od) := ⟨h1, h2, by unfold PySem.W.notCls; rw [h4] <;> rfl, by rw [h3]; exact ho⟩
      subst h
    · exact PySem.W.kia_one (PySem.W.kitx_exc T.hcl T.hga T.hgt T.hsub T.ha T.hn T.htk T.hm) I.kIn J T.noI (fun z => nomatch z) fun tk => ⟨.bl false, H, I.tok tk, rfl, q⟩
    · exact PySem.W.kia_one (PySem.W.kitx_exc T.hcl T.hga T.hgt T.hsub T.ha T.hn T.htk T.hm) I.kIn J T.noS (fun z => nomatch z) fun tk => ⟨.bl false, H, I.tok tk, rfl, q⟩
/-- C(e), a value -/
theorem pe_mkE {nm : Str} {qn : String} {fI : Addr} {a : Expr} {ta : TA} {p pos : Pos} {k : Nat} (T : PySem.EzValue.LowTxt X.K X.mg nm qn C fI) (hr : Room k X.A) (ha : PA X [a] ta) (hg : Gl X nm := by rfl) (hdb : (nm == ("__debug__" : Str)) = false := by decide)
    (he : starEach (a :: []) X.env = (false, eval a X.env) :: starEach [] X.env := by rfl) (hpl : (backTo pos (starEach [] X.env)).any (·.1) = false := by rfl) :
    PE X (.Call (.Name nm p) [a] [] pos) (fun σ H Q => ta σ H fun vs H1 => ∃ v, vs = [v] ∧ ∀ d e, H1 d = none → H1 e = none → d ≠ e → Q (.ref e) (upd (upd H1 d (.xd [(("value" : Str), v)])) e (ExV C d e))) := by
  refine ⟨fun pins s σ H Q I h => ?_⟩
  refine wpAny_Call_Name_kw (ld_glob I hg T.gC ?_ hdb)
  refine PySem.W.callWith_K (h₀ := X.base) I.ok.mod.kin T.kC (thn (ha.run pos pins s σ H _ I h) fun us s1 hh => ?_) he hpl
  obtain ⟨vs, H1, I1, r1, v, ev, q1⟩ := hh
  subst ev
  refine ⟨I1.kIn, ?_⟩
  cases r1 with
  | cons rv rn =>
    rename_i v' us'
    cases rn
    show wpAny _ _ (call (.ref C) [v']) _ _ _
    have hlim := I1.nolimit
    obtain ⟨hp, g, dr, tk, os⟩ := s1
    refine wpAny_call (PySem.EzValue.low_made T I1.kIn hlim (by have := hr.dp; omega) fun h' tk' e d M => ?_)
    obtain ⟨oe, fv, hoe, hc, hd, hdat, h1⟩ := M.obj
    have hns := M.ns
    obtain ⟨G', g1, g2⟩ := restrict h' fun b => decide (b ≠ e)
    have gk : ∀ b, b ≠ e → G'.get? b = h'.get? b := fun b hb => g1 b (decide_eq_true hb)
    have ge : G'.get? e = none := g2 e (by simp)
    have old : ∀ b o, hp.get? b = some o → G'.get? b = some o := fun b o q => (gk b (Nat.ne_of_lt (Nat.lt_of_lt_of_le (Heap.lt_size q) M.new))).trans (M.keep b o q)
    have ob : ObjOk X.prog X.w (upd H1 d (.xd [(("value" : Str), v)])) G' d (.xd [(("value" : Str), v)]) :=
      ⟨_, hns.at (fun o q => (gk d M.dne).trans q), fun f => relO_value rv f⟩
    have J : Inv X pins σ (upd H1 d (.xd [(("value" : Str), v)])) ⟨G', g, dr, tk', os⟩ := I1.laid (t' := tk') old M.dbig ob
    have fe : H1 e = none := I1.hok.fresh M.new
    have fe' : upd H1 d (.xd [(("value" : Str), v)]) e = none := by
      rw [upd_ne (Ne.symm M.dne)]
      exact fe
    have kp : ∀ b o, G'.get? b = some o → h'.get? b = some o := fun b o q => by
      by_cases hb : b = e
      · rw [hb, ge] at q; cases q
      · exact (gk b hb).symm.trans q
    exact ⟨.ref e, _, J.laidN (h' := h') (t' := tk') kp ge fe' (exV_ok hoe hc hd hdat), rfl, q1 d e (I1.hok.fresh M.dbig) fe M.dne⟩
end
end Gd

namespace PySem
namespace EzCount
open PySem.W PySem.Calls PyProof.Rows PySem.HandSPX
/-! ### the text of __init__ -/
def iA (p1 p2 : Pos) : Arguments := { posonlyargs := [], args := [{ arg := "self", annotation := none, pos := p1 }, { arg := "count", annotation := none, pos := p2 }], vararg := none, kwonlyargs := [], kw_defaults := [], kwarg := none, defaults := [] }
def iB (q1 q2 q3 q4 : Pos) : List Stmt := [.Assign [.Attribute (.Name "self" q1) "count" q2] (.Name "count" q3) q4]
def iS : Scope := { kind := .function, names := [(PySem.Str.ofString "self", .local), (PySem.Str.ofString "count", .local)], isGenerator := false, isCoroutine := false, more := [] }
/-- what the written part says of Low, at C, and of its __init__, at fI -/
structure LowTxt (K : Frag) (mg : Str → Option Value) (nm : Str) (qn : String) (C fI : Addr) : Prop where
  gC : mg nm = some (.ref C)
  cls : ∃ nmC q N bs bm sn sub ab col dd k0 k1 k2 k3 k5, K.lookup C = some (excClassObj nmC q C N bs bm true sn sub ab col dd k0 k1 k2 k3 k5 "ValueError.__new__") ∧ refsVE bm = true
  sa : findIn K (.ref C) "__setattr__" = some (some (.builtin "object.__setattr__"))
  ga : findIn K (.ref C) "__getattribute__" = some (some (.builtin "BaseException.__getattribute__"))
  gg : findIn K (.ref C) "__getattr__" = some none
  noN : findIn K (.ref C) "count" = some none
  iC : findIn K (.ref C) "__init__" = some (some (.ref fI))
  tC : typeIn K (.ref fI) = some (.type "function")
  kC : keepIn K (.ref C) = true
  exC : subIn K (.ref C) (.type "BaseException") = some true
  tyC : typeIn K (.ref C) = some (.type "type")
  hdC : hasDictIn K C = true
  te : exmOne K (.ref C) (.ref C) = some true
  fn : ∃ (oc : Value) (od : Option Addr) (doc pm : Value) (an : Option Addr) (cdv ct : Value) (osl : Array (Option Value)) (p1 p2 q1 q2 q3 q4 : Pos),
    K.lookup fI = some ⟨oc, od, .func (fnOf "__init__" qn (iA p1 p2) (iB q1 q2 q3 q4) iS .none .none doc pm an cdv ct), osl⟩ ∧ codeIn K cdv qn = true
theorem one_size (v : Value) : [v].length ≤ sizeLine := by
  rw [sizeLine_eq]
  exact (by decide : 1 ≤ 16777216)
theorem kept_but {K : Frag} {h h' : Heap} {x : Addr} (X : K.In h) (hx : K.lookup x = none) (k : ∀ b o, b ≠ x → h.get? b = some o → h'.get? b = some o) : K.In h' := fun a o e =>
  k a o (fun z => by rw [z, hx] at e; cases e) (X a o e)
theorem ldC {M : Model} {s : Shared} {name : Str} {scope : Scope} {L a : Addr} {cd : Value} {m : Str → Option Value} {x : Str} {pos : Pos} {v : Value} {Q : Value → Shared → Prop} {A : Around} {E : Value → Shared → Prop} (hn : s.heap.Ns L m) (hv : m x = some v) (h : Q v s)
    (hk : scope.kind = .function := by rfl) (hl : (envOfC name scope L a cd).kindOf x = some .local := by rfl) (hd : (x == ("__debug__" : Str)) = false := by decide) :
    wpAny M A (eval (.Name x pos) (envOfC name scope L a cd)) Q E s := wpAny_Name (wpAny_loadName_local hk hl hn hv h) hd
/-- what __init__ leaves of a fresh exception at x -/
structure InitEnd (h h' : Heap) (x C dx t1 : Addr) (v : Value) : Prop where
  keep : ∀ b o, b ≠ x → h.get? b = some o → h'.get? b = some o
  obj : h'.get? x = some { cls := .ref C, dict := some dx, data := .fields #[.ref t1, .none, .none, .none, .bool false, .none] }
  dbig : h.objs.size ≤ dx
  dne : dx ≠ x
  ns : h'.Ns1 dx (fun y => if y = "count" then some v else none)
/-- a made Low -/
structure OwnMade (h h' : Heap) (e C d : Addr) (v : Value) : Prop where
  keep : ∀ b o, h.get? b = some o → h'.get? b = some o
  new : h.objs.size ≤ e
  obj : ∃ oe vs, h'.get? e = some oe ∧ oe.cls = .ref C ∧ oe.dict = some d ∧ oe.data = .fields vs ∧ vs[1]? = some .none
  dbig : h.objs.size ≤ d
  dne : d ≠ e
  ns : h'.Ns1 d (fun y => if y = "count" then some v else none)
section
variable {prog : Program} {w : World} {A : Around} {E : Value → Shared → Prop} {R : Result → Shared → Prop} {s : Shared} {K : Frag} {mg : Str → Option Value} {nm : Str} {qn : String} {C fI : Addr}
theorem low_init (T : LowTxt K mg nm qn C fI) {x t0 : Addr} {v : Value} (X : K.In s.heap) (hlim : s.heap.NoLimit) (hx : s.heap.get? x = some (excO C t0)) (hnx : K.lookup x = none) (hroom : A.depth < recursionLimit)
    (hq : ∀ h' tk dx, InitEnd s.heap h' x C dx t0 v → R (.ok (.ret .none)) { s with heap := h', toks := tk }) :
    codeAny (model prog w) A (.call (.ref fI) ⟨[.ref x, v], []⟩) R s := by
  obtain ⟨oc, od, doc, pm, an, cdv, ct, osl, p1, p2, q1, q2, q3, q4, ho, hcd⟩ := T.fn
  obtain ⟨nmC, q, N, bs, bm, sn, sub, ab, col, dd, k0, k1, k2, k3, k5, hC, hbm⟩ := T.cls
  have hcl : clsIn K C = some { name := nmC, bases := bs, mro := .ref C :: bm, ns := N, qualname := q, hasDict := true, slotNames := sn, subclasses := sub, abstract := ab, collection := col, hasDel := false } := by unfold clsIn; rw [hC] <;> rfl
  refine Att.call_fn (binds := [("self", .ref x), ("count", v)]) X hlim ho hcd hroom (BindsTo.of_eq (by first | rfl | with_unfolding_all rfl)) (by first | rfl | decide | with_unfolding_all rfl) (fun s₁ IC => ?_) rfl rfl rfl
  obtain ⟨h₁, tk₁, rfl⟩ := IC.toInCall.same
  have k : ∀ b o, s.heap.get? b = some o → h₁.get? b = some o := IC.toInCall.keep
  have hn := IC.toInCall.ns
  have hxL : s.heap.objs.size ≠ x := Nat.ne_of_gt (Heap.lt_size hx)
  have X₁ : K.In h₁ := X.keeps k
  have hx₁ := k _ _ hx
  -- self.by = by
  show wpAny _ _ (execs _ _) _ _ _
  refine wpAny_execs_cons (plainObj_wpAny_Assign_Attribute ?_)
  refine ldC (v := v) hn (by first | rfl | with_unfolding_all rfl | kernel_rfl) (ldC (v := .ref x) hn (by first | rfl | with_unfolding_all rfl | kernel_rfl) ?_)
  refine set_plain X₁ (ox := excO C t0) (od := none) ⟨hx₁, rfl, rfl, trivial⟩ T.sa ?_
  refine exc_osa X₁ hx₁ hcl (show refsVE (.ref C :: bm) = true from hbm) rfl T.noN (fun h₃ tk₃ dx k₃ dn dne hx₃ hn₃ => ?_)
  show wpAny _ _ (execs _ _) _ _ _
  have z : s.heap.objs.size < h₁.objs.size := hn.lt
  exact wpAny_execs_nil (hq h₃ tk₃ dx ⟨fun b o hb e => k₃ b o hb (k b o e), hx₃, Nat.le_of_lt (Nat.lt_of_lt_of_le z dn), dne, hn₃⟩)
theorem low_made (T : LowTxt K mg nm qn C fI) {v : Value} (X : K.In s.heap) (hlim : s.heap.NoLimit) (hroom : A.depth + 1 < recursionLimit)
    (hq : ∀ h' tk e d, OwnMade s.heap h' e C d v → R (.ok (.ret (.ref e))) { s with heap := h', toks := tk }) :
    codeAny (model prog w) A (.call (.ref C) ⟨[v], []⟩) R s := by
  obtain ⟨nmC, q, N, bs, bm, sn, sub, ab, col, dd, k0, k1, k2, k3, k5, hC, hbm⟩ := T.cls
  obtain ⟨hp, g, dr, tk, os⟩ := s
  have k : ∀ b o, hp.get? b = some o → ((hp.push (kdv_tup [v])).push (excO C hp.objs.size)).get? b = some o := fun b o e => Heap.get?_push_of_some _ (Heap.get?_push_of_some _ e)
  have hget : ((hp.push (kdv_tup [v])).push (excO C hp.objs.size)).get? (hp.objs.size + 1) = some (excO C hp.objs.size) := by heap_get
  have hnx : K.lookup (hp.objs.size + 1) = none := by
    cases e : K.lookup (hp.objs.size + 1) with
    | none => rfl
    | some o =>
      have z : hp.get? (hp.objs.size + 1) = some o := X _ _ e
      exact absurd (Nat.lt_of_succ_lt (Heap.lt_size z)) (Nat.lt_irrefl _)
  refine call_own F.excBase_ValueError (fun X => refsVE_contains X bm hbm) (X _ _ hC) (looks_findIn X T.iC) (fun self => bind_fn X self T.tC) (one_size v) ?_
  refine low_init (s := ⟨(hp.push (kdv_tup [v])).push (excO C hp.objs.size), g, dr, tk, os⟩) T (X.keeps k) (hlim.keeps k) hget hnx ?_ fun h' tk' dx ⟨k', hx, dn, dne, hns⟩ => ?_
  · show A.depth + 1 < recursionLimit
    exact hroom
  · have old : ∀ b o, hp.get? b = some o → h'.get? b = some o := fun b o e => k' b o (Nat.ne_of_lt (Nat.lt_succ_of_lt (Heap.lt_size e))) (k b o e)
    have z : hp.objs.size + 1 + 1 ≤ dx := by
      first
        | (simpa only [Heap.size_push] using dn)
        | exact dn
        | (have q := dn; rw [Heap.size_push, Heap.size_push] at q; exact q)
    exact ⟨rfl, hq h' tk' (hp.objs.size + 1) dx ⟨old, Nat.le_succ _, ⟨_, _, hx, rfl, rfl, rfl, rfl⟩, Nat.le_trans (Nat.le_trans (Nat.le_succ _) (Nat.le_succ _)) z, dne, hns⟩⟩
end
end EzCount
end PySem
namespace L2
open PySem PySem.Spec PyProof.Rows
theorem relO_count {v : V} {v' : Value} (r : RelV v v') (f : Str) : RelO (List.lookup f [(("count" : Str), v)]) (if f = "count" then some v' else none) := by
  by_cases hw : f = "count"
  · subst hw
    rw [if_pos rfl]
    have q : List.lookup ("count" : Str) [(("count" : Str), v)] = some v := by simp [List.lookup]
    rw [q]
    exact r
  · rw [if_neg hw]
    have qw : (f == ("count" : Str)) = false := by simpa using hw
    have q2 : List.lookup f [(("count" : Str), v)] = none := by simp [List.lookup, qw]
    rw [q2]
    trivial
section
variable {X : Cx} {nm : Str} {qn : String} {C fI : Addr}
/-- Low(e) -/
def tMk_count (C : Addr) (ta : TA) : L2.St → Hp → XK → Prop := fun σ H Q => ta σ H fun vs H1 => ∃ v, vs = [v] ∧ ∀ d, H1 d = none → Q (.ref C) (some d) (upd H1 d (.xd [(("count" : Str), v)]))
theorem pmk_count {a : Expr} {ta : TA} {p pos : Pos} {k : Nat} (T : PySem.EzCount.LowTxt X.K X.mg nm qn C fI) (hr : Room k X.A) (ha : PA X [a] ta) (hg : Gl X nm := by rfl) (hdb : (nm == ("__debug__" : Str)) = false := by decide)
    (he : starEach (a :: []) X.env = (false, eval a X.env) :: starEach [] X.env := by rfl) (hpl : (backTo pos (starEach [] X.env)).any (·.1) = false := by rfl) :
    PMk X (.Call (.Name nm p) [a] [] pos) (tMk_count C ta) := by
  intro pins s σ H Q I h
  refine wpAny_Call_Name_kw (ld_glob I hg T.gC ?_ hdb)
  refine PySem.W.callWith_K (h₀ := X.base) I.ok.mod.kin T.kC (thn (ha.run pos pins s σ H _ I h) fun us s1 hh => ?_) he hpl
  obtain ⟨vs, H1, I1, r1, v, ev, q1⟩ := hh
  subst ev
  refine ⟨I1.kIn, ?_⟩
  cases r1 with
  | cons rv rn =>
    rename_i v' us'
    cases rn
    show wpAny _ _ (call (.ref C) [v']) _ _ _
    have hlim := I1.nolimit
    obtain ⟨hp, g, dr, tk, os⟩ := s1
    refine wpAny_call (PySem.EzCount.low_made T I1.kIn hlim (by have := hr.dp; omega) fun h' tk' e d M => ?_)
    show MkP X pins σ Q (.ref e) ⟨h', g, dr, tk', os⟩
    obtain ⟨oe, fv, hoe, hc, hd, hdat, h1⟩ := M.obj
    have hns := M.ns
    obtain ⟨G', g1, g2⟩ := restrict h' fun b => decide (b ≠ e)
    have gk : ∀ b, b ≠ e → G'.get? b = h'.get? b := fun b hb => g1 b (decide_eq_true hb)
    have ge : G'.get? e = none := g2 e (by simp)
    have old : ∀ b o, hp.get? b = some o → G'.get? b = some o := fun b o q => (gk b (Nat.ne_of_lt (Nat.lt_of_lt_of_le (Heap.lt_size q) M.new))).trans (M.keep b o q)
    have ob : ObjOk X.prog X.w (upd H1 d (.xd [(("count" : Str), v)])) G' d (.xd [(("count" : Str), v)]) :=
      ⟨_, hns.at (fun o q => (gk d M.dne).trans q), fun f => relO_count rv f⟩
    have J : Inv X pins σ (upd H1 d (.xd [(("count" : Str), v)])) ⟨G', g, dr, tk', os⟩ := I1.laid (t' := tk') old M.dbig ob
    refine ⟨e, oe, fv, ⟨G', g, dr, tk', os⟩, _, .ref C, some d, rfl, J, fun b o q => ?_, ge, hoe, ⟨hc, hd⟩, hdat, h1, ?_, rfl, I1.bare, raises_own T.exC T.tyC, q1 d (I1.hok.fresh M.dbig)⟩
    · by_cases hb : b = e
      · have q' : G'.get? b = some o := q
        rw [hb, ge] at q'; cases q'
      · exact (gk b hb).symm.trans q
    · rw [upd_ne (Ne.symm M.dne)]
      exact I1.hok.fresh M.new
/-- raise Low(e) -/
def tRaise_count (C : Addr) (W : WX) (ta : TA) : TS := fun _ σ H => tMk_count C ta σ H fun cls d H' => W cls d σ H'
theorem ps_raise_count {a : Expr} {ta : TA} {W : WX} {p pos pos2 : Pos} {k : Nat} (hc : X.calm = true) (T : PySem.EzCount.LowTxt X.K X.mg nm qn C fI) (hr : Room k X.A) (tk : Takes X W) (ha : PA X [a] ta) (hg : Gl X nm := by rfl) (hdb : (nm == ("__debug__" : Str)) = false := by decide)
    (he : starEach (a :: []) X.env = (false, eval a X.env) :: starEach [] X.env := by rfl) (hpl : (backTo pos (starEach [] X.env)).any (·.1) = false := by rfl) :
    PS X (.Raise (some (.Call (.Name nm p) [a] [] pos)) none pos2) (tRaise_count C W ta) := ps_raise hc tk (pmk_count T hr ha hg hdb he hpl)
/-- low.by, low the exception that the suite holds (at a; its class cls, its dict d) -/
def tBy_count (C : Addr) (a : Addr) (cls : Value) (d : Option Addr) (te : TE) : TE := fun σ H Q => te σ H fun x H1 => x = .ref a ∧ cls = .ref C ∧ ∃ (dd : Addr) (v : V), d = some dd ∧ H1 dd = some (.xd [(("count" : Str), v)]) ∧ Q v H1
theorem pe_by_count {a : Addr} {oe : Obj} {cls : Value} {d : Option Addr} {pn : List (Addr × Obj)} {e : Expr} {te : TE} {pos : Pos} (T : PySem.EzCount.LowTxt X.K X.mg nm qn C fI) (hz : Zc cls d oe) (hf : ∃ vs, oe.data = .fields vs) (he : PE (X.suite a ((a, oe) :: pn)) e te)
    (hb : attributeBase e "count" X.env (eval e X.env) = eval e X.env := by rfl) :
    PE (X.suite a ((a, oe) :: pn)) (.Attribute e "count" pos) (tBy_count C a cls d te) := by
  refine ⟨fun pins s σ H Q I h => ?_⟩
  refine attr_of hb (thn (he.run pins s σ H _ I h) fun u s1 hh => ?_)
  obtain ⟨x, H1, I1, rx, ex, ec, dd, v, ed, ea, q⟩ := hh
  subst ex
  obtain rfl : u = Value.ref a := rx
  subst ec
  subst ed
  obtain ⟨ha, _⟩ := I1.pin (a, oe) (List.mem_append_left _ List.mem_cons_self)
  obtain ⟨vs, hd⟩ := hf
  have hx : ObjOk X.prog X.w H1 s1.heap dd (.xd [(("count" : Str), v)]) := I1.hok dd _ ea
  obtain ⟨mA, hns, hr⟩ := hx
  obtain ⟨od, ho, hl⟩ := lookIn_ns hns
  have l : List.lookup ("count" : Str) [(("count" : Str), v)] = some v := by simp [List.lookup]
  obtain ⟨u, hu, ru⟩ := RelO.some_of (v := v) (o := mA "count") (by rw [← l]; exact hr "count")
  have J : PySem.W.InstAt s1.heap a oe C (some od) := ⟨ha, hz.1, by unfold PySem.W.notCls; rw [hd] <;> rfl, by rw [hz.2]; exact ho⟩
  exact HandSPX.exc_get I1.kIn J T.ga T.gg T.exC (PySem.W.findObj_own T.hdC T.noN rfl (by rw [hl, hu])) (handed_of ru) ⟨v, H1, I1.tok _, ru, q⟩
end
end L2


namespace KP
open PySem L2 Gd Zn KM
def top (i : Nat) : Stmt := PySem.Challenge.pw_formatrepair_k38_texts_of_patterns.main.body.getD i (.Pass ⟨0, 0, 0, 0⟩)
/-- what the walk asks of the names that no def of the text stands behind -/
structure Txt (K : PySem.W.Frag) (mg : Str → Option Value) (base : Heap) (C_I f_I C_P f_P C_M f_M : Addr) : Prop where
  sys : SysIn base
  e_InvalidInteger : PySem.EzValue.LowTxt K mg "InvalidInteger" "InvalidInteger.__init__" C_I f_I
  e_InvalidPattern : PySem.EzValue.LowTxt K mg "InvalidPattern" "InvalidPattern.__init__" C_P f_P
  e_TooMany : PySem.EzCount.LowTxt K mg "TooMany" "TooMany.__init__" C_M f_M
  g_MOST_NESTED : ∃ u, mg "MOST_NESTED" = some u ∧ RelV (.int 100) u
  g_MOST_TIMES : ∃ u, mg "MOST_TIMES" = some u ∧ RelV (.int 1000) u
  g_LONGEST_TEXT : ∃ u, mg "LONGEST_TEXT" = some u ∧ RelV (.int 4000) u
  g_REPEAT : ∃ u, mg "REPEAT" = some u ∧ RelV (.str "repeat") u
  z_isinstance : mg "isinstance" = none
  z_int : mg "int" = none
  z_bool : mg "bool" = none
  z_str : mg "str" = none
  z_list : mg "list" = none
  z_tuple : mg "tuple" = none
  z_len : mg "len" = none
  z_max : mg "max" = none
  z_min : mg "min" = none
  z_range : mg "range" = none
  z_repr : mg "repr" = none
  z_sum : mg "sum" = none
theorem _root_.Gd.FnG.or2 {P : Program} {w : World} {K : PySem.W.Frag} {mg : Str → Option Value} {base : Heap} {CX : CXT} {k : Nat} {f : Addr} {fd : FuncData} {ps : List Str} {sp sp2 : Sp} (F : FnG P w K mg base CX k f fd ps sp) (G : FnG P w K mg base CX k f fd ps sp2) : FnG P w K mg base CX k f fd ps (fun vs H Q E => sp vs H Q E ∨ sp2 vs H Q E) :=
  ⟨fun vs H Q E h => h.elim (F.len vs H Q E) (G.len vs H Q E), fun A outer s H args us vs Q E hc hr e0 hb r h => h.elim (F.run A outer s H args us vs Q E hc hr e0 hb r) (G.run A outer s H args us vs Q E hc hr e0 hb r)⟩
theorem no_fn {P : Program} {w : World} {K : PySem.W.Frag} {mg : Str → Option Value} {base : Heap} {CX : CXT} {k : Nat} {f : Addr} {fd : FuncData} {ps : List Str} {sp : Sp} (h : ∀ vs H Q E, ¬ sp vs H Q E) : FnG P w K mg base CX k f fd ps sp :=
  ⟨fun vs H Q E z => absurd z (h vs H Q E), fun A outer s H args us vs Q E hc hr e0 hb r z => absurd z (h vs H Q E)⟩
def spIsInt : Sp := fun vs H Q _ => ∃ v, vs = [v] ∧ Pv H v ∧ Q (.bl (isInt v)) H
def spIsList : Sp := fun vs H Q _ => ∃ b p xs, vs = [V.ref p] ∧ H p = some (so b xs) ∧ ∀ H', Same H H' → Q (.bl true) H'
def isLet : V → Bool
  | .str x => decide (x.length = 1) && x.cps.toList.all low
  | _ => false
def spIsLet : Sp := fun vs H Q _ => ∃ v, vs = [v] ∧ Pv H v ∧ (∀ x, v = .str x → x.length ≤ 1000) ∧ Q (.bl (isLet v)) H
/-- an int from lo to hi -/
def inR (lo hi : Int) : V → Bool
  | .int i => decide (lo ≤ i) && decide (i ≤ hi)
  | _ => false
def spReqInt (C : Addr) : Sp := fun vs H Q E => ∃ v lo hi, vs = [v, .int lo, .int hi] ∧ Pv H v ∧ (inR lo hi v = true → Q .non H) ∧ (inR lo hi v = false → ∀ d, H d = none → E (.ref C) (some d) (upd H d (.xd [("value", v)])))
def spIsRep : Sp := fun vs H Q _ => ∃ v, vs = [v] ∧ ((∃ x, v = .str x ∧ Q (.bl false) H) ∨ (∃ a y, v = .ref a ∧ H a = some (.tup [.str sRep, y]) ∧ Q (.bl true) H))
section
variable {P : Program} {w : World} {K : PySem.W.Frag} {mg : Str → Option Value} {base : Heap} {C_I f_I C_P f_P C_M f_M : Addr}
abbrev s_law_cell : Stmt := top 26
theorem sc_law_cell : FnScope ["_law_script", "_law_k"] ["_law_script", "_law_k"] (defScope s_law_cell) := ⟨rfl, rfl, rfl, by decide +kernel, rfl, by decide +kernel, by decide +kernel⟩
theorem ok_cell {f : Addr} {fd : FuncData} (F : Fun K "_law_cell" "_law_cell" s_law_cell f fd) (T : Txt K mg base C_I f_I C_P f_P C_M f_M) : FnG P w K mg base CX0 1 f fd ["_law_script", "_law_k"] (spScr K) := by
  refine okG F sc_law_cell (fun vs H Q E h => ?_) (fun cdv A outer s H vs Q E hc hr h => ?_)
  · obtain ⟨p, ns, k, rfl, _⟩ := h
    rfl
  obtain ⟨p, ns, k, rfl, hs, k0, k1, q⟩ := h
  refine ⟨_, (pss_cons (ps_if (pt_cmpR op_lt (pv 1) (pe_callB call_len_seq (by rfl) T.z_len (by decide +kernel) (pa_cons (pv 0) pa_nil)) (nomark _))
  (pss_one (ps_ret (pe_ix ix_list (pv 0) (pv 1) (fun _ _ => rfl)))) pss_nil)
 (pss_one (ps_ret (pe_op op_add (pe_op op_mul pe_int (pv 1)) pe_int)))), ?_⟩
  refine ⟨_, rfl, _, rfl, p, _, rfl, .inl hs, _, _, rfl, rfl, _, rfl, ?_⟩
  refine ite2 (fun c => ?_) (fun c => ?_)
  · have c1 := of_decide_eq_true c
    rw [List.length_map] at c1
    obtain ⟨z, hz⟩ := at_script k0 c1
    exact ⟨_, rfl, _, rfl, p, _, _, _, rfl, rfl, hs, hz, q z⟩
  · exact ⟨_, rfl, _, _, rfl, rfl, .inl ⟨by decide, by decide⟩, _, _, rfl, rfl, q _⟩
abbrev s_law_box : Stmt := top 27
theorem sc_law_box : FnScope ["_law_cell_here"] ["_law_cell_here"] (defScope s_law_box) := ⟨rfl, rfl, rfl, by decide +kernel, rfl, by decide +kernel, by decide +kernel⟩
theorem ok_box {f : Addr} {fd : FuncData} (F : Fun K "_law_box" "_law_box" s_law_box f fd) (T : Txt K mg base C_I f_I C_P f_P C_M f_M) : FnG P w K mg base CX0 1 f fd ["_law_cell_here"] spBox := by
  refine okG F sc_law_box (fun vs H Q E h => ?_) (fun cdv A outer s H vs Q E hc hr h => ?_)
  · obtain ⟨z, rfl, _⟩ := h
    rfl
  obtain ⟨z, rfl, q⟩ := h
  refine ⟨_, (pss_one (ps_ret (pe_lst (pa_cons (pe_callB (call_max2 rfl) (by rfl) T.z_max (by decide +kernel) (pa_cons pe_int (pa_cons (pe_op op_sub (pv 0) (pe_op op_pow pe_int pe_int)) pa_nil))) (pa_cons (pe_op op_mod (pv 0) pe_int) (pa_cons pe_int pa_nil)))))), ?_⟩
  refine ⟨_, rfl, _, _, rfl, rfl, ⟨by decide, by decide, by decide⟩, _, _, rfl, rfl, _, _, rfl, _, rfl, _, _, rfl, rfl, (by show (0 : Int) < 2147483629; decide), ?_⟩
  refine ⟨(by show 3 ≤ sizeLine; decide), fun p hp => q p _ hp ⟨_, _, _, upd_same, ?_⟩⟩
  have := mod_pos (i := z) (j := 2147483629) (by decide)
  omega
abbrev s_law_take : Stmt := top 28
theorem sc_law_take : FnScope ["_law_box_here", "_law_size_here", "_law_digit", "_law_mixed"] ["_law_box_here", "_law_size_here"] (defScope s_law_take) := ⟨rfl, rfl, rfl, by decide +kernel, rfl, by decide +kernel, by decide +kernel⟩
theorem ok_take {f : Addr} {fd : FuncData} (F : Fun K "_law_take" "_law_take" s_law_take f fd) : FnG P w K mg base CX0 1 f fd ["_law_box_here", "_law_size_here"] spTake := by
  refine okG F sc_law_take (fun vs H Q E h => ?_) (fun cdv A outer s H vs Q E hc hr h => ?_)
  · obtain ⟨p, n, rfl, _⟩ := h
    rfl
  obtain ⟨p, n, rfl, ⟨a, b, c, hp, b0, b1⟩, n0, n1, k⟩ := h
  refine ⟨_, (pss_cons (ps_if (pt_cmpR op_gt (pe_ix ix_list (pv 0) pe_int (fun _ _ => rfl)) pe_int (nomark _))
  (pss_cons (ps_set (i := 2) sc_law_take.nd rfl (Or.inl rfl) (pe_op op_mod (pe_ix ix_list (pv 0) pe_int (fun _ _ => rfl)) (pv 1)))
 (pss_cons (ps_asg (pe_op op_fdivW (pe_ix ix_list (pv 0) pe_int (fun _ _ => rfl)) (pv 1)) (pg_sub (pv 0) pe_int set_list))
 (pss_one (ps_ret (pv 2))))) pss_nil)
 (pss_cons (ps_asg (pe_op op_add (pe_ix ix_list (pv 0) pe_int (fun _ _ => rfl)) pe_int) (pg_sub (pv 0) pe_int set_list))
 (pss_cons (ps_set (i := 3) sc_law_take.nd rfl (Or.inl rfl) (pe_op op_mod (pe_op op_add (pe_op op_add (pe_op op_mul (pe_ix ix_list (pv 0) pe_int (fun _ _ => rfl)) pe_int) (pe_op op_mul pe_int (pe_ix ix_list (pv 0) pe_int (fun _ _ => rfl)))) pe_int) pe_int))
 (pss_cons (ps_asg (pe_op op_mod (pe_op op_add (pe_op op_pow (pv 3) pe_int) (pe_op op_mul pe_int (pe_ix ix_list (pv 0) pe_int (fun _ _ => rfl)))) pe_int) (pg_sub (pv 0) pe_int set_list))
 (pss_one (ps_ret (pe_op op_mod (pe_op op_fdivW (pe_ix ix_list (pv 0) pe_int (fun _ _ => rfl)) pe_int) (pv 1)))))))), ?_⟩
  refine ⟨_, rfl, p, _, _, _, rfl, rfl, SqL.of hp, atI_nat (j := 0) rfl, _, _, rfl, rfl, _, rfl, ?_⟩
  refine ite2 (fun ha => ?_) (fun ha => ?_)
  · refine ⟨_, rfl, p, _, _, _, rfl, rfl, SqL.of hp, atI_nat (j := 0) rfl, _, rfl, _, _, rfl, rfl, n0, ?_⟩
    refine ⟨_, rfl, p, _, _, _, rfl, rfl, SqL.of hp, atI_nat (j := 0) rfl, _, rfl, _, _, rfl, rfl, wide_div (b := 20) n0 (by omega) (by decide) (by decide), ?_⟩
    refine ⟨_, rfl, p, _, _, 0, rfl, rfl, hp, rfl, _, rfl, ?_⟩
    exact k _ _ (mod_pos n0).1 (mod_pos n0).2 (turned_upd b0 b1)
  · refine ⟨_, rfl, p, _, _, _, rfl, rfl, SqL.of hp, atI_nat (j := 2) rfl, _, _, rfl, rfl, ?_⟩
    refine ⟨_, rfl, p, _, _, 2, rfl, rfl, hp, rfl, ?_⟩
    have h1 : ∀ {z : V}, (upd H p (.lst ([V.int a, .int b, .int c].set 2 z))) p = some (.lst [.int a, .int b, z]) := upd_same
    refine ⟨_, rfl, p, _, _, _, rfl, rfl, SqL.of h1, atI_nat (j := 1) rfl, _, _, rfl, rfl, .inr ⟨by decide, by decide⟩, ?_⟩
    refine ⟨_, rfl, p, _, _, _, rfl, rfl, SqL.of h1, atI_nat (j := 2) rfl, _, _, rfl, rfl, .inl ⟨by decide, by decide⟩, _, _, rfl, rfl, _, _, rfl, rfl, _, _, rfl, rfl, (by show (0 : Int) < 2147483647; decide), ?_⟩
    have m0 := mod_pos (i := b * 48271 + 69621 * (c + 1) + 89) (j := 2147483647) (by decide)
    refine ⟨_, rfl, _, _, rfl, rfl, ⟨by decide, by decide, ?_⟩, ?_⟩
    · show ((b * 48271 + 69621 * (c + 1) + 89) % 2147483647).natAbs < 2 ^ 64
      omega
    refine ⟨_, rfl, p, _, _, _, rfl, rfl, SqL.of h1, atI_nat (j := 2) rfl, _, _, rfl, rfl, .inl ⟨by decide, by decide⟩, _, _, rfl, rfl, _, _, rfl, rfl, (by show (0 : Int) < 2147483647; decide), ?_⟩
    refine ⟨_, rfl, p, _, _, 1, rfl, rfl, h1, rfl, ?_⟩
    refine ⟨_, rfl, p, _, _, _, rfl, rfl, SqL.of upd_same, atI_nat (j := 1) rfl, _, _, rfl, rfl, wide_div (b := 5) (by decide) (by decide) (by decide) (by decide), _, rfl, _, _, rfl, rfl, n0, ?_⟩
    refine k _ _ (mod_pos n0).1 (mod_pos n0).2 ?_
    rw [upd_upd]
    exact turned_upd (mod_pos (by decide)).1 (mod_pos (by decide)).2
abbrev sis_integer : Stmt := top 8
theorem scis_integer : FnScope ["value"] ["value"] (defScope sis_integer) := ⟨rfl, rfl, rfl, by decide +kernel, rfl, by decide +kernel, by decide +kernel⟩
theorem ok_isint {f : Addr} {fd : FuncData} (F : Fun K "is_integer" "is_integer" sis_integer f fd) (T : Txt K mg base C_I f_I C_P f_P C_M f_M) : FnG P w K mg base CX0 1 f fd ["value"] spIsInt := by
  refine okG F scis_integer (fun vs H Q E h => ?_) (fun cdv A outer s H vs Q E hc hr h => ?_)
  · obtain ⟨v, rfl, _⟩ := h
    rfl
  obtain ⟨v, rfl, hv, q⟩ := h
  refine ⟨_, (pss_one (ps_ret (pe_and (pe_callB call_isk (by rfl) T.z_isinstance (by decide +kernel) (pa_cons (pv 0) (pa_cons (pe_bltn (v := .ty "int") (by rfl) T.z_int (by decide +kernel) rfl) pa_nil))) (pe_one (pe_not (pe_callB call_isk (by rfl) T.z_isinstance (by decide +kernel) (pa_cons (pv 0) (pa_cons (pe_bltn (v := .ty "bool") (by rfl) T.z_bool (by decide +kernel) rfl) pa_nil)))))))), ?_⟩
  refine ⟨_, rfl, v, _, rfl, .inl rfl, hv, _, rfl, ?_⟩
  refine ite2 (fun c => ?_) (fun c => ?_)
  · refine ⟨_, rfl, v, _, rfl, .inr (.inr (.inl rfl)), hv, _, rfl, ?_⟩
    have e := isInt_kind H v
    rw [c, Bool.true_and] at e
    show Q (.bl (!inst "bool" (kind H v))) H
    rw [e]
    exact q
  · have e := isInt_kind H v
    rw [Bool.eq_false_iff.mpr c, Bool.false_and] at e
    show Q (.bl false) H
    rw [e]
    exact q
abbrev sis_list : Stmt := top 10
theorem scis_list : FnScope ["value"] ["value"] (defScope sis_list) := ⟨rfl, rfl, rfl, by decide +kernel, rfl, by decide +kernel, by decide +kernel⟩
theorem ok_islist {f : Addr} {fd : FuncData} (F : Fun K "is_list" "is_list" sis_list f fd) (T : Txt K mg base C_I f_I C_P f_P C_M f_M) : FnG P w K mg base CX0 1 f fd ["value"] spIsList := by
  refine okG F scis_list (fun vs H Q E h => ?_) (fun cdv A outer s H vs Q E hc hr h => ?_)
  · obtain ⟨b, p, xs, rfl, _⟩ := h
    rfl
  obtain ⟨b, p, xs, rfl, hb, q⟩ := h
  refine ⟨_, (pss_one (ps_ret (pe_callB call_isk2 (by rfl) T.z_isinstance (by decide +kernel) (pa_cons (pv 0) (pa_cons (pe_tup (pa_cons (pe_bltn (v := .ty "list") (by rfl) T.z_list (by decide +kernel) rfl) (pa_cons (pe_bltn (v := .ty "tuple") (by rfl) T.z_tuple (by decide +kernel) rfl) pa_nil))) pa_nil))))), ?_⟩
  refine ⟨_, rfl, by show 2 ≤ sizeLine; decide, fun t ht => ?_⟩
  have s1 : Same H (upd H t (.tup [.ty "list", .ty "tuple"])) := upd_new ht
  obtain ⟨k1, k2⟩ := so_kind (s1 _ _ hb)
  refine ⟨.ref p, t, "list", "tuple", rfl, upd_same, .inr (.inr (.inr (.inl rfl))), .inr (.inr (.inr (.inr (.inl rfl)))), k1, ?_⟩
  rw [k2]
  exact q _ s1
theorem isLet_not {H : Hp} {v : V} (c : inst "str" (kind H v) = false) : isLet v = false := by
  rw [isStr_kind] at c
  cases v with
  | str x => exact nomatch c
  | _ => rfl
abbrev sis_letter : Stmt := top 9
theorem scis_letter : FnScope ["value"] ["value"] (defScope sis_letter) := ⟨rfl, rfl, rfl, by decide +kernel, rfl, by decide +kernel, by decide +kernel⟩
theorem ok_isletter {f : Addr} {fd : FuncData} (F : Fun K "is_letter" "is_letter" sis_letter f fd) (T : Txt K mg base C_I f_I C_P f_P C_M f_M) : FnG P w K mg base CX0 1 f fd ["value"] spIsLet := by
  refine okG F scis_letter (fun vs H Q E h => ?_) (fun cdv A outer s H vs Q E hc hr h => ?_)
  · obtain ⟨v, rfl, _⟩ := h
    rfl
  obtain ⟨v, rfl, hv, hs, q⟩ := h
  refine ⟨_, (pss_one (ps_ret (pe_and (pe_callB call_isk (by rfl) T.z_isinstance (by decide +kernel) (pa_cons (pv 0) (pa_cons (pe_bltn (v := .ty "str") (by rfl) T.z_str (by decide +kernel) rfl) pa_nil))) (pe_and (pe_cmpR op_eq (pe_callB call_len_str (by rfl) T.z_len (by decide +kernel) (pa_cons (pv 0) pa_nil)) pe_int (nomark _)) (pe_one (pe_chain op_le_str op_le_str pe_str (pv 0) pe_str)))))), ?_⟩
  refine ⟨_, rfl, v, _, rfl, .inr (.inl rfl), hv, _, rfl, ?_⟩
  refine iteB (fun c => ?_) (fun c => ?_)
  · obtain ⟨x, rfl⟩ := isStr_iff (v := v) (by rw [isStr_kind] at c; exact c)
    have hl := hs x rfl
    have z16 := sizeLine_eq
    refine ⟨_, rfl, x, rfl, by omega, rfl, _, rfl, ?_⟩
    have e1 : decide (V.int (x.length : Int) = V.int 1) = decide (x.length = 1) := decide_eq_decide.mpr ⟨fun z => by injection z with z; omega, fun z => by rw [z]; rfl⟩
    rw [e1]
    have qq : Q (.bl (decide (x.length = 1) && x.cps.toList.all low)) H := q
    refine iteB (fun c1 => ?_) (fun c1 => ?_)
    · have h1 : x.cps.toList.length = 1 := by rw [← len_list]; exact of_decide_eq_true c1
      obtain ⟨u, hu⟩ := List.length_eq_one_iff.mp h1
      have ex : x = ⟨#[u]⟩ := str_ext hu
      subst ex
      refine ⟨_, rfl, _, _, rfl, rfl, _, rfl, ?_⟩
      rw [low_fst]
      have ql : Q (.bl (low u)) H := by
        have : (decide (({ cps := #[u] } : Str).length = 1) && ({ cps := #[u] } : Str).cps.toList.all low) = low u := by
          show (true && (low u && true)) = low u
          simp
        rw [this] at qq
        exact qq
      refine iteB (fun g1 => ?_) (fun g1 => ?_)
      · refine ⟨_, _, rfl, rfl, ?_⟩
        rw [low_snd]
        have : low u = decide (u ≤ 122) := by unfold low; rw [g1, Bool.true_and]
        rw [← this]
        exact ql
      · have : low u = false := by unfold low; rw [g1, Bool.false_and]
        rw [← this]
        exact ql
    · rw [c1, Bool.false_and] at qq
      exact qq
  · have := isLet_not c
    rw [this] at q
    exact q
abbrev srequire_integer : Stmt := top 11
theorem screquire_integer : FnScope ["value", "least", "most"] ["value", "least", "most"] (defScope srequire_integer) := ⟨rfl, rfl, rfl, by decide +kernel, rfl, by decide +kernel, by decide +kernel⟩
theorem ok_reqint {f f1 : Addr} {fd fd1 : FuncData} (F : Fun K "require_integer" "require_integer" srequire_integer f fd) (T : Txt K mg base C_I f_I C_P f_P C_M f_M)
    (D_is_integer : Df P w K mg base CX0 1 "is_integer" f1 fd1 ["value"] spIsInt) : FnG P w K mg base (L2.CX P w) 3 f fd ["value", "least", "most"] (spReqInt C_I) := by
  refine okG F screquire_integer (fun vs H Q E h => ?_) (fun cdv A outer s H vs Q E hc hr h => ?_)
  · obtain ⟨v, lo, hi, rfl, _⟩ := h
    rfl
  obtain ⟨v, lo, hi, rfl, hv, q1, q2⟩ := h
  refine ⟨_, (pss_one (ps_if (PW.pt (pw_or (pt_not (pt_val (pe_d D_is_integer hc (hr.mono (by omega)) (by rfl) (fun _ => passN) (pa_cons (pv 0) pa_nil)))) (pw_or (pt_cmpR op_lt (pv 0) (pv 1) (nomark _)) (pw_or1 (PW.pt (pw_and (pt_cmpR op_notN (pv 2) pe_non (nomark _)) (pw_and1 (pt_cmpR op_gt (pv 0) (pv 2) (nomark _)))))))))
  (pss_one (ps_raise_value rfl T.e_InvalidInteger hr (takes_of rfl rfl rfl rfl) (pa_cons (pv 0) pa_nil))) pss_nil)), ?_⟩
  refine ⟨_, rfl, v, rfl, hv, _, rfl, ?_⟩
  cases ev : isInt v with
  | false =>
    have : inR lo hi v = false := by cases v <;> first | rfl | exact nomatch ev
    exact iteT (iteT ⟨_, rfl, v, rfl, fun d hd => q2 this d hd⟩)
  | true =>
    obtain ⟨i, rfl⟩ := isInt_iff ev
    have e : inR lo hi (.int i) = (decide (lo ≤ i) && decide (i ≤ hi)) := rfl
    refine iteF ⟨_, rfl, _, rfl, _, _, rfl, rfl, _, rfl, ?_⟩
    refine iteB (fun c => ?_) (fun c => ?_)
    · have := of_decide_eq_true c
      refine iteT ⟨_, rfl, _, rfl, fun d hd => q2 ?_ d hd⟩
      rw [e, decide_eq_false (by omega), Bool.false_and]
    · have := of_decide_eq_false c
      refine ⟨_, rfl, rfl, _, rfl, iteT ⟨_, rfl, _, rfl, _, _, rfl, rfl, _, rfl, ?_⟩⟩
      refine iteB (fun c => ?_) (fun c => ?_)
      · have := of_decide_eq_true c
        refine ⟨_, rfl, _, rfl, fun d hd => q2 ?_ d hd⟩
        rw [e, decide_eq_false (p := i ≤ hi) (by omega), Bool.and_false]
      · have := of_decide_eq_false c
        refine q1 ?_
        rw [e, decide_eq_true (by omega), decide_eq_true (by omega)]
        rfl
abbrev sis_repetition : Stmt := top 19
theorem scis_repetition : FnScope ["value"] ["value"] (defScope sis_repetition) := ⟨rfl, rfl, rfl, by decide +kernel, rfl, by decide +kernel, by decide +kernel⟩
theorem ok_isrep {f : Addr} {fd : FuncData} (F : Fun K "is_repetition" "is_repetition" sis_repetition f fd) (T : Txt K mg base C_I f_I C_P f_P C_M f_M) : FnG P w K mg base CX0 1 f fd ["value"] spIsRep := by
  refine okG F scis_repetition (fun vs H Q E h => ?_) (fun cdv A outer s H vs Q E hc hr h => ?_)
  · obtain ⟨v, rfl, _⟩ := h
    rfl
  obtain ⟨v, rfl, h⟩ := h
  refine ⟨_, (pss_one (ps_ret (pe_and (pe_callB call_isk (by rfl) T.z_isinstance (by decide +kernel) (pa_cons (pv 0) (pa_cons (pe_bltn (v := .ty "tuple") (by rfl) T.z_tuple (by decide +kernel) rfl) pa_nil))) (pe_and (pe_cmpR op_eq (pe_callB call_len_seq (by rfl) T.z_len (by decide +kernel) (pa_cons (pv 0) pa_nil)) pe_int (nomark _)) (pe_one (pe_cmpR op_eq (pe_ix (ix_tupK (K := K) rfl) (pv 0) pe_int (fun _ _ => rfl)) (pe_k (by rfl) T.g_REPEAT) (nomark _))))))), ?_⟩
  rcases h with ⟨x, rfl, q⟩ | ⟨a, y, rfl, ha, q⟩
  · exact ⟨_, rfl, .str x, _, rfl, .inr (.inr (.inr (.inr (.inl rfl)))), (fun z => nomatch z), _, rfl, q⟩
  · have ek : kind H (.ref a) = .tup := by
      show kindO (H a) = .tup
      rw [ha]
      rfl
    refine ⟨_, rfl, .ref a, _, rfl, .inr (.inr (.inr (.inr (.inl rfl)))), by unfold Pv; rw [ek]; exact (fun z => nomatch z), _, rfl, ?_⟩
    rw [ek]
    refine iteT ⟨_, rfl, a, _, rfl, .inr (SqT.of ha), rfl, _, rfl, iteT ?_⟩
    exact ⟨_, rfl, a, _, _, _, rfl, rfl, SqT.of ha, atI_nat (j := 0) rfl, rfl, q⟩
end
end KP

namespace KP
open PySem L2 Gd Zn KM
def spW (m : Nat) : Sp := fun vs H Q _ => ∃ (b : Bool) (v : V) (l : List Pt) (r : Int) (N : Nat), vs = [v, .int r] ∧ LiAt H b v l ∧ Good N m l ∧ (deps l : Int) ≤ r ∧ N ≤ 5000 ∧ ∀ H', Same H H' → Q (.bl true) H'
/-- the list ["ab"] -/
def BadAt (H : Hp) (v : V) : Prop := ∃ q, v = .ref q ∧ H q = some (.lst [.str "ab"])
theorem BadAt.same {H H' : Hp} {v : V} (s : Same H H') : BadAt H v → BadAt H' v
  | ⟨q, e, h⟩ => ⟨q, e, s _ _ h⟩
def spWbad : Sp := fun vs H Q _ => ∃ (v : V) (r : Int), vs = [v, .int r] ∧ BadAt H v ∧ r ≠ 0 ∧ ∀ H', Same H H' → Q (.bl false) H'
/-- a good pattern of lists or of tuples -/
def GoodAt (H : Hp) (v : V) (l : List Pt) : Prop := ∃ b, LiAt H b v l ∧ Good 5000 100 l
theorem GoodAt.same {H H' : Hp} {v : V} {l : List Pt} (s : Same H H') : GoodAt H v l → GoodAt H' v l
  | ⟨b, h, g⟩ => ⟨b, h.same s, g⟩
def spIsP : Sp := fun vs H Q _ => ∃ v, vs = [v] ∧ ((∃ l, GoodAt H v l ∧ ∀ H', Same H H' → Q (.bl true) H') ∨ (BadAt H v ∧ ∀ H', Same H H' → Q (.bl false) H'))
def spReqP (C : Addr) : Sp := fun vs H Q E => ∃ v, vs = [v] ∧ ((∃ l, GoodAt H v l ∧ ∀ H', Same H H' → Q .non H') ∨ (BadAt H v ∧ ∀ d H', Same H H' → H' d = none → E (.ref C) (some d) (upd H' d (.xd [("value", v)]))))
theorem kind_tup {H : Hp} {a : Addr} {xs : List V} (h : H a = some (.tup xs)) : Pv H (.ref a) := by
  have e : kind H (.ref a) = .tup := by
    show kindO (H a) = .tup
    rw [h]
    rfl
  unfold Pv
  rw [e]
  exact fun z => nomatch z
section
variable {P : Program} {w : World} {K : PySem.W.Frag} {mg : Str → Option Value} {base : Heap} {C_I f_I C_P f_P C_M f_M : Addr}
abbrev sis_pattern_within : Stmt := top 18
theorem scis_pattern_within : FnScope ["value", "room", "item"] ["value", "room"] (defScope sis_pattern_within) := ⟨rfl, rfl, rfl, by decide +kernel, rfl, by decide +kernel, by decide +kernel⟩
theorem ok_within {f f1 f2 f3 f4 : Addr} {fd fd1 fd2 fd3 fd4 : FuncData} {m : Nat} {sp0 : Sp} (F : Fun K "is_pattern_within" "is_pattern_within" sis_pattern_within f fd) (T : Txt K mg base C_I f_I C_P f_P C_M f_M)
    (D_is_list : Df P w K mg base CX0 1 "is_list" f1 fd1 ["value"] spIsList) (D_is_letter : Df P w K mg base CX0 1 "is_letter" f2 fd2 ["value"] spIsLet) (D_is_repetition : Df P w K mg base CX0 1 "is_repetition" f3 fd3 ["value"] spIsRep)
    (D_is_pattern_within : Df P w K mg base CX0 (1 + m) "is_pattern_within" f4 fd4 ["value", "room"] sp0) (h0 : ∀ k, m = k + 1 → sp0 = spW k) : FnG P w K mg base CX0 (1 + m + 1) f fd ["value", "room"] (spW m) := by
  refine okG F scis_pattern_within (fun vs H Q E h => ?_) (fun cdv A outer s H vs Q E hc hr h => ?_)
  · obtain ⟨b, v, l, r, N, rfl, _⟩ := h
    rfl
  obtain ⟨b, v, l, r, N, rfl, ⟨q0, vs0, rfl, hq, hts⟩, g, hd, hN, q⟩ := h
  refine ⟨_, (pss_cons (ps_if (PW.pt (pw_or (pt_not (pt_val (pe_d D_is_list hc (hr.mono (by omega)) (by rfl) (fun _ => passN) (pa_cons (pv 0) pa_nil)))) (pw_or1 (pt_cmpR op_eq (pe_callB call_len_seq (by rfl) T.z_len (by decide +kernel) (pa_cons (pv 0) pa_nil)) pe_int (nomark _)))))
  (pss_one (ps_ret pe_bl)) pss_nil)
 (pss_cons (ps_for (passes_of rfl) rfl (pi_sq (pv 0)) (pg_name (i := 2) scis_pattern_within.nd rfl (Or.inl rfl))
  (pss_one (ps_if (pt_not (pt_val (pe_d D_is_letter hc (hr.mono (by omega)) (by rfl) (fun _ => passN) (pa_cons (pv 2) pa_nil))))
  (pss_one (ps_if (PW.pt (pw_or (pt_cmpR op_eq (pv 1) pe_int (nomark _)) (pw_or (pt_not (pt_val (pe_d D_is_repetition hc (hr.mono (by omega)) (by rfl) (fun _ => passN) (pa_cons (pv 2) pa_nil)))) (pw_or1 (pt_not (pt_val (pe_d D_is_pattern_within hc (hr.mono (by omega)) (by rfl) (fun _ => passN) (pa_cons (pe_ix (ix_tupK (K := K) rfl) (pv 2) pe_int (fun _ _ => rfl)) (pa_cons (pe_op op_sub (pv 1) pe_int) pa_nil)))))))))
  (pss_one (ps_ret pe_bl)) pss_nil)) pss_nil)))
 (pss_one (ps_ret pe_bl)))), ?_⟩
  have ln := hts.length
  have gn := g.ne
  refine ⟨_, rfl, b, q0, vs0, rfl, hq, fun H1 s1 => ⟨_, rfl, iteF ?_⟩⟩
  refine ⟨_, rfl, q0, _, rfl, so_any (s1 _ _ hq), rfl, _, rfl, ?_⟩
  refine iteB (fun c => ?_) fun _ => ?_
  · have := of_decide_eq_true c
    injection this with this
    omega
  refine ⟨_, rfl, b, q0, vs0, rfl, so_sq (s1 _ _ hq), ?_⟩
  refine for_it walk_sq (fun i σ H' => ∃ o, σ = [some (.ref q0), some (.int r), o] ∧ Same H1 H') ⟨none, rfl, Same.refl _⟩ (fun i σ H' _ ⟨_, _, s⟩ => so_sq (s _ _ (s1 _ _ hq))) ?_ ?_
  · rintro i x _ H2 _ hi ⟨o, rfl, s2⟩ ⟨rfl, hx⟩
    obtain ⟨p, hp, hpt⟩ := hts.at hx
    have s02 := s1.trans s2
    cases hpt with
    | @ch c =>
      have lc : isLet (.str ⟨#[c]⟩) = true := by
        show (decide (1 = 1) && (low c && true)) = true
        rw [g.letter hp]
        rfl
      refine ⟨_, rfl, .str ⟨#[c]⟩, rfl, (fun z => nomatch z), (fun x z => by injection z with z; rw [← z]; show 1 ≤ 1000; decide), _, rfl, ?_⟩
      rw [lc]
      exact iteF ⟨_, rfl, s2⟩
    | @rep a q1 vs1 k h1 h2 h3 =>
      obtain ⟨gk, hm⟩ := g.part hp
      have dk := deps_at hp
      have ek : (Pt.rep k).dep = deps k + 1 := rfl
      obtain ⟨m', rfl⟩ : ∃ m', m = m' + 1 := ⟨m - 1, by omega⟩
      have es := h0 m' rfl
      subst es
      have ha := s02 _ _ h1
      refine ⟨_, rfl, .ref a, rfl, kind_tup ha, (fun x z => nomatch z), _, rfl, iteT ?_⟩
      refine ⟨_, rfl, rfl, _, rfl, ?_⟩
      refine iteB (fun c => ?_) fun _ => ?_
      · have := of_decide_eq_true c
        injection this with this
        omega
      refine ⟨_, rfl, .ref a, rfl, .inr ⟨a, _, rfl, ha, _, rfl, iteF ?_⟩⟩
      refine ⟨_, rfl, a, _, _, _, rfl, rfl, SqT.of ha, atI_nat (j := 1) rfl, _, rfl, _, _, rfl, rfl, ?_⟩
      refine ⟨b, .ref q1, k, r - 1, N, rfl, ⟨q1, vs1, rfl, s02 _ _ h2, h3.same s02⟩, gk, by omega, hN, fun H4 s4 => ⟨_, rfl, iteF ⟨_, rfl, s2.trans s4⟩⟩⟩
  · rintro _ H2 ⟨o, rfl, s2⟩
    exact q _ (s1.trans s2)
theorem ok_withinB {f f1 f2 f3 f4 : Addr} {fd fd1 fd2 fd3 fd4 : FuncData} {m : Nat} {sp0 : Sp} (F : Fun K "is_pattern_within" "is_pattern_within" sis_pattern_within f fd) (T : Txt K mg base C_I f_I C_P f_P C_M f_M)
    (D_is_list : Df P w K mg base CX0 1 "is_list" f1 fd1 ["value"] spIsList) (D_is_letter : Df P w K mg base CX0 1 "is_letter" f2 fd2 ["value"] spIsLet) (D_is_repetition : Df P w K mg base CX0 1 "is_repetition" f3 fd3 ["value"] spIsRep)
    (D_is_pattern_within : Df P w K mg base CX0 (1 + m) "is_pattern_within" f4 fd4 ["value", "room"] sp0) : FnG P w K mg base CX0 (1 + m + 1) f fd ["value", "room"] spWbad := by
  refine okG F scis_pattern_within (fun vs H Q E h => ?_) (fun cdv A outer s H vs Q E hc hr h => ?_)
  · obtain ⟨v, r, rfl, _⟩ := h
    rfl
  obtain ⟨v, r, rfl, ⟨q0, rfl, hq⟩, r0, q⟩ := h
  refine ⟨_, (pss_cons (ps_if (PW.pt (pw_or (pt_not (pt_val (pe_d D_is_list hc (hr.mono (by omega)) (by rfl) (fun _ => passN) (pa_cons (pv 0) pa_nil)))) (pw_or1 (pt_cmpR op_eq (pe_callB call_len_seq (by rfl) T.z_len (by decide +kernel) (pa_cons (pv 0) pa_nil)) pe_int (nomark _)))))
  (pss_one (ps_ret pe_bl)) pss_nil)
 (pss_cons (ps_for (passes_of rfl) rfl (pi_sq (pv 0)) (pg_name (i := 2) scis_pattern_within.nd rfl (Or.inl rfl))
  (pss_one (ps_if (pt_not (pt_val (pe_d D_is_letter hc (hr.mono (by omega)) (by rfl) (fun _ => passN) (pa_cons (pv 2) pa_nil))))
  (pss_one (ps_if (PW.pt (pw_or (pt_cmpR op_eq (pv 1) pe_int (nomark _)) (pw_or (pt_not (pt_val (pe_d D_is_repetition hc (hr.mono (by omega)) (by rfl) (fun _ => passN) (pa_cons (pv 2) pa_nil)))) (pw_or1 (pt_not (pt_val (pe_d D_is_pattern_within hc (hr.mono (by omega)) (by rfl) (fun _ => passN) (pa_cons (pe_ix (ix_tupK (K := K) rfl) (pv 2) pe_int (fun _ _ => rfl)) (pa_cons (pe_op op_sub (pv 1) pe_int) pa_nil)))))))))
  (pss_one (ps_ret pe_bl)) pss_nil)) pss_nil)))
 (pss_one (ps_ret pe_bl)))), ?_⟩
  refine ⟨_, rfl, true, q0, _, rfl, hq, fun H1 s1 => ⟨_, rfl, iteF ?_⟩⟩
  refine ⟨_, rfl, q0, _, rfl, .inl (SqL.of (s1 _ _ hq)), rfl, _, rfl, ?_⟩
  refine iteB (fun c => absurd c (by decide)) fun _ => ?_
  refine ⟨_, rfl, true, q0, _, rfl, SqL.of (s1 _ _ hq), ?_⟩
  refine for_it (walk_sq (b := true)) (fun i σ H' => i = 0 ∧ ∃ o, σ = [some (.ref q0), some (.int r), o] ∧ Same H1 H') ⟨rfl, none, rfl, Same.refl _⟩ (fun i σ H' _ ⟨_, _, _, s⟩ => SqL.of (s _ _ (s1 _ _ hq))) ?_ ?_
  · rintro i x _ H2 _ hi ⟨rfl, o, rfl, s2⟩ ⟨rfl, hx⟩
    obtain rfl : x = .str "ab" := by injection hx with hx; exact hx.symm
    have lc : isLet (.str "ab") = false := by decide +kernel
    refine ⟨_, rfl, .str "ab", rfl, (fun z => nomatch z), (fun x z => by injection z with z; rw [← z]; decide +kernel), _, rfl, ?_⟩
    rw [lc]
    refine iteT ⟨_, rfl, rfl, _, rfl, ?_⟩
    refine iteB (fun c => ?_) fun _ => ?_
    · have := of_decide_eq_true c
      injection this with this
      exact absurd this r0
    exact ⟨_, rfl, .str "ab", rfl, .inl ⟨_, rfl, _, rfl, iteT (iteT (q _ (s1.trans s2)))⟩⟩
  · rintro _ H2 ⟨z, _⟩
    exact nomatch z
theorem all_within {f f1 f2 f3 : Addr} {fd fd1 fd2 fd3 : FuncData} (F : Fun K "is_pattern_within" "is_pattern_within" sis_pattern_within f fd) (T : Txt K mg base C_I f_I C_P f_P C_M f_M)
    (D_is_list : Df P w K mg base CX0 1 "is_list" f1 fd1 ["value"] spIsList) (D_is_letter : Df P w K mg base CX0 1 "is_letter" f2 fd2 ["value"] spIsLet) (D_is_repetition : Df P w K mg base CX0 1 "is_repetition" f3 fd3 ["value"] spIsRep)
    (m0 : mg "is_pattern_within" = some (.ref f)) (k0 : PySem.W.keepIn K (.ref f) = true) (b0 : Binds K fd ["value", "room"] []) : ∀ m, FnG P w K mg base CX0 (1 + m + 1) f fd ["value", "room"] (spW m)
  | 0 => ok_within (m := 0) F T D_is_list D_is_letter D_is_repetition ⟨no_fn (sp := fun _ _ _ _ => False) (fun _ _ _ _ z => z), m0, k0, b0⟩ (fun k z => absurd z (by omega))
  | m + 1 => ok_within (m := m + 1) F T D_is_list D_is_letter D_is_repetition ⟨all_within F T D_is_list D_is_letter D_is_repetition m0 k0 b0 m, m0, k0, b0⟩ (fun k z => by
    obtain rfl : m = k := by omega
    rfl)
abbrev sis_pattern : Stmt := top 17
theorem scis_pattern : FnScope ["value"] ["value"] (defScope sis_pattern) := ⟨rfl, rfl, rfl, by decide +kernel, rfl, by decide +kernel, by decide +kernel⟩
theorem ok_isp {f f1 : Addr} {fd fd1 : FuncData} (F : Fun K "is_pattern" "is_pattern" sis_pattern f fd) (T : Txt K mg base C_I f_I C_P f_P C_M f_M)
    (D_is_pattern_within : Df P w K mg base CX0 102 "is_pattern_within" f1 fd1 ["value", "room"] (fun vs H Q E => spW 100 vs H Q E ∨ spWbad vs H Q E)) : FnG P w K mg base CX0 103 f fd ["value"] spIsP := by
  refine okG F scis_pattern (fun vs H Q E h => ?_) (fun cdv A outer s H vs Q E hc hr h => ?_)
  · obtain ⟨v, rfl, _⟩ := h
    rfl
  obtain ⟨v, rfl, h⟩ := h
  refine ⟨_, (pss_one (ps_ret (pe_d D_is_pattern_within hc (hr.mono (by omega)) (by rfl) (fun _ => passN) (pa_cons (pv 0) (pa_cons (pe_k (by rfl) T.g_MOST_NESTED) pa_nil))))), ?_⟩
  rcases h with ⟨l, ⟨b, hl, g⟩, q⟩ | ⟨hb, q⟩
  · exact ⟨_, rfl, .inl ⟨b, v, l, 100, 5000, rfl, hl, g, by have := g.dp; omega, Nat.le_refl _, q⟩⟩
  · exact ⟨_, rfl, .inr ⟨v, 100, rfl, hb, by decide, q⟩⟩
abbrev srequire_pattern : Stmt := top 20
theorem screquire_pattern : FnScope ["value"] ["value"] (defScope srequire_pattern) := ⟨rfl, rfl, rfl, by decide +kernel, rfl, by decide +kernel, by decide +kernel⟩
theorem ok_reqp {f f1 : Addr} {fd fd1 : FuncData} (F : Fun K "require_pattern" "require_pattern" srequire_pattern f fd) (T : Txt K mg base C_I f_I C_P f_P C_M f_M)
    (D_is_pattern : Df P w K mg base CX0 103 "is_pattern" f1 fd1 ["value"] spIsP) : FnG P w K mg base (L2.CX P w) 104 f fd ["value"] (spReqP C_P) := by
  refine okG F screquire_pattern (fun vs H Q E h => ?_) (fun cdv A outer s H vs Q E hc hr h => ?_)
  · obtain ⟨v, rfl, _⟩ := h
    rfl
  obtain ⟨v, rfl, h⟩ := h
  refine ⟨_, (pss_one (ps_if (pt_not (pt_val (pe_d D_is_pattern hc (hr.mono (by omega)) (by rfl) (fun _ => passN) (pa_cons (pv 0) pa_nil))))
  (pss_one (ps_raise_value rfl T.e_InvalidPattern hr (takes_of rfl rfl rfl rfl) (pa_cons (pv 0) pa_nil))) pss_nil)), ?_⟩
  rcases h with ⟨l, hg, q⟩ | ⟨hb, q⟩
  · exact ⟨_, rfl, v, rfl, .inl ⟨l, hg, fun H1 s1 => ⟨_, rfl, iteF (q _ s1)⟩⟩⟩
  · exact ⟨_, rfl, v, rfl, .inr ⟨hb, fun H1 s1 => ⟨_, rfl, iteT ⟨_, rfl, v, rfl, fun d hd => q d H1 s1 hd⟩⟩⟩⟩
end
end KP

namespace KP
open PySem L2 Gd Zn KM
def spLen (m : Nat) : Sp := fun vs H Q _ => ∃ (b : Bool) (v : V) (l : List Pt) (n : Int), vs = [v, .int n] ∧ LiAt H b v l ∧ Good 5000 m l ∧ 1 ≤ n ∧ n ≤ 1000 ∧ ∀ H', Same H H' → Q (.int (plens n l)) H'
def spTxt (m : Nat) : Sp := fun vs H Q _ => ∃ (b : Bool) (v : V) (l : List Pt) (n : Int), vs = [v, .int n] ∧ LiAt H b v l ∧ Good 5000 m l ∧ 1 ≤ n ∧ n ≤ 1000 ∧ plens n l ≤ 4000 ∧ ∀ H', Same H H' → Q (.str (ptxs n l)) H'
/-- what is told of a pattern and a number of times -/
def spPL (C_I C_P : Addr) : Sp := fun vs H Q E => ∃ v m, vs = [v, m] ∧ Pv H m ∧
  ((∃ l, GoodAt H v l ∧ (∀ n : Int, m = .int n → 1 ≤ n → n ≤ 1000 → ∀ H', Same H H' → Q (.int (plens n l)) H') ∧ (inR 1 1000 m = false → ∀ d H', Same H H' → H' d = none → E (.ref C_I) (some d) (upd H' d (.xd [("value", m)])))) ∨
   (BadAt H v ∧ ∀ d H', Same H H' → H' d = none → E (.ref C_P) (some d) (upd H' d (.xd [("value", v)]))))
def spPT (C_I C_P C_M : Addr) : Sp := fun vs H Q E => ∃ v m, vs = [v, m] ∧ Pv H m ∧
  ((∃ l, GoodAt H v l ∧ (∀ n : Int, m = .int n → 1 ≤ n → n ≤ 1000 → (plens n l ≤ 4000 → ∀ H', Same H H' → Q (.str (ptxs n l)) H') ∧ (4000 < plens n l → ∀ d H', Same H H' → H' d = none → E (.ref C_M) (some d) (upd H' d (.xd [("count", .int (plens n l))])))) ∧
      (inR 1 1000 m = false → ∀ d H', Same H H' → H' d = none → E (.ref C_I) (some d) (upd H' d (.xd [("value", m)])))) ∨
   (BadAt H v ∧ ∀ d H', Same H H' → H' d = none → E (.ref C_P) (some d) (upd H' d (.xd [("value", v)]))))
theorem inR_iff {lo hi : Int} {m : V} (h : inR lo hi m = true) : ∃ n : Int, m = .int n ∧ lo ≤ n ∧ n ≤ hi := by
  cases m with
  | int n =>
    have h : (decide (lo ≤ n) && decide (n ≤ hi)) = true := h
    rw [Bool.and_eq_true, decide_eq_true_eq, decide_eq_true_eq] at h
    exact ⟨n, rfl, h.1, h.2⟩
  | _ => exact absurd (show false = true from h) Bool.false_ne_true
section
variable {P : Program} {w : World} {K : PySem.W.Frag} {mg : Str → Option Value} {base : Heap} {C_I f_I C_P f_P C_M f_M : Addr}
abbrev slength_of : Stmt := top 22
theorem sclength_of : FnScope ["pattern", "times", "length", "item"] ["pattern", "times"] (defScope slength_of) := ⟨rfl, rfl, rfl, by decide +kernel, rfl, by decide +kernel, by decide +kernel⟩
theorem ok_len {f f1 f2 : Addr} {fd fd1 fd2 : FuncData} {m : Nat} {sp0 : Sp} (F : Fun K "length_of" "length_of" slength_of f fd)
    (D_is_repetition : Df P w K mg base CX0 1 "is_repetition" f1 fd1 ["value"] spIsRep) (D_length_of : Df P w K mg base CX0 (1 + m) "length_of" f2 fd2 ["pattern", "times"] sp0) (h0 : ∀ k, m = k + 1 → sp0 = spLen k) : FnG P w K mg base CX0 (1 + m + 1) f fd ["pattern", "times"] (spLen m) := by
  refine okG F sclength_of (fun vs H Q E h => ?_) (fun cdv A outer s H vs Q E hc hr h => ?_)
  · obtain ⟨b, v, l, n, rfl, _⟩ := h
    rfl
  obtain ⟨b, v, l, n, rfl, ⟨q0, vs0, rfl, hq, hts⟩, g, n1, n2, q⟩ := h
  refine ⟨_, (pss_cons (ps_set (i := 2) sclength_of.nd rfl (Or.inl rfl) pe_int)
 (pss_cons (ps_for (passes_of rfl) rfl (pi_sq (pv 0)) (pg_name (i := 3) sclength_of.nd rfl (Or.inl rfl))
  (pss_one (ps_if (pt_val (pe_d D_is_repetition hc (hr.mono (by omega)) (by rfl) (fun _ => passN) (pa_cons (pv 3) pa_nil)))
  (pss_one (ps_aug (i := 2) sclength_of.nd rfl (Or.inl rfl) (pe_op op_mul (pv 1) (pe_d D_length_of hc (hr.mono (by omega)) (by rfl) (fun _ => passN) (pa_cons (pe_ix (ix_tupK (K := K) rfl) (pv 3) pe_int (fun _ _ => rfl)) (pa_cons (pv 1) pa_nil)))) ip_add)) (pss_one (ps_aug (i := 2) sclength_of.nd rfl (Or.inl rfl) pe_int ip_add)))))
 (pss_one (ps_ret (pv 2))))), ?_⟩
  have ln := hts.length
  refine ⟨_, rfl, b, q0, vs0, rfl, so_sq hq, ?_⟩
  refine for_it walk_sq (fun i σ H' => ∃ o, σ = [some (.ref q0), some (.int n), some (.int (plens n (l.take i))), o] ∧ Same H H') ⟨none, rfl, Same.refl _⟩ (fun i σ H' _ ⟨_, _, s⟩ => so_sq (s _ _ hq)) ?_ ?_
  · rintro i x _ H2 _ hi ⟨o, rfl, s2⟩ ⟨rfl, hx⟩
    obtain ⟨p, hp, hpt⟩ := hts.at hx
    have et := plens_take n hp
    cases hpt with
    | @ch c =>
      refine ⟨_, rfl, .str ⟨#[c]⟩, rfl, .inl ⟨_, rfl, _, rfl, iteF ?_⟩⟩
      refine ⟨_, rfl, _, _, rfl, rfl, some (.str ⟨#[c]⟩), ?_, s2⟩
      rw [et]
      rfl
    | @rep a q1 vs1 k h1 h2 h3 =>
      obtain ⟨gk, hm⟩ := g.part hp
      obtain ⟨m', rfl⟩ : ∃ m', m = m' + 1 := ⟨m - 1, by omega⟩
      have es := h0 m' rfl
      subst es
      have ha := s2 _ _ h1
      refine ⟨_, rfl, .ref a, rfl, .inr ⟨a, _, rfl, ha, _, rfl, iteT ?_⟩⟩
      refine ⟨_, rfl, _, rfl, _, rfl, a, _, _, _, rfl, rfl, SqT.of ha, atI_nat (j := 1) rfl, _, rfl, ?_⟩
      refine ⟨b, .ref q1, k, n, rfl, ⟨q1, vs1, rfl, s2 _ _ h2, h3.same s2⟩, gk, n1, n2, fun H4 s4 => ?_⟩
      refine ⟨_, _, rfl, rfl, .inl ⟨by omega, by omega⟩, _, _, rfl, rfl, some (.ref a), ?_, s2.trans s4⟩
      rw [et]
      rfl
  · rintro _ H2 ⟨o, rfl, s2⟩
    rw [ln, List.take_length]
    exact ⟨_, rfl, q _ s2⟩
theorem all_len {f f1 : Addr} {fd fd1 : FuncData} (F : Fun K "length_of" "length_of" slength_of f fd) (D_is_repetition : Df P w K mg base CX0 1 "is_repetition" f1 fd1 ["value"] spIsRep)
    (m0 : mg "length_of" = some (.ref f)) (k0 : PySem.W.keepIn K (.ref f) = true) (b0 : Binds K fd ["pattern", "times"] []) : ∀ m, FnG P w K mg base CX0 (1 + m + 1) f fd ["pattern", "times"] (spLen m)
  | 0 => ok_len (m := 0) F D_is_repetition ⟨no_fn (sp := fun _ _ _ _ => False) (fun _ _ _ _ z => z), m0, k0, b0⟩ (fun k z => absurd z (by omega))
  | m + 1 => ok_len (m := m + 1) F D_is_repetition ⟨all_len F D_is_repetition m0 k0 b0 m, m0, k0, b0⟩ (fun k z => by
    obtain rfl : m = k := by omega
    rfl)
abbrev stext_of : Stmt := top 24
theorem sctext_of : FnScope ["pattern", "times", "parts", "item"] ["pattern", "times"] (defScope stext_of) := ⟨rfl, rfl, rfl, by decide +kernel, rfl, by decide +kernel, by decide +kernel⟩
theorem ok_txt {f f1 f2 : Addr} {fd fd1 fd2 : FuncData} {m : Nat} {sp0 : Sp} (F : Fun K "text_of" "text_of" stext_of f fd)
    (D_is_repetition : Df P w K mg base CX0 1 "is_repetition" f1 fd1 ["value"] spIsRep) (D_text_of : Df P w K mg base CX0 (1 + m) "text_of" f2 fd2 ["pattern", "times"] sp0) (h0 : ∀ k, m = k + 1 → sp0 = spTxt k) : FnG P w K mg base CX0 (1 + m + 1) f fd ["pattern", "times"] (spTxt m) := by
  refine okG F sctext_of (fun vs H Q E h => ?_) (fun cdv A outer s H vs Q E hc hr h => ?_)
  · obtain ⟨b, v, l, n, rfl, _⟩ := h
    rfl
  obtain ⟨b, v, l, n, rfl, ⟨q0, vs0, rfl, hq, hts⟩, g, n1, n2, hl, q⟩ := h
  refine ⟨_, (pss_cons (ps_set (i := 2) sctext_of.nd rfl (Or.inl rfl) (pe_lst pa_nil))
 (pss_cons (ps_for (passes_of rfl) rfl (pi_sq (pv 0)) (pg_name (i := 3) sctext_of.nd rfl (Or.inl rfl))
  (pss_one (ps_if (pt_val (pe_d D_is_repetition hc (hr.mono (by omega)) (by rfl) (fun _ => passN) (pa_cons (pv 3) pa_nil)))
  (pss_one (ps_expr (pe_bm PySem.F.plainAttrs_list PySem.F.slot_list_append PySem.F.type_list_append mt_append (pv 2) (pa_cons (pe_op op_repA (pe_d D_text_of hc (hr.mono (by omega)) (by rfl) (fun _ => passN) (pa_cons (pe_ix (ix_tupK (K := K) rfl) (pv 3) pe_int (fun _ _ => rfl)) (pa_cons (pv 1) pa_nil))) (pv 1)) pa_nil)))) (pss_one (ps_expr (pe_bm PySem.F.plainAttrs_list PySem.F.slot_list_append PySem.F.type_list_append mt_append (pv 2) (pa_cons (pv 3) pa_nil)))))))
 (pss_one (ps_ret (pe_join pe_str (pv 2)))))), ?_⟩
  have ln := hts.length
  have z16 := sizeLine_eq
  have gl := g.len
  refine ⟨by show 0 ≤ sizeLine; omega, fun D hD => ?_⟩
  have sD : Same H (upd H D (.lst [])) := upd_new hD
  refine ⟨_, rfl, b, q0, vs0, rfl, so_sq (sD _ _ hq), ?_⟩
  refine for_it walk_sq (fun i σ H' => ∃ o, σ = [some (.ref q0), some (.int n), some (.ref D), o] ∧ Vls H D ((ptl n (l.take i)).map V.str) H') ⟨none, rfl, Vls.nil hD⟩ (fun i σ H' _ ⟨_, _, s⟩ => so_sq (s.same _ _ hq)) ?_ ?_
  · rintro i x _ H2 _ hi ⟨o, rfl, L⟩ ⟨rfl, hx⟩
    obtain ⟨p, hp, hpt⟩ := hts.at hx
    have et : (ptl n (l.take (i + 1))).map V.str = (ptl n (l.take i)).map V.str ++ [V.str (ptx n p)] := by
      rw [take_succ hp, ptl_app, List.map_append]
      rfl
    have lt : ((ptl n (l.take i)).map V.str).length < sizeLine := by
      rw [List.length_map, ptl_len, List.length_take]
      omega
    have s2 := L.same
    cases hpt with
    | @ch c =>
      refine ⟨_, rfl, .str ⟨#[c]⟩, rfl, .inl ⟨_, rfl, _, rfl, iteF ?_⟩⟩
      obtain ⟨acc, a1, a2, a3⟩ := L.add (y := V.str (ptx n (.ch c))) lt
      rw [← et] at a3
      exact ⟨_, rfl, .inl ⟨rfl, _, SqL.of L.at_⟩, _, rfl, D, acc, _, rfl, rfl, a1, a2, _, rfl, a3⟩
    | @rep a q1 vs1 k h1 h2 h3 =>
      obtain ⟨gk, hm⟩ := g.part hp
      obtain ⟨m', rfl⟩ : ∃ m', m = m' + 1 := ⟨m - 1, by omega⟩
      have es := h0 m' rfl
      subst es
      have ha := s2 _ _ h1
      have le1 := plen_at n1 hp
      have le2 := plens_le_rep n1 k
      have le3 := ptxs_len n1 k
      have le4 := ptx_len n1 (.rep k)
      have le5 := repS_len (ptxs n k) n
      have e5 : ptx n (.rep k) = repS (ptxs n k) n := rfl
      rw [e5] at le4
      refine ⟨_, rfl, .ref a, rfl, .inr ⟨a, _, rfl, ha, _, rfl, iteT ?_⟩⟩
      refine ⟨_, rfl, .inl ⟨rfl, _, SqL.of L.at_⟩, _, rfl, a, _, _, _, rfl, rfl, SqT.of ha, atI_nat (j := 1) rfl, _, rfl, ?_⟩
      refine ⟨b, .ref q1, k, n, rfl, ⟨q1, vs1, rfl, s2 _ _ h2, h3.same s2⟩, gk, n1, n2, by omega, fun H4 s4 => ?_⟩
      obtain ⟨acc, a1, a2, a3⟩ := (L.ext s4).add (y := V.str (ptx n (.rep k))) lt
      rw [← et] at a3
      refine ⟨_, rfl, _, _, rfl, rfl, n1, by omega, ?_, D, acc, _, rfl, rfl, a1, a2, _, rfl, a3⟩
      rw [Nat.mul_comm, ← le5]
      omega
  · rintro _ H2 ⟨o, rfl, L⟩
    rw [ln, List.take_length] at L
    refine ⟨⟨_, rfl⟩, _, rfl, _, D, ptl n l, rfl, rfl, .inl (SqL.of L.at_), ?_, q _ L.same⟩
    have := ptl_sum n1 l
    have h2 : ((("" : String) : Str)).length = 0 := by decide +kernel
    rw [h2]
    omega
theorem all_txt {f f1 : Addr} {fd fd1 : FuncData} (F : Fun K "text_of" "text_of" stext_of f fd) (D_is_repetition : Df P w K mg base CX0 1 "is_repetition" f1 fd1 ["value"] spIsRep)
    (m0 : mg "text_of" = some (.ref f)) (k0 : PySem.W.keepIn K (.ref f) = true) (b0 : Binds K fd ["pattern", "times"] []) : ∀ m, FnG P w K mg base CX0 (1 + m + 1) f fd ["pattern", "times"] (spTxt m)
  | 0 => ok_txt (m := 0) F D_is_repetition ⟨no_fn (sp := fun _ _ _ _ => False) (fun _ _ _ _ z => z), m0, k0, b0⟩ (fun k z => absurd z (by omega))
  | m + 1 => ok_txt (m := m + 1) F D_is_repetition ⟨all_txt F D_is_repetition m0 k0 b0 m, m0, k0, b0⟩ (fun k z => by
    obtain rfl : m = k := by omega
    rfl)
abbrev spattern_length : Stmt := top 21
theorem scpattern_length : FnScope ["pattern", "times"] ["pattern", "times"] (defScope spattern_length) := ⟨rfl, rfl, rfl, by decide +kernel, rfl, by decide +kernel, by decide +kernel⟩
theorem ok_pl {f f1 f2 f3 : Addr} {fd fd1 fd2 fd3 : FuncData} (F : Fun K "pattern_length" "pattern_length" spattern_length f fd) (T : Txt K mg base C_I f_I C_P f_P C_M f_M)
    (D_require_pattern : Df P w K mg base (L2.CX P w) 104 "require_pattern" f1 fd1 ["value"] (spReqP C_P)) (D_require_integer : Df P w K mg base (L2.CX P w) 3 "require_integer" f2 fd2 ["value", "least", "most"] (spReqInt C_I)) (D_length_of : Df P w K mg base CX0 102 "length_of" f3 fd3 ["pattern", "times"] (spLen 100)) : FnG P w K mg base (L2.CX P w) 105 f fd ["pattern", "times"] (spPL C_I C_P) := by
  refine okG F scpattern_length (fun vs H Q E h => ?_) (fun cdv A outer s H vs Q E hc hr h => ?_)
  · obtain ⟨v, m, rfl, _⟩ := h
    rfl
  obtain ⟨v, m, rfl, hm, h⟩ := h
  refine ⟨_, (pss_cons (ps_expr (pe_d D_require_pattern hc (hr.mono (by omega)) (by rfl) (fun σ => passAt (takes_of rfl rfl rfl rfl) σ) (pa_cons (pv 0) pa_nil)))
 (pss_cons (ps_expr (pe_d D_require_integer hc (hr.mono (by omega)) (by rfl) (fun σ => passAt (takes_of rfl rfl rfl rfl) σ) (pa_cons (pv 1) (pa_cons pe_int (pa_cons (pe_k (by rfl) T.g_MOST_TIMES) pa_nil)))))
 (pss_one (ps_ret (pe_d D_length_of hc (hr.mono (by omega)) (by rfl) (fun _ => passN) (pa_cons (pv 0) (pa_cons (pv 1) pa_nil))))))), ?_⟩
  rcases h with ⟨l, hg, q1, q2⟩ | ⟨hb, q⟩
  · refine ⟨_, rfl, v, rfl, .inl ⟨l, hg, fun H1 s1 => ?_⟩⟩
    refine ⟨_, rfl, m, 1, 1000, rfl, hm.same s1, fun hi => ?_, fun hi d hd => q2 hi d _ s1 hd⟩
    obtain ⟨n, rfl, n1, n2⟩ := inR_iff hi
    obtain ⟨b, hl, g⟩ := hg.same s1
    exact ⟨_, rfl, _, rfl, b, v, l, n, rfl, hl, g, n1, n2, fun H2 s2 => q1 n rfl n1 n2 _ (s1.trans s2)⟩
  · exact ⟨_, rfl, v, rfl, .inr ⟨hb, q⟩⟩
abbrev spattern_text : Stmt := top 23
theorem scpattern_text : FnScope ["pattern", "times", "length"] ["pattern", "times"] (defScope spattern_text) := ⟨rfl, rfl, rfl, by decide +kernel, rfl, by decide +kernel, by decide +kernel⟩
theorem ok_pt {f f1 f2 : Addr} {fd fd1 fd2 : FuncData} (F : Fun K "pattern_text" "pattern_text" spattern_text f fd) (T : Txt K mg base C_I f_I C_P f_P C_M f_M)
    (D_pattern_length : Df P w K mg base (L2.CX P w) 105 "pattern_length" f1 fd1 ["pattern", "times"] (spPL C_I C_P)) (D_text_of : Df P w K mg base CX0 102 "text_of" f2 fd2 ["pattern", "times"] (spTxt 100)) : FnG P w K mg base (L2.CX P w) 106 f fd ["pattern", "times"] (spPT C_I C_P C_M) := by
  refine okG F scpattern_text (fun vs H Q E h => ?_) (fun cdv A outer s H vs Q E hc hr h => ?_)
  · obtain ⟨v, m, rfl, _⟩ := h
    rfl
  obtain ⟨v, m, rfl, hm, h⟩ := h
  refine ⟨_, (pss_cons (ps_set (i := 2) scpattern_text.nd rfl (Or.inl rfl) (pe_d D_pattern_length hc (hr.mono (by omega)) (by rfl) (fun σ => passAt (takes_of rfl rfl rfl rfl) σ) (pa_cons (pv 0) (pa_cons (pv 1) pa_nil))))
 (pss_cons (ps_if (pt_cmpR op_gt (pv 2) (pe_k (by rfl) T.g_LONGEST_TEXT) (nomark _))
  (pss_one (ps_raise_count rfl T.e_TooMany hr (takes_of rfl rfl rfl rfl) (pa_cons (pv 2) pa_nil))) pss_nil)
 (pss_one (ps_ret (pe_d D_text_of hc (hr.mono (by omega)) (by rfl) (fun _ => passN) (pa_cons (pv 0) (pa_cons (pv 1) pa_nil))))))), ?_⟩
  rcases h with ⟨l, hg, q1, q2⟩ | ⟨hb, q⟩
  · refine ⟨_, rfl, _, rfl, v, m, rfl, hm, .inl ⟨l, hg, fun n en n1 n2 H1 s1 => ?_, q2⟩⟩
    subst en
    obtain ⟨q3, q4⟩ := q1 n rfl n1 n2
    refine ⟨_, rfl, _, _, rfl, rfl, _, rfl, ?_⟩
    refine iteB (fun c => ?_) (fun c => ?_)
    · exact ⟨_, rfl, _, rfl, fun d hd => q4 (of_decide_eq_true c) d _ s1 hd⟩
    · have c2 := of_decide_eq_false c
      obtain ⟨b, hl, g⟩ := hg.same s1
      exact ⟨_, rfl, _, rfl, b, v, l, n, rfl, hl, g, n1, n2, by omega, fun H2 s2 => q3 (by omega) _ (s1.trans s2)⟩
  · exact ⟨_, rfl, _, rfl, v, m, rfl, hm, .inr ⟨hb, q⟩⟩
end
end KP

namespace KP
open PySem L2 Gd Zn KM
theorem plen_sum (n : Int) : ∀ l : List Pt, (l.map (plen n)).sum = plens n l
  | [] => rfl
  | p :: l => by
    rw [List.map_cons, List.sum_cons, plen_sum n l]
    rfl
/-- tuples stand on -/
abbrev Tups (H H' : Hp) : Prop := ∀ c xs, H c = some (.tup xs) → H' c = some (.tup xs)
section
variable {H H' : Hp}
mutual
theorem PtAt.tups (e : Tups H H') : ∀ {v : V} {p : Pt}, PtAt H false v p → PtAt H' false v p
  | _, _, .ch => .ch
  | _, _, .rep h g t => .rep (e _ _ h) (e _ _ g) (PtsAt.tups e t)
theorem PtsAt.tups (e : Tups H H') : ∀ {vs : List V} {l : List Pt}, PtsAt H false vs l → PtsAt H' false vs l
  | _, _, .nil => .nil
  | _, _, .cons h r => .cons (PtAt.tups e h) (PtsAt.tups e r)
end
end
theorem tups_same {H H' : Hp} (s : Same H H') : Tups H H' := fun c xs h => s _ _ h
theorem tups_put {H : Hp} {D : Addr} {xs ys : List V} (h : H D = some (.lst xs)) : Tups H (upd H D (.lst ys)) := fun c zs e => by
  have : c ≠ D := fun z => by rw [z, h] at e; exact nomatch e
  rw [upd_ne this]
  exact e
theorem isStr_refl {H : Hp} {x : Str} : inst "str" (kind H (.str x)) = true := by
  rw [isStr_kind]
  rfl
theorem isStr_ref {H : Hp} {a : Addr} : inst "str" (kind H (.ref a)) = false := by
  rw [isStr_kind]
  rfl
def spTurn (m : Nat) : Sp := fun vs H Q _ => ∃ (v : V) (l : List Pt), vs = [v] ∧ LiAt H true v l ∧ Good 5000 m l ∧ ∀ v' H', Same H H' → LiAt H' false v' l → Q v' H'
section
variable {P : Program} {w : World} {K : PySem.W.Frag} {mg : Str → Option Value} {base : Heap} {C_I f_I C_P f_P C_M f_M : Addr}
abbrev s_law_size : Stmt := top 30
theorem sc_law_size : FnScope ["_law_pattern", "_law_many", "_law_item"] ["_law_pattern", "_law_many"] (defScope s_law_size) := ⟨rfl, rfl, rfl, by decide +kernel, rfl, by decide +kernel, by decide +kernel⟩
theorem ok_lsize {f f1 : Addr} {fd fd1 : FuncData} {m : Nat} {sp0 : Sp} (F : Fun K "_law_size" "_law_size" s_law_size f fd) (T : Txt K mg base C_I f_I C_P f_P C_M f_M)
    (D__law_size : Df P w K mg base CX0 (1 + m) "_law_size" f1 fd1 ["_law_pattern", "_law_many"] sp0) (h0 : ∀ k, m = k + 1 → sp0 = spLen k) : FnG P w K mg base CX0 (1 + m + 1) f fd ["_law_pattern", "_law_many"] (spLen m) := by
  refine okG F sc_law_size (fun vs H Q E h => ?_) (fun cdv A outer s H vs Q E hc hr h => ?_)
  · obtain ⟨b, v, l, n, rfl, _⟩ := h
    rfl
  obtain ⟨b, v, l, n, rfl, ⟨q0, vs0, rfl, hq, hts⟩, g, n1, n2, q⟩ := h
  refine ⟨_, (pss_one (ps_ret (pe_callB (cr_sum rfl) (by rfl) T.z_sum (by decide +kernel) (pa_cons (pe_lc (own := [("_law_item", 2)]) (g := gName 2) rfl sc_law_size.nd (pi_sq (pv 0)) (blkOk_by (N := ["_law_pattern", "_law_many", "_law_item"]) (sc := defScope s_law_size) (by decide +kernel)) (fun _ _ _ _ _ => pg_name (i := 2) sc_law_size.nd rfl (Or.inl rfl)) (fun _ _ _ _ _ => pts_nil) (fun _ _ _ _ _ => (pe_ifExp (pt_val (pe_callB call_isk (by rfl) T.z_isinstance (by decide +kernel) (pa_cons (pv 2) (pa_cons (pe_bltn (v := .ty "str") (by rfl) T.z_str (by decide +kernel) rfl) pa_nil)))) pe_int (pe_op op_mul (pv 1) (pe_d D__law_size hc (hr.mono (by omega)) (by rfl) (fun _ => passN) (pa_cons (pe_ix (ix_tupK (K := K) rfl) (pv 2) pe_int (fun _ _ => rfl)) (pa_cons (pv 1) pa_nil))))))) pa_nil)))), ?_⟩
  have ln := hts.length
  have z16 := sizeLine_eq
  have gl := g.len
  refine ⟨_, rfl, b, q0, vs0, rfl, so_sq hq, fun D hD => ?_⟩
  refine lc_it walk_sq (fun i H' => Vls H D (((l.take i).map (plen n)).map V.int) H') (Vls.nil hD) (fun i H' _ L => so_sq (L.same _ _ hq)) ?_ ?_
  · rintro i x H2 _ hi L ⟨rfl, hx⟩
    obtain ⟨p, hp, hpt⟩ := hts.at hx
    have s2 := L.same
    have et : ((l.take (i + 1)).map (plen n)).map V.int = ((l.take i).map (plen n)).map V.int ++ [V.int (plen n p)] := by
      rw [take_succ hp, List.map_append, List.map_append]
      rfl
    have lt : (((l.take i).map (plen n)).map V.int).length < sizeLine := by
      rw [List.length_map, List.length_map, List.length_take]
      omega
    rw [et]
    cases hpt with
    | @ch c =>
      refine ⟨rfl, yes_go ⟨_, rfl, .str ⟨#[c]⟩, _, rfl, .inr (.inl rfl), (fun z => nomatch z), _, rfl, ?_⟩⟩
      rw [isStr_refl]
      exact iteT (L.add lt)
    | @rep a q1 vs1 k h1 h2 h3 =>
      obtain ⟨gk, hm⟩ := g.part hp
      obtain ⟨m', rfl⟩ : ∃ m', m = m' + 1 := ⟨m - 1, by omega⟩
      have es := h0 m' rfl
      subst es
      have ha := s2 _ _ h1
      refine ⟨rfl, yes_go ⟨_, rfl, .ref a, _, rfl, .inr (.inl rfl), kind_tup ha, _, rfl, ?_⟩⟩
      rw [isStr_ref]
      refine iteF ⟨_, rfl, _, rfl, a, _, _, _, rfl, rfl, SqT.of ha, atI_nat (j := 1) rfl, _, rfl, ?_⟩
      exact ⟨b, .ref q1, k, n, rfl, ⟨q1, vs1, rfl, s2 _ _ h2, h3.same s2⟩, gk, n1, n2, fun H4 s4 => ⟨_, _, rfl, rfl, .inl ⟨by omega, by omega⟩, (L.ext s4).add lt⟩⟩
  · intro H2 L
    rw [ln, List.take_length] at L
    refine ⟨D, l.map (plen n), rfl, SqL.of L.at_, ?_⟩
    rw [plen_sum]
    exact q _ L.same
theorem all_lsize {f : Addr} {fd : FuncData} (F : Fun K "_law_size" "_law_size" s_law_size f fd) (T : Txt K mg base C_I f_I C_P f_P C_M f_M)
    (m0 : mg "_law_size" = some (.ref f)) (k0 : PySem.W.keepIn K (.ref f) = true) (b0 : Binds K fd ["_law_pattern", "_law_many"] []) : ∀ m, FnG P w K mg base CX0 (1 + m + 1) f fd ["_law_pattern", "_law_many"] (spLen m)
  | 0 => ok_lsize (m := 0) F T ⟨no_fn (sp := fun _ _ _ _ => False) (fun _ _ _ _ z => z), m0, k0, b0⟩ (fun k z => absurd z (by omega))
  | m + 1 => ok_lsize (m := m + 1) F T ⟨all_lsize F T m0 k0 b0 m, m0, k0, b0⟩ (fun k z => by
    obtain rfl : m = k := by omega
    rfl)
abbrev s_law_text : Stmt := top 31
theorem sc_law_text : FnScope ["_law_pattern", "_law_many", "_law_item"] ["_law_pattern", "_law_many"] (defScope s_law_text) := ⟨rfl, rfl, rfl, by decide +kernel, rfl, by decide +kernel, by decide +kernel⟩
theorem ok_ltext {f f1 : Addr} {fd fd1 : FuncData} {m : Nat} {sp0 : Sp} (F : Fun K "_law_text" "_law_text" s_law_text f fd) (T : Txt K mg base C_I f_I C_P f_P C_M f_M)
    (D__law_text : Df P w K mg base CX0 (1 + m) "_law_text" f1 fd1 ["_law_pattern", "_law_many"] sp0) (h0 : ∀ k, m = k + 1 → sp0 = spTxt k) : FnG P w K mg base CX0 (1 + m + 1) f fd ["_law_pattern", "_law_many"] (spTxt m) := by
  refine okG F sc_law_text (fun vs H Q E h => ?_) (fun cdv A outer s H vs Q E hc hr h => ?_)
  · obtain ⟨b, v, l, n, rfl, _⟩ := h
    rfl
  obtain ⟨b, v, l, n, rfl, ⟨q0, vs0, rfl, hq, hts⟩, g, n1, n2, hl, q⟩ := h
  refine ⟨_, (pss_one (ps_ret (pe_join pe_str (pe_lc (own := [("_law_item", 2)]) (g := gName 2) rfl sc_law_text.nd (pi_sq (pv 0)) (blkOk_by (N := ["_law_pattern", "_law_many", "_law_item"]) (sc := defScope s_law_text) (by decide +kernel)) (fun _ _ _ _ _ => pg_name (i := 2) sc_law_text.nd rfl (Or.inl rfl)) (fun _ _ _ _ _ => pts_nil) (fun _ _ _ _ _ => (pe_ifExp (pt_val (pe_callB call_isk (by rfl) T.z_isinstance (by decide +kernel) (pa_cons (pv 2) (pa_cons (pe_bltn (v := .ty "str") (by rfl) T.z_str (by decide +kernel) rfl) pa_nil)))) (pv 2) (pe_op op_repA (pe_d D__law_text hc (hr.mono (by omega)) (by rfl) (fun _ => passN) (pa_cons (pe_ix (ix_tupK (K := K) rfl) (pv 2) pe_int (fun _ _ => rfl)) (pa_cons (pv 1) pa_nil))) (pv 1)))))))), ?_⟩
  have ln := hts.length
  have z16 := sizeLine_eq
  have gl := g.len
  refine ⟨⟨_, rfl⟩, _, rfl, b, q0, vs0, rfl, so_sq hq, fun D hD => ?_⟩
  refine lc_it walk_sq (fun i H' => Vls H D ((ptl n (l.take i)).map V.str) H') (Vls.nil hD) (fun i H' _ L => so_sq (L.same _ _ hq)) ?_ ?_
  · rintro i x H2 _ hi L ⟨rfl, hx⟩
    obtain ⟨p, hp, hpt⟩ := hts.at hx
    have s2 := L.same
    have et : (ptl n (l.take (i + 1))).map V.str = (ptl n (l.take i)).map V.str ++ [V.str (ptx n p)] := by
      rw [take_succ hp, ptl_app, List.map_append]
      rfl
    have lt : ((ptl n (l.take i)).map V.str).length < sizeLine := by
      rw [List.length_map, ptl_len, List.length_take]
      omega
    rw [et]
    cases hpt with
    | @ch c =>
      refine ⟨rfl, yes_go ⟨_, rfl, .str ⟨#[c]⟩, _, rfl, .inr (.inl rfl), (fun z => nomatch z), _, rfl, ?_⟩⟩
      rw [isStr_refl]
      exact iteT ⟨_, rfl, L.add (y := V.str (ptx n (.ch c))) lt⟩
    | @rep a q1 vs1 k h1 h2 h3 =>
      obtain ⟨gk, hm⟩ := g.part hp
      obtain ⟨m', rfl⟩ : ∃ m', m = m' + 1 := ⟨m - 1, by omega⟩
      have es := h0 m' rfl
      subst es
      have ha := s2 _ _ h1
      have le1 := plen_at n1 hp
      have le2 := plens_le_rep n1 k
      have le3 := ptxs_len n1 k
      have le4 := ptx_len n1 (.rep k)
      have le5 := repS_len (ptxs n k) n
      have e5 : ptx n (.rep k) = repS (ptxs n k) n := rfl
      rw [e5] at le4
      refine ⟨rfl, yes_go ⟨_, rfl, .ref a, _, rfl, .inr (.inl rfl), kind_tup ha, _, rfl, ?_⟩⟩
      rw [isStr_ref]
      refine iteF ⟨_, rfl, a, _, _, _, rfl, rfl, SqT.of ha, atI_nat (j := 1) rfl, _, rfl, ?_⟩
      refine ⟨b, .ref q1, k, n, rfl, ⟨q1, vs1, rfl, s2 _ _ h2, h3.same s2⟩, gk, n1, n2, by omega, fun H4 s4 => ⟨_, rfl, _, _, rfl, rfl, n1, by omega, ?_, (L.ext s4).add (y := V.str (ptx n (.rep k))) lt⟩⟩
      rw [Nat.mul_comm, ← le5]
      omega
  · intro H2 L
    rw [ln, List.take_length] at L
    refine ⟨_, D, ptl n l, rfl, rfl, .inl (SqL.of L.at_), ?_, q _ L.same⟩
    have := ptl_sum n1 l
    have h2 : ((("" : String) : Str)).length = 0 := by decide +kernel
    rw [h2]
    omega
theorem all_ltext {f : Addr} {fd : FuncData} (F : Fun K "_law_text" "_law_text" s_law_text f fd) (T : Txt K mg base C_I f_I C_P f_P C_M f_M)
    (m0 : mg "_law_text" = some (.ref f)) (k0 : PySem.W.keepIn K (.ref f) = true) (b0 : Binds K fd ["_law_pattern", "_law_many"] []) : ∀ m, FnG P w K mg base CX0 (1 + m + 1) f fd ["_law_pattern", "_law_many"] (spTxt m)
  | 0 => ok_ltext (m := 0) F T ⟨no_fn (sp := fun _ _ _ _ => False) (fun _ _ _ _ z => z), m0, k0, b0⟩ (fun k z => absurd z (by omega))
  | m + 1 => ok_ltext (m := m + 1) F T ⟨all_ltext F T m0 k0 b0 m, m0, k0, b0⟩ (fun k z => by
    obtain rfl : m = k := by omega
    rfl)
abbrev s_law_turned : Stmt := top 32
theorem sc_law_turned : FnScope ["_law_pattern", "_law_item"] ["_law_pattern"] (defScope s_law_turned) := ⟨rfl, rfl, rfl, by decide +kernel, rfl, by decide +kernel, by decide +kernel⟩
theorem ok_turned {f f1 : Addr} {fd fd1 : FuncData} {m : Nat} {sp0 : Sp} (F : Fun K "_law_turned" "_law_turned" s_law_turned f fd) (T : Txt K mg base C_I f_I C_P f_P C_M f_M)
    (D__law_turned : Df P w K mg base CX0 (1 + m) "_law_turned" f1 fd1 ["_law_pattern"] sp0) (h0 : ∀ k, m = k + 1 → sp0 = spTurn k) : FnG P w K mg base CX0 (1 + m + 1) f fd ["_law_pattern"] (spTurn m) := by
  refine okG F sc_law_turned (fun vs H Q E h => ?_) (fun cdv A outer s H vs Q E hc hr h => ?_)
  · obtain ⟨v, l, rfl, _⟩ := h
    rfl
  obtain ⟨v, l, rfl, ⟨q0, vs0, rfl, hq, hts⟩, g, q⟩ := h
  have hq : H q0 = some (.lst vs0) := hq
  refine ⟨_, (pss_one (ps_ret (pe_callTy call_tuple_of (by rfl) T.z_tuple (by decide +kernel) (pa_cons (pe_lc (own := [("_law_item", 1)]) (g := gName 1) rfl sc_law_turned.nd (pi_list (pv 0)) (blkOk_by (N := ["_law_pattern", "_law_item"]) (sc := defScope s_law_turned) (by decide +kernel)) (fun _ _ _ _ _ => pg_name (i := 1) sc_law_turned.nd rfl (Or.inl rfl)) (fun _ _ _ _ _ => pts_nil) (fun _ _ _ _ _ => (pe_ifExp (pt_val (pe_callB call_isk (by rfl) T.z_isinstance (by decide +kernel) (pa_cons (pv 1) (pa_cons (pe_bltn (v := .ty "str") (by rfl) T.z_str (by decide +kernel) rfl) pa_nil)))) (pv 1) (pe_tup (pa_cons pe_str (pa_cons (pe_d D__law_turned hc (hr.mono (by omega)) (by rfl) (fun _ => passN) (pa_cons (pe_ix (ix_tupK (K := K) rfl) (pv 1) pe_int (fun _ _ => rfl)) pa_nil)) pa_nil)))))) pa_nil)))), ?_⟩
  have ln := hts.length
  have z16 := sizeLine_eq
  have gl := g.len
  refine ⟨_, rfl, q0, rfl, ⟨_, SqL.of hq⟩, fun D hD => ?_⟩
  refine lc_it walk_list (fun i H' => ∃ us, Vls H D us H' ∧ PtsAt H' false us (l.take i)) ⟨[], Vls.nil hD, .nil⟩ (fun i H' _ ⟨_, L, _⟩ => SqL.of (L.same _ _ hq)) ?_ ?_
  · rintro i x H2 _ hi ⟨us, L, pt⟩ ⟨rfl, hx⟩
    obtain ⟨p, hp, hpt⟩ := hts.at hx
    have s2 := L.same
    have lu := pt.length
    have lt : us.length < sizeLine := by
      rw [lu, List.length_take]
      omega
    rw [take_succ hp]
    cases hpt with
    | @ch c =>
      refine ⟨rfl, yes_go ⟨_, rfl, .str ⟨#[c]⟩, _, rfl, .inr (.inl rfl), (fun z => nomatch z), _, rfl, ?_⟩⟩
      rw [isStr_refl]
      obtain ⟨acc, a1, a2, a3⟩ := L.add (y := V.str ⟨#[c]⟩) lt
      exact iteT ⟨_, rfl, acc, a1, a2, _, a3, (pt.tups (tups_put a1)).snoc .ch⟩
    | @rep a q1 vs1 k h1 h2 h3 =>
      obtain ⟨gk, hm⟩ := g.part hp
      obtain ⟨m', rfl⟩ : ∃ m', m = m' + 1 := ⟨m - 1, by omega⟩
      have es := h0 m' rfl
      subst es
      have ha := s2 _ _ h1
      refine ⟨rfl, yes_go ⟨_, rfl, .ref a, _, rfl, .inr (.inl rfl), kind_tup ha, _, rfl, ?_⟩⟩
      rw [isStr_ref]
      refine iteF ⟨_, rfl, a, _, _, _, rfl, rfl, SqT.of ha, atI_nat (j := 1) rfl, ?_⟩
      refine ⟨.ref q1, k, rfl, ⟨q1, vs1, rfl, s2 _ _ h2, h3.same s2⟩, gk, fun v' H4 s4 L4 => ⟨by show 2 ≤ sizeLine; omega, fun t ht => ?_⟩⟩
      have s5 : Same H4 (upd H4 t (.tup [.str sRep, v'])) := upd_new ht
      obtain ⟨acc, a1, a2, a3⟩ := (L.ext (s4.trans s5)).add (y := V.ref t) lt
      obtain ⟨q2, vs2, rfl, b1, b2⟩ := L4.same s5
      have tp := tups_put (ys := acc ++ [.ref t]) a1
      exact ⟨acc, a1, a2, _, a3, (pt.tups (fun c xs e => tp _ _ ((s4.trans s5) _ _ e))).snoc (.rep (tp _ _ upd_same) (tp _ _ b1) (b2.tups tp))⟩
  · rintro H2 ⟨us, L, pt⟩
    rw [ln, List.take_length] at pt
    refine ⟨D, us, rfl, .inl ⟨SqL.of L.at_, fun t ht => q _ _ (L.same.trans (upd_new ht)) ⟨t, us, rfl, upd_same, pt.same (upd_new ht)⟩⟩⟩
theorem all_turned {f : Addr} {fd : FuncData} (F : Fun K "_law_turned" "_law_turned" s_law_turned f fd) (T : Txt K mg base C_I f_I C_P f_P C_M f_M)
    (m0 : mg "_law_turned" = some (.ref f)) (k0 : PySem.W.keepIn K (.ref f) = true) (b0 : Binds K fd ["_law_pattern"] []) : ∀ m, FnG P w K mg base CX0 (1 + m + 1) f fd ["_law_pattern"] (spTurn m)
  | 0 => ok_turned (m := 0) F T ⟨no_fn (sp := fun _ _ _ _ => False) (fun _ _ _ _ z => z), m0, k0, b0⟩ (fun k z => absurd z (by omega))
  | m + 1 => ok_turned (m := m + 1) F T ⟨all_turned F T m0 k0 b0 m, m0, k0, b0⟩ (fun k z => by
    obtain rfl : m = k := by omega
    rfl)
end
end KP

namespace KP
open PySem L2 Gd Zn KM
/-- nodes of a drawn pattern -/
def Nn : Nat → Nat
  | 0 => 3
  | m + 1 => 3 * (1 + Nn m)
def Bn : Nat → Nat
  | 0 => 1
  | m + 1 => 1 + Nn m
theorem nn_eq (m : Nat) : Nn m = 3 * Bn m := by cases m <;> rfl
theorem bn_pos : ∀ m : Nat, 1 ≤ Bn m
  | 0 => Nat.le_refl _
  | m + 1 => by show 1 ≤ 1 + Nn m; omega
/-- new data: its part G of the heap holds nothing that stood in H0 -/
structure Fr (H0 G H : Hp) : Prop where
  s : Same G H
  n : ∀ c, G c ≠ none → H0 c = none
def spDrawn (m : Nat) : Sp := fun vs H Q _ => ∃ (p : Addr) (d : Int), vs = [.ref p, .int d] ∧ BoxAt H p ∧ 0 ≤ d ∧ d ≤ m ∧
  ∀ v H' G l, Kept H H' p → Fr H G H' → LiAt G true v l → Good (Nn m) m l → Q v H'
/-- two parts -/
def uni (G1 G2 : Hp) : Hp := fun c => match G1 c with
  | some o => some o
  | none => G2 c
theorem uni_l {G1 G2 : Hp} : Same G1 (uni G1 G2) := fun c o e => by
  show (match G1 c with | some o => some o | none => G2 c) = some o
  rw [e]
theorem uni_r {G1 G2 : Hp} (h : ∀ c, G2 c ≠ none → G1 c = none) : Same G2 (uni G1 G2) := fun c o e => by
  show (match G1 c with | some o => some o | none => G2 c) = some o
  rw [h c (by rw [e]; exact fun z => nomatch z)]
  exact e
theorem uni_to {G1 G2 H : Hp} (a : Same G1 H) (b : Same G2 H) : Same (uni G1 G2) H := fun c o e => by
  have e : (match G1 c with | some o => some o | none => G2 c) = some o := e
  cases g : G1 c with
  | some u =>
    rw [g] at e
    injection e with e
    subst e
    exact a _ _ g
  | none =>
    rw [g] at e
    exact b _ _ e
theorem uni_not {G1 G2 : Hp} {c : Addr} (h : uni G1 G2 c ≠ none) : G1 c ≠ none ∨ G2 c ≠ none := by
  cases g : G1 c with
  | some u => exact .inl (fun z => nomatch z)
  | none =>
    refine .inr ?_
    have e : uni G1 G2 c = G2 c := by
      show (match G1 c with | some o => some o | none => G2 c) = G2 c
      rw [g]
    rw [e] at h
    exact h
def told (l : List Pt) (n way : Int) : Str × V := if way = 0 then ("returned", .int (plens n l)) else if 4000 < plens n l then ("many", .int (plens n l)) else ("returned", .str (ptxs n l))
/-- a new list of a word and a value -/
abbrev Tells (H : Hp) (Q : VK) (x : Str) (v : V) : Prop := ∀ p H', Same H H' → H p = none → H' p = some (.lst [.str x, v]) → Q (.ref p) H'
def spCaught : Sp := fun vs H Q _ => ∃ (v m : V) (way : Int), vs = [v, m, .int way] ∧ Pv H m ∧
  ((∃ l, GoodAt H v l ∧ (∀ n : Int, m = .int n → 1 ≤ n → n ≤ 1000 → Tells H Q (told l n way).1 (told l n way).2) ∧ (inR 1 1000 m = false → Tells H Q "integer" m)) ∨ (BadAt H v ∧ Tells H Q "pattern" v))
/-- classes are unlike -/
structure Unlike (K : PySem.W.Frag) (C_I C_P C_M : Addr) : Prop where
  ip : PySem.W.exmOne K (.ref C_I) (.ref C_P) = some false
  mp : PySem.W.exmOne K (.ref C_M) (.ref C_P) = some false
  mi : PySem.W.exmOne K (.ref C_M) (.ref C_I) = some false
theorem same_xd {H H' : Hp} {d : Addr} {o : HO} (s : Same H H') (hd : H' d = none) : Same H (upd H' d o) := fun c u h => by
  rw [upd_ne (ne_of_none (s _ _ h) hd)]
  exact s _ _ h
theorem free_xd {H H' : Hp} {d p : Addr} {o : HO} (s : Same H H') (h : upd H' d o p = none) : H p = none := by
  refine s.free ?_
  by_cases e : p = d
  · rw [e, upd_same] at h
    exact nomatch h
  · rw [upd_ne e] at h
    exact h
section
variable {P : Program} {w : World} {K : PySem.W.Frag} {mg : Str → Option Value} {base : Heap} {C_I f_I C_P f_P C_M f_M : Addr}
abbrev s_law_drawn : Stmt := top 29
theorem sc_law_drawn : FnScope ["_law_box_here", "_law_deep", "_law_found", "_law_turn"] ["_law_box_here", "_law_deep"] (defScope s_law_drawn) := ⟨rfl, rfl, rfl, by decide +kernel, rfl, by decide +kernel, by decide +kernel⟩
theorem ok_drawn {f f1 f2 : Addr} {fd fd1 fd2 : FuncData} {m : Nat} {sp0 : Sp} (F : Fun K "_law_drawn" "_law_drawn" s_law_drawn f fd) (T : Txt K mg base C_I f_I C_P f_P C_M f_M)
    (D__law_take : Df P w K mg base CX0 1 "_law_take" f1 fd1 ["_law_box_here", "_law_size_here"] spTake) (D__law_drawn : Df P w K mg base CX0 (1 + m) "_law_drawn" f2 fd2 ["_law_box_here", "_law_deep"] sp0) (h0 : ∀ k, m = k + 1 → sp0 = spDrawn k) : FnG P w K mg base CX0 (1 + m + 1) f fd ["_law_box_here", "_law_deep"] (spDrawn m) := by
  refine okG F sc_law_drawn (fun vs H Q E h => ?_) (fun cdv A outer s H vs Q E hc hr h => ?_)
  · obtain ⟨p, d, rfl, _⟩ := h
    rfl
  obtain ⟨p, d, rfl, hb, d0, d1, q⟩ := h
  refine ⟨_, (pss_cons (ps_set (i := 2) sc_law_drawn.nd rfl (Or.inl rfl) (pe_lst pa_nil))
 (pss_cons (ps_for (passes_of rfl) rfl (pi_range1 rfl T.z_range (pa_cons (pe_op op_add pe_int (pe_d D__law_take hc (hr.mono (by omega)) (by rfl) (fun _ => passN) (pa_cons (pv 0) (pa_cons pe_int pa_nil)))) pa_nil)) (pg_name (i := 3) sc_law_drawn.nd rfl (Or.inl rfl))
  (pss_one (ps_if (PW.pt (pw_and (pt_cmpR op_gt (pv 1) pe_int (nomark _)) (pw_and1 (pt_cmpR op_eq (pe_d D__law_take hc (hr.mono (by omega)) (by rfl) (fun _ => passN) (pa_cons (pv 0) (pa_cons pe_int pa_nil))) pe_int (nomark _)))))
  (pss_one (ps_expr (pe_bm PySem.F.plainAttrs_list PySem.F.slot_list_append PySem.F.type_list_append mt_append (pv 2) (pa_cons (pe_tup (pa_cons pe_str (pa_cons (pe_d D__law_drawn hc (hr.mono (by omega)) (by rfl) (fun _ => passN) (pa_cons (pv 0) (pa_cons (pe_op op_sub (pv 1) pe_int) pa_nil))) pa_nil))) pa_nil)))) (pss_one (ps_expr (pe_bm PySem.F.plainAttrs_list PySem.F.slot_list_append PySem.F.type_list_append mt_append (pv 2) (pa_cons (pe_ix ix_str pe_str (pe_d D__law_take hc (hr.mono (by omega)) (by rfl) (fun _ => passN) (pa_cons (pv 0) (pa_cons pe_int pa_nil))) (fun _ _ => rfl)) pa_nil)))))))
 (pss_one (ps_ret (pv 2))))), ?_⟩
  have z16 := sizeLine_eq
  refine ⟨by show 0 ≤ sizeLine; omega, fun D hD => ?_⟩
  have Dp : D ≠ p := Kept.ne hb hD
  have k0 : Kept H (upd H D (.lst [])) p := (Kept.refl hb).put hb hD
  refine ⟨_, rfl, p, 3, rfl, k0.box, by decide, by decide, fun e H1 e0 e1 t1 => ?_⟩
  refine ⟨_, _, rfl, rfl, _, rfl, by omega, by omega, ?_⟩
  have k1 := k0.turn t1
  have hD1 : H1 D = some (.lst []) := by rw [t1.2 D Dp]; exact upd_same
  have bp := bn_pos m
  refine for_range (fun i σ H' => ∃ (o3 : Option V) (us : List V) (l : List Pt) (G : Hp), σ = [some (.ref p), some (.int d), some (.ref D), o3] ∧ l.length = i ∧ H' D = some (.lst us) ∧ PtsAt G true us l ∧ Fr H G H' ∧ G D = none ∧ Kept H H' p ∧ Wfs l ∧ deps l ≤ m ∧ nods l ≤ i * Bn m)
    ⟨none, [], [], fun _ => none, rfl, rfl, hD1, .nil, ⟨(fun _ _ z => nomatch z), (fun _ z => absurd rfl z)⟩, rfl, k1, trivial, Nat.zero_le _, Nat.zero_le _⟩ ?_ ?_
  · rintro i _ H2 hi ⟨o3, us, l, G, rfl, ln, hD2, hts, fr, gD, k2, wf, dp, nd⟩
    have lu := hts.length
    have i3 : i < 3 := by omega
    -- one more item
    have done : ∀ (H3 G' : Hp) (v : V) (pt : Pt), H3 D = some (.lst us) → Same G G' → Fr H G' H3 → G' D = none → Kept H H3 p → PtAt G' true v pt → pt.Wf → pt.dep ≤ m → pt.nod ≤ Bn m →
        ∃ acc, H3 D = some (.lst acc) ∧ acc.length < sizeLine ∧ ∃ (o3 : Option V) (us : List V) (l : List Pt) (G : Hp), ([some (.ref p), some (.int d), some (.ref D), some (.int (0 + (i : Nat)))] : St) = [some (.ref p), some (.int d), some (.ref D), o3] ∧ l.length = i + 1 ∧ (upd H3 D (.lst (acc ++ [v]))) D = some (.lst us) ∧ PtsAt G true us l ∧ Fr H G (upd H3 D (.lst (acc ++ [v]))) ∧ G D = none ∧ Kept H (upd H3 D (.lst (acc ++ [v]))) p ∧ Wfs l ∧ deps l ≤ m ∧ nods l ≤ (i + 1) * Bn m := by
      intro H3 G' v pt a1 a2 a3 a4 a5 a6 a7 a8 a9
      refine ⟨us, a1, by omega, _, us ++ [v], l ++ [pt], G', rfl, by rw [List.length_append, ln]; rfl, upd_same, (hts.same a2).snoc a6, ⟨fun c o e => ?_, a3.n⟩, a4, a5.put hb hD, wfs_app wf ⟨a7, trivial⟩, ?_, ?_⟩
      · rw [upd_ne (fun z => by rw [z, a4] at e; exact nomatch e)]
        exact a3.s _ _ e
      · rw [deps_app]
        show max (deps l) (max pt.dep 0) ≤ m
        omega
      · rw [nods_app, Nat.succ_mul]
        show nods l + (pt.nod + 0) ≤ _
        omega
    have letter : ∀ (H3 : Hp), Turned H2 H3 p ∨ H3 = H2 → (tDrop (tBM K "list" rAppend (tVar 2) (tCons (tOp rIxS (tC (.str "abcz")) (tCallG spTake [] (fun _ => E0) (tCons (tVar 0) (tCons (tC (.int 4)) tNil)))) tNil)))
        { nx := fun σ H' => ∃ (o3 : Option V) (us : List V) (l : List Pt) (G : Hp), σ = [some (.ref p), some (.int d), some (.ref D), o3] ∧ l.length = i + 1 ∧ H' D = some (.lst us) ∧ PtsAt G true us l ∧ Fr H G H' ∧ G D = none ∧ Kept H H' p ∧ Wfs l ∧ deps l ≤ m ∧ nods l ≤ (i + 1) * Bn m,
          rt := Q, bk := fun σ H' => (tRet (tVar 2)) { nx := fun _ H' => Q .non H', rt := Q } σ H',
          ct := fun σ H' => ∃ (o3 : Option V) (us : List V) (l : List Pt) (G : Hp), σ = [some (.ref p), some (.int d), some (.ref D), o3] ∧ l.length = i + 1 ∧ H' D = some (.lst us) ∧ PtsAt G true us l ∧ Fr H G H' ∧ G D = none ∧ Kept H H' p ∧ Wfs l ∧ deps l ≤ m ∧ nods l ≤ (i + 1) * Bn m }
        [some (.ref p), some (.int d), some (.ref D), some (.int (0 + (i : Nat)))] H3 := by
      intro H3 h3
      have k3 : Kept H H3 p := by
        rcases h3 with t | rfl
        · exact k2.turn t
        · exact k2
      have same3 : ∀ c, c ≠ p → H3 c = H2 c := fun c hc => by
        rcases h3 with t | rfl
        · exact t.2 c hc
        · rfl
      have tz : Tx 4 (("abcz" : String) : Str) := .of (by decide +kernel)
      have lz : ((("abcz" : String) : Str)).length = 4 := by decide +kernel
      refine ⟨_, rfl, .inl ⟨rfl, _, SqL.of ((same3 D Dp).trans hD2)⟩, _, rfl, p, 4, rfl, k3.box, by decide, by decide, fun x H4 x0 x1 t4 => ?_⟩
      obtain ⟨c, hc1, _, hm⟩ := atI_sign tz x0 (by rw [lz]; exact x1)
      have lc : low c = true := by
        have e : (("abcz" : String) : Str).cps.toList = [97, 98, 99, 122] := by decide +kernel
        rw [e] at hm
        simp only [List.mem_cons, List.not_mem_nil, or_false] at hm
        rcases hm with rfl | rfl | rfl | rfl <;> decide
      have h4 : H4 D = some (.lst us) := by rw [t4.2 D Dp, same3 D Dp]; exact hD2
      have pG : G p = none := by
        cases e : G p with
        | none => rfl
        | some u =>
          obtain ⟨o, ho⟩ := hb.some
          rw [fr.n p (by rw [e]; exact fun z => nomatch z)] at ho
          exact nomatch ho
      have f4 : Fr H G H4 := ⟨fun a o e => by
        have hap : a ≠ p := fun z => by rw [z, pG] at e; exact nomatch e
        rw [t4.2 a hap, same3 a hap]
        exact fr.s _ _ e, fr.n⟩
      obtain ⟨acc, a1, a2, a3⟩ := done H4 G (.str ⟨#[c]⟩) (.ch c) h4 (Same.refl G) f4 gD (k3.turn t4) .ch lc (Nat.zero_le _) bp
      exact ⟨_, _, c, rfl, rfl, by rw [lz]; omega, hc1, D, acc, _, rfl, rfl, a1, a2, a3⟩
    refine ⟨_, rfl, _, _, rfl, rfl, _, rfl, ?_⟩
    refine iteB (fun c => ?_) (fun c => ?_)
    · have dpos : (0 : Int) < d := of_decide_eq_true c
      refine ⟨_, rfl, p, 2, rfl, k2.box, by decide, by decide, fun y H3 y0 y1 t3 => ⟨rfl, _, rfl, ?_⟩⟩
      refine iteB (fun _ => ?_) (fun _ => letter H3 (.inl t3))
      obtain ⟨m', rfl⟩ : ∃ m', m = m' + 1 := ⟨m - 1, by omega⟩
      have es := h0 m' rfl
      subst es
      have k3 := k2.turn t3
      have h3 : H3 D = some (.lst us) := by rw [t3.2 D Dp]; exact hD2
      refine ⟨_, rfl, .inl ⟨rfl, _, SqL.of h3⟩, _, rfl, _, rfl, _, _, rfl, rfl, ?_⟩
      refine ⟨p, d - 1, rfl, k3.box, by omega, by omega, fun v H4 G4 l4 k4 f4 L4 g4 => ⟨by show 2 ≤ sizeLine; omega, fun t ht => ?_⟩⟩
      have pG : G p = none := by
        cases e : G p with
        | none => rfl
        | some u =>
          obtain ⟨o, ho⟩ := hb.some
          rw [fr.n p (by rw [e]; exact fun z => nomatch z)] at ho
          exact nomatch ho
      have sG3 : Same G H3 := fun a o e => by
        have hap : a ≠ p := fun z => by rw [z, pG] at e; exact nomatch e
        rw [t3.2 a hap]
        exact fr.s _ _ e
      have sG4 : Same G H4 := fun a o e => by
        have hap : a ≠ p := fun z => by rw [z, pG] at e; exact nomatch e
        exact k4.2 _ _ hap (sG3 _ _ e)
      have dis : ∀ c, G4 c ≠ none → G c = none := fun c hc => by
        have := f4.n c hc
        cases e : G c with
        | none => rfl
        | some o => rw [sG3 _ _ e] at this; exact nomatch this
      have k04 : Kept H H4 p := k3.trans k4
      have old : ∀ c, H3 c = none → H c = none := fun c hc => k3.free hb hc
      have fU : Fr H (uni G G4) H4 := ⟨uni_to sG4 f4.s, fun c hc => by
        rcases uni_not hc with h | h
        · exact fr.n c h
        · exact old c (f4.n c h)⟩
      have U_D : uni G G4 D = none := by
        cases e : uni G G4 D with
        | none => rfl
        | some o =>
          exfalso
          rcases uni_not (c := D) (by rw [e]; exact fun z => nomatch z) with h | h
          · exact h gD
          · have := f4.n D h
            rw [h3] at this
            exact nomatch this
      have U_t : uni G G4 t = none := by
        cases e : uni G G4 t with
        | none => rfl
        | some o => rw [fU.s _ _ e] at ht; exact nomatch ht
      have tD : t ≠ D := fun z => by
        have : H4 D = some (.lst us) := k4.2 _ _ Dp h3
        rw [z, this] at ht
        exact nomatch ht
      have h5 : (upd H4 t (.tup [.str sRep, v])) D = some (.lst us) := by rw [upd_ne tD.symm]; exact k4.2 _ _ Dp h3
      have sU : Same (uni G G4) (upd (uni G G4) t (.tup [.str sRep, v])) := upd_new U_t
      obtain ⟨q1, vs1, rfl, b1, b2⟩ := L4.same (uni_r dis)
      have f5 : Fr H (upd (uni G G4) t (.tup [.str sRep, .ref q1])) (upd H4 t (.tup [.str sRep, .ref q1])) := ⟨fun a o e => by
        by_cases z : a = t
        · rw [z, upd_same] at e ⊢
          exact e
        · rw [upd_ne z] at e ⊢
          exact fU.s _ _ e, fun a ha => by
        by_cases z : a = t
        · rw [z]
          exact k04.free hb ht
        · rw [upd_ne z] at ha
          exact fU.n a ha⟩
      obtain ⟨acc, a1, a2, a3⟩ := done _ _ (.ref t) (.rep l4) h5 (uni_l.trans sU) f5 (by rw [upd_ne tD.symm]; exact U_D) (k04.new ht) (.rep upd_same (sU _ _ b1) (b2.same sU)) ⟨g4.ne, g4.wf⟩ (by show deps l4 + 1 ≤ m' + 1; have := g4.dp; omega) (by show nods l4 + 1 ≤ 1 + Nn m'; have := g4.nd; omega)
      exact ⟨D, acc, _, rfl, rfl, a1, a2, a3⟩
    · exact iteF (letter H2 (.inr rfl))
  · rintro _ H2 ⟨o3, us, l, G, rfl, ln, hD2, hts, fr, gD, k2, wf, dp, nd⟩
    have sD : Same G (upd G D (.lst us)) := upd_new gD
    refine ⟨_, rfl, q _ _ (upd G D (.lst us)) l k2 ⟨fun a o e => ?_, fun a ha => ?_⟩ ⟨D, us, rfl, upd_same, hts.same sD⟩ ⟨by omega, wf, dp, ?_⟩⟩
    · by_cases z : a = D
      · rw [z, upd_same] at e
        rw [z, hD2]
        exact e
      · rw [upd_ne z] at e
        exact fr.s _ _ e
    · by_cases z : a = D
      · rw [z]
        exact hD
      · rw [upd_ne z] at ha
        exact fr.n a ha
    · rw [nn_eq]
      have : (1 + e).toNat ≤ 3 := by omega
      have := Nat.mul_le_mul_right (Bn m) this
      omega
theorem all_drawn {f f1 : Addr} {fd fd1 : FuncData} (F : Fun K "_law_drawn" "_law_drawn" s_law_drawn f fd) (T : Txt K mg base C_I f_I C_P f_P C_M f_M) (D__law_take : Df P w K mg base CX0 1 "_law_take" f1 fd1 ["_law_box_here", "_law_size_here"] spTake)
    (m0 : mg "_law_drawn" = some (.ref f)) (k0 : PySem.W.keepIn K (.ref f) = true) (b0 : Binds K fd ["_law_box_here", "_law_deep"] []) : ∀ m, FnG P w K mg base CX0 (1 + m + 1) f fd ["_law_box_here", "_law_deep"] (spDrawn m)
  | 0 => ok_drawn (m := 0) F T D__law_take ⟨no_fn (sp := fun _ _ _ _ => False) (fun _ _ _ _ z => z), m0, k0, b0⟩ (fun k z => absurd z (by omega))
  | m + 1 => ok_drawn (m := m + 1) F T D__law_take ⟨all_drawn F T D__law_take m0 k0 b0 m, m0, k0, b0⟩ (fun k z => by
    obtain rfl : m = k := by omega
    rfl)
abbrev s_law_caught : Stmt := top 33
theorem sc_law_caught : FnScope ["_law_pattern", "_law_many", "_law_way", "e"] ["_law_pattern", "_law_many", "_law_way"] (defScope s_law_caught) := ⟨rfl, rfl, rfl, by decide +kernel, rfl, by decide +kernel, by decide +kernel⟩
theorem ok_caught {f f1 f2 : Addr} {fd fd1 fd2 : FuncData} (F : Fun K "_law_caught" "_law_caught" s_law_caught f fd) (T : Txt K mg base C_I f_I C_P f_P C_M f_M) (U : Unlike K C_I C_P C_M)
    (D_pattern_length : Df P w K mg base (L2.CX P w) 105 "pattern_length" f1 fd1 ["pattern", "times"] (spPL C_I C_P)) (D_pattern_text : Df P w K mg base (L2.CX P w) 106 "pattern_text" f2 fd2 ["pattern", "times"] (spPT C_I C_P C_M)) :
    FnG P w K mg base CX0 107 f fd ["_law_pattern", "_law_many", "_law_way"] spCaught := by
  refine okG F sc_law_caught (fun vs H Q E h => ?_) (fun cdv A outer s H vs Q E hc hr h => ?_)
  · obtain ⟨v, m, way, rfl, _⟩ := h
    rfl
  obtain ⟨v, m, way, rfl, hm, h⟩ := h
  refine ⟨_, (pss_one (ps_tryG rfl rfl sc_law_caught.nd (fun W pn xe tk _ => (pss_one (ps_ret (pe_lst (pa_cons pe_str (pa_cons (pe_ifExp (pt_cmpR op_eq (pv 2) pe_int (nomark _)) (pe_d D_pattern_length hc (hr.mono (by omega)) (by rfl) (fun σ => passAt tk σ) (pa_cons (pv 0) (pa_cons (pv 1) pa_nil))) (pe_d D_pattern_text hc (hr.mono (by omega)) (by rfl) (fun σ => passAt tk σ) (pa_cons (pv 0) (pa_cons (pv 1) pa_nil)))) pa_nil)))))) (HdG.as (i := 3) rfl rfl ⟨rfl, by decide, .inl T.e_InvalidPattern.gC⟩ (fun a oe cls d pn hz hf => (pss_one (ps_ret (pe_lst (pa_cons pe_str (pa_cons (pe_by_value T.e_InvalidPattern hz hf (pv 3)) pa_nil)))))) (HdG.as (i := 3) rfl rfl ⟨rfl, by decide, .inl T.e_InvalidInteger.gC⟩ (fun a oe cls d pn hz hf => (pss_one (ps_ret (pe_lst (pa_cons pe_str (pa_cons (pe_by_value T.e_InvalidInteger hz hf (pv 3)) pa_nil)))))) (HdG.as (i := 3) rfl rfl ⟨rfl, by decide, .inl T.e_TooMany.gC⟩ (fun a oe cls d pn hz hf => (pss_one (ps_ret (pe_lst (pa_cons pe_str (pa_cons (pe_by_count T.e_TooMany hz hf (pv 3)) pa_nil)))))) (HdG.stop _)))))), ?_⟩
  refine ⟨_, rfl, rfl, _, rfl, ?_⟩
  have ew : decide (V.int way = V.int 0) = decide (way = 0) := decide_eq_decide.mpr ⟨fun z => by injection z, fun z => by rw [z]⟩
  rw [ew]
  have z2 : 2 ≤ sizeLine := by decide
  refine iteB (fun c => ?_) (fun c => ?_)
  · have c := of_decide_eq_true c
    refine ⟨_, rfl, _, rfl, v, m, rfl, hm, ?_⟩
    rcases h with ⟨l, hg, q1, q2⟩ | ⟨hb, q⟩
    · refine .inl ⟨l, hg, fun n en n1 n2 H1 s1 => ?_, fun hi d H1 s1 hd => ?_⟩
      · have q1 := q1 n en n1 n2
        have et : told l n way = (("returned" : Str), V.int (plens n l)) := if_pos c
        rw [et] at q1
        exact ⟨z2, fun p hp => q1 p _ (s1.trans (upd_new hp)) (s1.free hp) upd_same⟩
      · refine ⟨false, U.ip, (fun z => nomatch z), fun _ => ⟨true, T.e_InvalidInteger.te, fun _ a ha => ?_, fun z => nomatch z⟩⟩
        exact ⟨_, rfl, rfl, rfl, d, m, rfl, upd_same, z2, fun p hp => q2 hi p _ ((same_xd s1 hd).trans (upd_new hp)) (free_xd s1 hp) upd_same⟩
    · refine .inr ⟨hb, fun d H1 s1 hd => ?_⟩
      refine ⟨true, T.e_InvalidPattern.te, fun _ a ha => ?_, fun z => nomatch z⟩
      exact ⟨_, rfl, rfl, rfl, d, v, rfl, upd_same, z2, fun p hp => q p _ ((same_xd s1 hd).trans (upd_new hp)) (free_xd s1 hp) upd_same⟩
  · have c := of_decide_eq_false c
    refine ⟨_, rfl, _, rfl, v, m, rfl, hm, ?_⟩
    rcases h with ⟨l, hg, q1, q2⟩ | ⟨hb, q⟩
    · refine .inl ⟨l, hg, fun n en n1 n2 => ⟨fun hl H1 s1 => ?_, fun hl d H1 s1 hd => ?_⟩, fun hi d H1 s1 hd => ?_⟩
      · have q1 := q1 n en n1 n2
        have et : told l n way = (("returned" : Str), V.str (ptxs n l)) := (if_neg c).trans (if_neg (by omega))
        rw [et] at q1
        exact ⟨z2, fun p hp => q1 p _ (s1.trans (upd_new hp)) (s1.free hp) upd_same⟩
      · have q1 := q1 n en n1 n2
        have et : told l n way = (("many" : Str), V.int (plens n l)) := (if_neg c).trans (if_pos hl)
        rw [et] at q1
        refine ⟨false, U.mp, (fun z => nomatch z), fun _ => ⟨false, U.mi, (fun z => nomatch z), fun _ => ⟨true, T.e_TooMany.te, fun _ a ha => ?_, fun z => nomatch z⟩⟩⟩
        exact ⟨_, rfl, rfl, rfl, d, _, rfl, upd_same, z2, fun p hp => q1 p _ ((same_xd s1 hd).trans (upd_new hp)) (free_xd s1 hp) upd_same⟩
      · refine ⟨false, U.ip, (fun z => nomatch z), fun _ => ⟨true, T.e_InvalidInteger.te, fun _ a ha => ?_, fun z => nomatch z⟩⟩
        exact ⟨_, rfl, rfl, rfl, d, m, rfl, upd_same, z2, fun p hp => q2 hi p _ ((same_xd s1 hd).trans (upd_new hp)) (free_xd s1 hp) upd_same⟩
    · refine .inr ⟨hb, fun d H1 s1 hd => ?_⟩
      refine ⟨true, T.e_InvalidPattern.te, fun _ a ha => ?_, fun z => nomatch z⟩
      exact ⟨_, rfl, rfl, rfl, d, v, rfl, upd_same, z2, fun p hp => q p _ ((same_xd s1 hd).trans (upd_new hp)) (free_xd s1 hp) upd_same⟩
end
end KP

/-! given matrices written; rows that grow -/
namespace KM
open PySem L2 Gd Zn
/-- a matrix of lists or tuples, written -/
theorem RwAt.da {K : PySem.W.Frag} {H : Hp} {bs : Bs} {xss : List (List V)} {n : Nat} (hn : n ≤ 12) (h : RwAt H bs xss) (l : ∀ xs ∈ xss, xs.length ≤ n) (c : All Itm xss) :
    ∃ ds, DaL K H (bs.map fun q => V.ref q.2) ds ∧ OkL ds ∧ widL ds ≤ 3000 * xss.length ∧ PyData.depthAll ds ≤ 1 := by
  induction h with
  | nil => exact ⟨[], .nil, trivial, Nat.zero_le _, Nat.zero_le _⟩
  | @cons q xs bs xss a _ ih =>
    obtain ⟨ds, g1, g2, g3, g4⟩ := ih (fun u hu => l u (List.mem_cons_of_mem _ hu)) fun u hu => c u (List.mem_cons_of_mem _ hu)
    obtain ⟨a1, b1, c1⟩ := row_ok (c xs List.mem_cons_self)
    have l1 := l xs List.mem_cons_self
    obtain ⟨b, p⟩ := q
    cases b with
    | true =>
      refine ⟨.list (xs.map dI) :: ds, .cons (.lst a (da_row (c xs List.mem_cons_self))) g1, ⟨a1, g2⟩, ?_, ?_⟩
      · show widL (xs.map dI) + 2 + 2 + widL ds ≤ _
        rw [List.length_cons]
        omega
      · show max (PyData.depthAll (xs.map dI) + 1) (PyData.depthAll ds) ≤ 1
        rw [c1]
        omega
    | false =>
      refine ⟨.tuple (xs.map dI) :: ds, .cons (.tup (SqT.of a) (da_row (c xs List.mem_cons_self))) g1, ⟨a1, g2⟩, ?_, ?_⟩
      · show widL (xs.map dI) + 3 + 2 + widL ds ≤ _
        rw [List.length_cons]
        omega
      · show max (PyData.depthAll (xs.map dI) + 1) (PyData.depthAll ds) ≤ 1
        rw [c1]
        omega
theorem MAt.da {K : PySem.W.Frag} {H : Hp} {x : V} {xss : List (List V)} {n : Nat} (hn : n ≤ 12) (sq : Sqr n xss) (c : All Itm xss) : MAt H x xss → ∃ d, Da K H x d ∧ Ok1 d ∧ wid d ≤ 40000 ∧ d.depth ≤ 2
  | ⟨b, p, bs, e, h, r⟩ => by
    subst e
    obtain ⟨ds, g1, g2, g3, g4⟩ := r.da (K := K) hn (fun xs hx => by rw [sq.2 xs hx]; exact Nat.le_refl _) c
    rw [sq.1] at g3
    cases b with
    | true => exact ⟨.list ds, .lst h g1, g2, by show widL ds + 2 ≤ _; omega, by show PyData.depthAll ds + 1 ≤ 2; omega⟩
    | false => exact ⟨.tuple ds, .tup (SqT.of h) g1, g2, by show widL ds + 3 ≤ _; omega, by show PyData.depthAll ds + 1 ≤ 2; omega⟩
/-- two such in a list -/
theorem two_mats {K : PySem.W.Frag} {G : Hp} {x y : V} {xss yss : List (List V)} {n : Nat} (hn : n ≤ 12) (h1 : MAt G x xss) (s1 : Sqr n xss) (c1 : All Itm xss) (h2 : MAt G y yss) (s2 : Sqr n yss) (c2 : All Itm yss) :
    ∃ d, (∀ H' q, Same G H' → H' q = some (.lst [x, y]) → Da K H' (.ref q) d) ∧ Ok1 d ∧ wid d ≤ sizeLine ∧ d.depth ≤ 64 := by
  obtain ⟨a, a1, a2, a3, a4⟩ := h1.da (K := K) hn s1 c1
  obtain ⟨b, b1, b2, b3, b4⟩ := h2.da (K := K) hn s2 c2
  refine ⟨.list [a, b], fun H' q s h => .lst h (.cons (a1.same s) (.cons (b1.same s) .nil)), ⟨a2, b2, trivial⟩, ?_, ?_⟩
  · have := sizeLine_eq
    show (wid a + 2 + (wid b + 2 + 0)) + 2 ≤ sizeLine
    omega
  · show max a.depth (max b.depth 0) + 1 ≤ 64
    omega
/-- what is found, a list of lists beside all that matters -/
structure Fnd (G : Hp) (p D : Addr) (ps : List Addr) (rows : List (List V)) (H : Hp) : Prop where
  P : Pool G H p
  at_ : H D = some (.lst (ps.map V.ref))
  ls : LsAt H ps rows
  nd : ps.Nodup
  far : D ≠ p ∧ G D = none ∧ D ∉ ps ∧ ∀ q ∈ ps, q ≠ p ∧ G q = none
theorem Fnd.of {G H H' : Hp} {p : Addr} {x : V} {xss : List (List V)} (P : Pool G H p) : NewM H H' x xss → ∃ D ps, x = .ref D ∧ Fnd G p D ps xss H'
  | ⟨D, e, b⟩ => by
    obtain ⟨ps, h1, h2, h3, h4⟩ := b.ex
    exact ⟨D, ps, e, P.go b.same, h1, h2, h4, P.ne b.free, P.fresh b.free, fun hm => (h3 D hm).2 rfl, fun q hq => ⟨P.ne (h3 q hq).1, P.fresh (h3 q hq).1⟩⟩
theorem Fnd.go {G H H' : Hp} {p D : Addr} {ps : List Addr} {rows : List (List V)} (f : Fnd G p D ps rows H) (s : Same H H') : Fnd G p D ps rows H' :=
  ⟨f.P.go s, s _ _ f.at_, f.ls.same s, f.nd, f.far⟩
theorem LsAt.set {H : Hp} {ps : List Addr} {rows : List (List V)} (h : LsAt H ps rows) (nd : ps.Nodup) : ∀ {i : Nat} {q : Addr} {xs : List V}, ps[i]? = some q → LsAt (upd H q (.lst xs)) ps (rows.set i xs) := by
  induction h with
  | nil => exact fun e => by simp at e
  | @cons p ys ps rows a t ih =>
    intro i q xs e
    have nd' := List.nodup_cons.mp nd
    cases i with
    | zero =>
      cases e
      exact .cons upd_same (t.on fun r hr => upd_ne fun x => nd'.1 (by rw [← x]; exact hr))
    | succ i =>
      have hq : q ∈ ps := List.mem_of_getElem? e
      exact .cons ((upd_ne fun x => nd'.1 (by rw [x]; exact hq)).trans a) (ih nd'.2 e)
theorem Fnd.put {G H : Hp} {p D : Addr} {ps : List Addr} {rows : List (List V)} (f : Fnd G p D ps rows H) {i : Nat} {q : Addr} {xs : List V} (e : ps[i]? = some q) : Fnd G p D ps (rows.set i xs) (upd H q (.lst xs)) := by
  obtain ⟨d1, d2, d3, d4⟩ := f.far
  have hq := List.mem_of_getElem? e
  exact ⟨f.P.put (d4 q hq).1 (d4 q hq).2, (upd_ne fun x => d3 (by rw [x]; exact hq)).trans f.at_, f.ls.set f.nd e, f.nd, f.far⟩
/-- the first i rows grown by z -/
def grown (z : V) (i : Nat) (rows : List (List V)) : List (List V) := (rows.take i).map (· ++ [z]) ++ rows.drop i
theorem grown_0 {z : V} {rows : List (List V)} : grown z 0 rows = rows := by
  unfold grown
  rw [List.take_zero, List.drop_zero]
  rfl
theorem grown_all {z : V} {rows : List (List V)} : grown z rows.length rows = rows.map (· ++ [z]) := by
  unfold grown
  rw [List.take_length, List.drop_length, List.append_nil]
theorem grown_get {z : V} {i : Nat} {rows : List (List V)} {xs : List V} (h : rows[i]? = some xs) : (grown z i rows)[i]? = some xs ∧ (grown z i rows).set i (xs ++ [z]) = grown z (i + 1) rows := by
  unfold grown
  have hi := (List.getElem?_eq_some_iff.mp h).1
  have hl : ((rows.take i).map (· ++ [z])).length = i := by rw [List.length_map, List.length_take]; omega
  have hd : rows.drop i = xs :: rows.drop (i + 1) := by
    rw [List.drop_eq_getElem_cons hi]
    congr 1
    exact (List.getElem?_eq_some_iff.mp h).2
  refine ⟨?_, ?_⟩
  · rw [List.getElem?_append_right (by omega), hl, Nat.sub_self, hd]
    rfl
  · rw [hd, List.set_append_right _ _ (by omega), hl, Nat.sub_self, List.set_cons_zero, take_succ h, List.map_append, List.append_assoc]
    rfl
/-- lists of integers as data -/
def dL (ns : List Int) : PyData := .list (ns.map PyData.int)
theorem dp_ints {K : PySem.W.Frag} {H : Hp} : ∀ l : List Int, DpAll K H (l.map V.int) (l.map PyData.int)
  | [] => .nil
  | i :: l => .cons (.int i) (dp_ints l)
theorem shaped_L (ns : List Int) : SeqAt.shaped (dL ns) = true := by
  have e : dM [] = .list [] := rfl
  have r1 : PyData.canLayAll0 (ns.map PyData.int) = true ∧ PyData.depthAll (ns.map PyData.int) = 0 := by
    induction ns with
    | nil => exact ⟨by simp [PyData.canLayAll0], rfl⟩
    | cons c l ih =>
      refine ⟨by simp [PyData.canLayAll0, PyData.canLay0, ih.1], ?_⟩
      show max 0 (PyData.depthAll (l.map PyData.int)) = 0
      rw [ih.2]
      rfl
  unfold SeqAt.shaped
  rw [Bool.and_eq_true]
  refine ⟨by simp [dL, PyData.canLay0, r1.1], decide_eq_true ?_⟩
  show PyData.depthAll (ns.map PyData.int) + 1 ≤ 64
  rw [r1.2]
  decide
theorem eqv_self {d : PyData} (h : SeqAt.shaped d = true) : PyData.eqv d d = true := PySem.SeqAt.eqv_refl d (SeqAt.canLay_of_shaped h)
theorem flat_one (n : Nat) (v : V) : (List.replicate n [v]).flatten = List.replicate n v := by
  induction n with
  | zero => rfl
  | succ n ih => rw [List.replicate_succ, List.flatten_cons, ih]; rfl
end KM

namespace KP
open PySem L2 Gd Zn KM
/-! ### letters of texts -/
theorem str_join_list : ∀ l : List Str, (Str.join "" l).cps.toList = (l.map fun x => x.cps.toList).flatten
  | [] => rfl
  | [x] => by
    show x.cps.toList = x.cps.toList ++ []
    rw [List.append_nil]
  | x :: y :: l => by
    have ih := str_join_list (y :: l)
    have e : (("" : String) : Str).cps.toList = [] := by decide +kernel
    show (x ++ "" ++ Str.join "" (y :: l)).cps.toList = x.cps.toList ++ ((y :: l).map fun x => x.cps.toList).flatten
    rw [Gd.app_list, Gd.app_list, e, List.append_nil, ih]
theorem join_list (l : List Str) : (Txt.join "" l).cps.toList = (l.map fun x => x.cps.toList).flatten := by rw [join_str, str_join_list]
mutual
theorem ptx_low (n : Int) : ∀ p : Pt, p.Wf → ∀ c ∈ (ptx n p).cps.toList, low c = true
  | .ch c, h, d, hd => by
    have : d = c := by simpa [ptx] using hd
    rw [this]
    exact h
  | .rep l, h, d, hd => by
    have hd : d ∈ (repS (Txt.join "" (ptl n l)) n).cps.toList := hd
    rw [repS_list] at hd
    obtain ⟨x, hx, hd⟩ := List.mem_flatten.mp hd
    rw [(List.mem_replicate.mp hx).2, join_list] at hd
    obtain ⟨y, hy, hd⟩ := List.mem_flatten.mp hd
    obtain ⟨z, hz, rfl⟩ := List.mem_map.mp hy
    exact ptl_low n l h.2 z hz d hd
theorem ptl_low (n : Int) : ∀ l : List Pt, Wfs l → ∀ x ∈ ptl n l, ∀ c ∈ x.cps.toList, low c = true
  | [], _, _, hx => absurd hx List.not_mem_nil
  | p :: l, h, x, hx => by
    rcases List.mem_cons.mp (show x ∈ ptx n p :: ptl n l from hx) with rfl | hx
    · exact ptx_low n p h.1
    · exact ptl_low n l h.2 x hx
end
theorem ptxs_low {n : Int} {l : List Pt} (h : Wfs l) : ∀ c ∈ (ptxs n l).cps.toList, low c = true := fun c hc => by
  unfold ptxs at hc
  rw [join_list] at hc
  obtain ⟨y, hy, hc⟩ := List.mem_flatten.mp hc
  obtain ⟨z, hz, rfl⟩ := List.mem_map.mp hy
  exact ptl_low n l h z hz c hc
/-! ### what is compared -/
/-- a number, or a text of letters -/
def Nb (v : V) (d : PyData) : Prop := (∃ i : Int, v = .int i ∧ d = .int i) ∨ ∃ x : Str, v = .str x ∧ d = .str x ∧ ∀ c ∈ x.cps.toList, low c = true
theorem nb_lay {v : V} {d : PyData} (h : Nb v d) : d.canLay0 = true ∧ d.depth = 0 := by
  rcases h with ⟨i, _, rfl⟩ | ⟨x, _, rfl, h⟩
  · exact ⟨by simp [PyData.canLay0], rfl⟩
  · refine ⟨?_, rfl⟩
    show PyData.canLay0 (.str x) = true
    have : PyData.strOk x = true := by
      unfold PyData.strOk
      rw [Array.all_eq_true_iff_forall_mem]
      intro c hc
      have := low_small (h c (by simpa using hc))
      exact decide_eq_true (by omega)
    simpa [PyData.canLay0] using this
theorem asc_lay {x : Str} (h : Tx 20 x) : (PyData.str x).canLay0 = true := by
  have : PyData.strOk x = true := by
    unfold PyData.strOk
    rw [Array.all_eq_true_iff_forall_mem]
    intro c hc
    have := h.asc c (by simpa using hc)
    exact decide_eq_true (by omega)
  simpa [PyData.canLay0] using this
theorem shaped2 {w : Str} {v : V} {d : PyData} (hw : Tx 20 w) (h : Nb v d) : SeqAt.shaped (.list [.str w, d]) = true := by
  obtain ⟨a, b⟩ := nb_lay h
  unfold SeqAt.shaped
  have e1 : (PyData.list [.str w, d]).canLay0 = true := by simp [PyData.canLay0, PyData.canLayAll0, a, show PyData.strOk w = true by simpa [PyData.canLay0] using asc_lay hw]
  have e2 : (PyData.list [.str w, d]).depth ≤ 64 := by
    show max 0 (max d.depth 0) + 1 ≤ 64
    rw [b]
    decide
  rw [e1, decide_eq_true e2]
  rfl
theorem nb_dp {K : PySem.W.Frag} {H : Hp} {v : V} {d : PyData} : Nb v d → Dp K H v d
  | .inl ⟨i, a, b⟩ => by subst a; subst b; exact .int i
  | .inr ⟨x, a, b, _⟩ => by subst a; subst b; exact .str x
/-- [w, v] != [w, v] -/
theorem pair_ne {K : PySem.W.Frag} {H : Hp} {a b : Addr} {w : Str} {v : V} {d : PyData} (hw : Tx 20 w) (hv : Nb v d) (h1 : H a = some (.lst [.str w, v])) (h2 : H b = some (.lst [.str w, v])) {Q : VK} (q : Q (.bl false) H) : rNeD K (.ref a) (.ref b) H Q := by
  refine ⟨.list [.str w, d], .list [.str w, d], .lst (SqL.of h1) (.cons (.str _) (.cons (nb_dp hv) .nil)), .lst (SqL.of h2) (.cons (.str _) (.cons (nb_dp hv) .nil)), shaped2 hw hv, shaped2 hw hv, ?_⟩
  rw [eqv_self (shaped2 hw hv)]
  exact q
theorem told_nb {l : List Pt} {n way : Int} (h : Wfs l) : Tx 20 (told l n way).1 ∧ ∃ d, Nb (told l n way).2 d := by
  unfold told
  split
  · exact ⟨(.of (by decide +kernel) : Tx 20 (("returned" : String) : Str)), _, .inl ⟨_, rfl, rfl⟩⟩
  · split
    · exact ⟨(.of (by decide +kernel) : Tx 20 (("many" : String) : Str)), _, .inl ⟨_, rfl, rfl⟩⟩
    · exact ⟨(.of (by decide +kernel) : Tx 20 (("returned" : String) : Str)), _, .inr ⟨_, rfl, rfl, ptxs_low h⟩⟩
/-! ### the pool and what is drawn -/
theorem pool_kept {H G H' : Hp} {p : Addr} (s : Same (Gp H p) G) (P : Pool G H' p) : Kept H H' p := ⟨P.b, fun q o hq h => P.s _ _ (s _ _ (gp_at hq h))⟩
theorem pool0 {H : Hp} {p : Addr} (b : BoxAt H p) : Pool (Gp H p) H p := ⟨b, gp_same, if_pos rfl⟩
theorem Pool.kept {G H H' : Hp} {p : Addr} (P : Pool G H p) (k : Kept H H' p) : Pool G H' p :=
  ⟨k.box, fun a o e => k.2 a o (fun z => by rw [z, P.n] at e; exact nomatch e) (P.s _ _ e), P.n⟩
theorem pool_draw {G G' H H' : Hp} {p : Addr} (P : Pool G H p) (k : Kept H H' p) (f : Fr H G' H') : Pool (uni G G') H' p ∧ Same G (uni G G') ∧ Same G' (uni G G') := by
  have dis : ∀ c, G' c ≠ none → G c = none := fun c hc => by
    have := f.n c hc
    cases e : G c with
    | none => rfl
    | some o => rw [P.s _ _ e] at this; exact nomatch this
  have P' := Pool.kept P k
  refine ⟨⟨P'.b, uni_to P'.s f.s, ?_⟩, uni_l, uni_r dis⟩
  cases e : uni G G' p with
  | none => rfl
  | some o =>
    exfalso
    rcases uni_not (c := p) (by rw [e]; exact fun z => nomatch z) with h | h
    · exact h P.n
    · obtain ⟨u, hu⟩ := P.b.some
      rw [f.n p h] at hu
      exact nomatch hu
/-- a number of times that is none -/
structure Odd (K : PySem.W.Frag) (H : Hp) (v : V) (d : PyData) : Prop where
  pv : Pv H v
  no : inR 1 1000 v = false
  da : Da K H v d
  ok : Ok1 d
  wd : wid d ≤ 1000
  dp : d.depth ≤ 1
theorem Odd.same {K : PySem.W.Frag} {H H' : Hp} {v : V} {d : PyData} (s : Same H H') (o : Odd K H v d) : Odd K H' v d := ⟨o.pv.same s, o.no, o.da.same s, o.ok, o.wd, o.dp⟩
def spRight : Sp := fun vs H Q _ => ∃ (p : Addr) (v : V) (l : List Pt) (G : Hp), vs = [.ref p, v] ∧ Pool G H p ∧ LiAt G true v l ∧ Good 5000 100 l ∧ ∀ H', Kept H H' p → Q (.bl true) H'
theorem good_ok {l : List Pt} (g : Good 5000 100 l) : Ok1 (.list (dPts l)) ∧ wid (.list (dPts l)) ≤ sizeLine ∧ (PyData.list (dPts l)).depth ≤ 220 := by
  obtain ⟨a, b, c⟩ := li_ok g.wf
  have := g.nd
  have := g.dp
  have := sizeLine_eq
  exact ⟨a, by omega, by omega⟩
section
variable {P : Program} {w : World} {K : PySem.W.Frag} {mg : Str → Option Value} {base : Heap} {C_I f_I C_P f_P C_M f_M : Addr}
abbrev s_law_right : Stmt := top 34
theorem sc_law_right : FnScope ["_law_box_here", "_law_pattern", "_law_kept", "_law_turn", "_law_many", "_law_size_here", "_law_one", "_law_due", "_law_odd", "_law_found", "_law_way"] ["_law_box_here", "_law_pattern"] (defScope s_law_right) := ⟨rfl, rfl, rfl, by decide +kernel, rfl, by decide +kernel, by decide +kernel⟩
theorem ok_right {f f1 f2 f3 f4 f5 f6 : Addr} {fd fd1 fd2 fd3 fd4 fd5 fd6 : FuncData} (F : Fun K "_law_right" "_law_right" s_law_right f fd) (T : Txt K mg base C_I f_I C_P f_P C_M f_M)
    (D__law_take : Df P w K mg base CX0 1 "_law_take" f1 fd1 ["_law_box_here", "_law_size_here"] spTake) (D__law_size : Df P w K mg base CX0 102 "_law_size" f2 fd2 ["_law_pattern", "_law_many"] (spLen 100)) (D__law_turned : Df P w K mg base CX0 102 "_law_turned" f3 fd3 ["_law_pattern"] (spTurn 100))
    (D_is_pattern : Df P w K mg base CX0 103 "is_pattern" f4 fd4 ["value"] spIsP) (D__law_caught : Df P w K mg base CX0 107 "_law_caught" f5 fd5 ["_law_pattern", "_law_many", "_law_way"] spCaught) (D__law_text : Df P w K mg base CX0 102 "_law_text" f6 fd6 ["_law_pattern", "_law_many"] (spTxt 100)) :
    FnG P w K mg base CX0 108 f fd ["_law_box_here", "_law_pattern"] spRight := by
  refine okG F sc_law_right (fun vs H Q E h => ?_) (fun cdv A outer s H vs Q E hc hr h => ?_)
  · obtain ⟨p, v, l, G, rfl, _⟩ := h
    rfl
  obtain ⟨p, v, l, G, rfl, hP, hl, g, q⟩ := h
  refine ⟨_, (pss_cons (ps_set (i := 2) sc_law_right.nd rfl (Or.inl rfl) (pe_callB (call_reprD hc T.sys (room230 hr)) (by rfl) T.z_repr (by decide +kernel) (pa_cons (pv 1) pa_nil)))
 (pss_cons (ps_for (passes_of rfl) rfl (pi_range1 rfl T.z_range (pa_cons pe_int pa_nil)) (pg_name (i := 3) sc_law_right.nd rfl (Or.inl rfl))
  (pss_cons (ps_set (i := 4) sc_law_right.nd rfl (Or.inl rfl) (pe_ix ix_list (pe_lst (pa_cons pe_int (pa_cons pe_int (pa_cons pe_int (pa_cons (pe_op op_add pe_int (pe_d D__law_take hc (hr.mono (by omega)) (by rfl) (fun _ => passN) (pa_cons (pv 0) (pa_cons pe_int pa_nil)))) (pa_cons pe_int (pa_cons (pe_op op_add pe_int (pe_d D__law_take hc (hr.mono (by omega)) (by rfl) (fun _ => passN) (pa_cons (pv 0) (pa_cons pe_int pa_nil)))) pa_nil))))))) (pe_d D__law_take hc (hr.mono (by omega)) (by rfl) (fun _ => passN) (pa_cons (pv 0) (pa_cons pe_int pa_nil))) (fun _ _ => rfl)))
 (pss_cons (ps_set (i := 5) sc_law_right.nd rfl (Or.inl rfl) (pe_d D__law_size hc (hr.mono (by omega)) (by rfl) (fun _ => passN) (pa_cons (pv 1) (pa_cons (pv 4) pa_nil))))
 (pss_one (ps_for (passes_of rfl) rfl (pi_list (pe_lst (pa_cons (pv 1) (pa_cons (pe_d D__law_turned hc (hr.mono (by omega)) (by rfl) (fun _ => passN) (pa_cons (pv 1) pa_nil)) pa_nil)))) (pg_name (i := 6) sc_law_right.nd rfl (Or.inl rfl))
  (pss_cons (ps_if (PW.pt (pw_or (pt_not (pt_val (pe_d D_is_pattern hc (hr.mono (by omega)) (by rfl) (fun _ => passN) (pa_cons (pv 6) pa_nil)))) (pw_or1 (pt_cmpR (op_neD hr.units) (pe_d D__law_caught hc (hr.mono (by omega)) (by rfl) (fun _ => passN) (pa_cons (pv 6) (pa_cons (pv 4) (pa_cons pe_int pa_nil)))) (pe_lst (pa_cons pe_str (pa_cons (pv 5) pa_nil))) (nomark _)))))
  (pss_one (ps_ret pe_bl)) pss_nil)
 (pss_mid (ps_set (i := 7) sc_law_right.nd rfl (Or.inl rfl) (pe_ifExp (pt_cmpR op_gt (pv 5) pe_int (nomark _)) (pe_lst (pa_cons pe_str (pa_cons (pv 5) pa_nil))) (pe_lst (pa_cons pe_str (pa_cons (pe_d D__law_text hc (hr.mono (by omega)) (by rfl) (fun _ => passN) (pa_cons (pv 1) (pa_cons (pv 4) pa_nil))) pa_nil)))))
 (pss_one (ps_if (PW.pt (pw_or (pt_cmpR (op_neD hr.units) (pe_d D__law_caught hc (hr.mono (by omega)) (by rfl) (fun _ => passN) (pa_cons (pv 6) (pa_cons (pv 4) (pa_cons pe_int pa_nil)))) (pv 7) (nomark _)) (pw_or1 (pt_cmpR op_ne (pe_callB (call_reprD hc T.sys (room230 hr)) (by rfl) T.z_repr (by decide +kernel) (pa_cons (pv 1) pa_nil)) (pv 2) (nomark _)))))
  (pss_one (ps_ret pe_bl)) pss_nil)))))))))
 (pss_cons (ps_set (i := 8) sc_law_right.nd rfl (Or.inr rfl) (pe_ix ix_list (pe_lst (pa_cons pe_int (pa_cons pe_int (pa_cons (pe_un un_neg pe_int) (pa_cons pe_non (pa_cons pe_bl (pa_cons pe_str (pa_cons (pe_lst (pa_cons pe_int pa_nil)) (pa_cons (pe_op op_pow pe_int pe_int) (pa_cons pe_bl pa_nil)))))))))) (pe_d D__law_take hc (hr.mono (by omega)) (by rfl) (fun _ => passN) (pa_cons (pv 0) (pa_cons pe_int pa_nil))) (fun _ _ => rfl)))
 (pss_cons (ps_set (i := 9) sc_law_right.nd rfl (Or.inl rfl) (pe_op op_cat (pe_lc (own := [("_law_way", 10)]) (g := gName 10) rfl sc_law_right.nd (pi_range1 rfl T.z_range (pa_cons pe_int pa_nil)) (blkOk_by (N := ["_law_box_here", "_law_pattern", "_law_kept", "_law_turn", "_law_many", "_law_size_here", "_law_one", "_law_due", "_law_odd", "_law_found", "_law_way"]) (sc := defScope s_law_right) (by decide +kernel)) (fun _ _ _ _ _ => pg_name (i := 10) sc_law_right.nd rfl (Or.inl rfl)) (fun _ _ _ _ _ => pts_nil) (fun _ _ _ _ _ => (pe_d D__law_caught hc (hr.mono (by omega)) (by rfl) (fun _ => passN) (pa_cons (pv 1) (pa_cons (pv 8) (pa_cons (pv 10) pa_nil)))))) (pe_lc (own := [("_law_way", 10)]) (g := gName 10) rfl sc_law_right.nd (pi_range1 rfl T.z_range (pa_cons pe_int pa_nil)) (blkOk_by (N := ["_law_box_here", "_law_pattern", "_law_kept", "_law_turn", "_law_many", "_law_size_here", "_law_one", "_law_due", "_law_odd", "_law_found", "_law_way"]) (sc := defScope s_law_right) (by decide +kernel)) (fun _ _ _ _ _ => pg_name (i := 10) sc_law_right.nd rfl (Or.inl rfl)) (fun _ _ _ _ _ => pts_nil) (fun _ _ _ _ _ => (pe_d D__law_caught hc (hr.mono (by omega)) (by rfl) (fun _ => passN) (pa_cons (pe_lst (pa_cons pe_str pa_nil)) (pa_cons (pv 8) (pa_cons (pv 10) pa_nil))))))))
 (pss_one (ps_ret (pe_cmpR op_eq (pe_callB (call_reprD hc T.sys (room230 hr)) (by rfl) T.z_repr (by decide +kernel) (pa_cons (pv 9) pa_nil)) (pe_callB (call_reprD hc T.sys (room230 hr)) (by rfl) T.z_repr (by decide +kernel) (pa_cons (pe_op op_cat (pe_op op_rep (pe_lst (pa_cons (pe_lst (pa_cons pe_str (pa_cons (pv 8) pa_nil))) pa_nil)) pe_int) (pe_op op_rep (pe_lst (pa_cons (pe_lst (pa_cons pe_str (pa_cons (pe_lst (pa_cons pe_str pa_nil)) pa_nil))) pa_nil)) pe_int)) pa_nil)) (nomark _)))))))), ?_⟩
  have z16 := sizeLine_eq
  have z2 : 2 ≤ sizeLine := by decide
  have eq0 : ∀ {x : Str} {A B : Prop}, B → if (!decide (V.str x = V.str x)) = true then A else B := fun {x A B} h => iteB (fun c => by simp at c) (fun _ => h)
  obtain ⟨ok, wd, dp⟩ := good_ok g
  have hda : ∀ {H'}, Pool G H' p → Da K H' v (.list (dPts l)) := fun P => (hl.same P.s).da
  -- all that stands is kept
  obtain ⟨Pa, Sa⟩ := hP.all
  have hlA := hl.same Sa
  have daA : ∀ {H'}, Pool (Gp H p) H' p → Da K H' v (.list (dPts l)) := fun P => (hlA.same P.s).da
  refine ⟨_, rfl, v, _, rfl, daA Pa, ok, wd, dp, ?_⟩
  refine ⟨3, rfl, by decide, by decide, ?_⟩
  refine for_range (n := 3) (fun i σ H' => ∃ o3 o4 o5 o6 o7, σ = [some (.ref p), some v, some (.str (PyData.list (dPts l)).shown), o3, o4, o5, o6, o7, none, none, none] ∧ Pool (Gp H p) H' p) ⟨none, none, none, none, none, rfl, Pa⟩ ?_ ?_
  · rintro i _ H1 hi ⟨o3, o4, o5, o6, o7, rfl, P1⟩
    refine ⟨_, rfl, p, 12, rfl, P1.b, by decide, by decide, fun d1 H2 a1 b1 t1 => ⟨_, _, rfl, rfl, ?_⟩⟩
    have P2 := P1.take t1
    refine ⟨_, rfl, p, 1000, rfl, P2.b, by decide, by decide, fun d2 H3 a2 b2 t2 => ⟨_, _, rfl, rfl, ?_⟩⟩
    have P3 := P2.take t2
    refine ⟨by show 6 ≤ sizeLine; omega, fun L hL => ?_⟩
    have P4 := P3.go (upd_new (o := .lst [.int 1, .int 2, .int 3, .int (1 + d1), .int 1000, .int (1 + d2)]) hL)
    refine ⟨_, rfl, p, 6, rfl, P4.b, by decide, by decide, fun d3 H4 a3 b3 t3 => ?_⟩
    have P5 := P4.take t3
    obtain ⟨u, hu, n, rfl, n1, n2⟩ := atI_all (l := [V.int 1, .int 2, .int 3, .int (1 + d1), .int 1000, .int (1 + d2)]) (p := fun v => ∃ z, v = .int z ∧ 1 ≤ z ∧ z ≤ 1000) (by
      intro v hv
      simp only [List.mem_cons, List.not_mem_nil, or_false] at hv
      rcases hv with rfl | rfl | rfl | rfl | rfl | rfl <;> exact ⟨_, rfl, by omega, by omega⟩) a3 (by show d3 < 6; exact b3)
    refine ⟨L, _, _, _, rfl, rfl, SqL.of (t3.at (P3.ne hL) upd_same), hu, ?_⟩
    refine ⟨_, rfl, _, rfl, true, v, l, n, rfl, hlA.same P5.s, g, n1, n2, fun H5 s5 => ?_⟩
    have P6 := P5.go s5
    refine ⟨_, rfl, _, rfl, v, l, rfl, hlA.same P6.s, g, fun v' H6 s6 L6 => ⟨z2, fun b hb => ⟨b, rfl, ⟨_, SqL.of upd_same⟩, ?_⟩⟩⟩
    have P7 := (P6.go s6).go (upd_new (o := .lst [v, v']) hb)
    have hv' := L6.same (upd_new (o := .lst [v, v']) hb)
    have hb7 : (upd H6 b (.lst [v, v'])) b = some (.lst [v, v']) := upd_same
    generalize upd H6 b (.lst [v, v']) = H7 at P7 hv' hb7 ⊢
    refine for_list (xs := [v, v']) (fun j σ H' => ∃ o6 o7, σ = [some (.ref p), some v, some (.str (PyData.list (dPts l)).shown), some (.int (0 + (i : Nat))), some (.int n), some (.int (plens n l)), o6, o7, none, none, none] ∧ Same H7 H') ⟨o6, o7, rfl, Same.refl _⟩ (fun j σ H' _ ⟨_, _, _, s⟩ => SqL.of (s _ _ hb7)) ?_ ?_
    · rintro j x _ H8 hx ⟨o6, o7, rfl, s8⟩
      have gx : GoodAt H8 x l := by
        match j, hx with
        | 0, hx => injection hx with e; subst e; exact ⟨true, (hlA.same P7.s).same s8, g⟩
        | 1, hx => injection hx with e; subst e; exact ⟨false, hv'.same s8, g⟩
        | j + 2, hx => exact nomatch hx
      have P8 := P7.go s8
      have hno : ∀ {A : Prop}, inR 1 1000 (.int n) = false → A := fun {A} h => by
        have : inR 1 1000 (.int n) = true := by
          show (decide (1 ≤ n) && decide (n ≤ 1000)) = true
          rw [decide_eq_true n1, decide_eq_true n2]
          rfl
        rw [this] at h
        exact nomatch h
      refine ⟨_, rfl, x, rfl, .inl ⟨l, gx, fun H9 s9 => ⟨_, rfl, iteF ?_⟩⟩⟩
      refine ⟨_, rfl, _, rfl, x, .int n, 0, rfl, (fun z => nomatch z), .inl ⟨l, gx.same s9, fun n' en m1 m2 p1 H10 s10 hp1 e1 => ?_, fun h => hno h⟩⟩
      injection en with en
      subst en
      have et : told l n 0 = (("returned" : Str), V.int (plens n l)) := if_pos rfl
      rw [et] at e1
      refine ⟨_, rfl, z2, fun b1 hb1 => pair_ne (w := "returned") (.of (by decide +kernel)) (.inl ⟨_, rfl, rfl⟩) (upd_new hb1 _ _ e1) upd_same ⟨_, rfl, iteF ?_⟩⟩
      have s11 : Same H8 (upd H10 b1 (.lst [.str "returned", .int (plens n l)])) := (s9.trans s10).trans (upd_new hb1)
      generalize upd H10 b1 (.lst [.str "returned", .int (plens n l)]) = H11 at s11 ⊢
      have P11 := P8.go s11
      -- what is due
      refine ⟨fun σ' H' => ∃ b2, σ' = [some (.ref p), some v, some (.str (PyData.list (dPts l)).shown), some (.int (0 + (i : Nat))), some (.int n), some (.int (plens n l)), some x, some (.ref b2), none, none, none] ∧ Same H11 H' ∧ H' b2 = some (.lst [.str (told l n 1).1, (told l n 1).2]), ?_, ?_⟩
      · refine ⟨_, rfl, _, _, rfl, rfl, _, rfl, ?_⟩
        refine iteB (fun c => ?_) (fun c => ?_)
        · have c := of_decide_eq_true c
          have et : told l n 1 = (("many" : Str), V.int (plens n l)) := (if_neg (by decide)).trans (if_pos c)
          rw [et]
          exact ⟨_, rfl, z2, fun b2 hb2 => ⟨b2, rfl, upd_new hb2, upd_same⟩⟩
        · have c := of_decide_eq_false c
          have et : told l n 1 = (("returned" : Str), V.str (ptxs n l)) := (if_neg (by decide)).trans (if_neg (by omega))
          rw [et]
          exact ⟨_, rfl, _, rfl, true, v, l, n, rfl, hlA.same P11.s, g, n1, n2, by omega, fun H12 s12 => ⟨z2, fun b2 hb2 => ⟨b2, rfl, s12.trans (upd_new hb2), upd_same⟩⟩⟩
      rintro _ H12 ⟨b2, rfl, s12, hb2⟩
      obtain ⟨tw, d, tn⟩ := told_nb (l := l) (n := n) (way := 1) g.wf
      refine ⟨_, rfl, _, rfl, x, .int n, 1, rfl, (fun z => nomatch z), .inl ⟨l, (gx.same s11).same s12, fun n' en m1 m2 p2 H13 s13 hp2 e2 => ?_, fun h => hno h⟩⟩
      injection en with en
      subst en
      refine ⟨_, rfl, pair_ne tw tn e2 (s13 _ _ hb2) ⟨_, rfl, iteF ?_⟩⟩
      have P13 := (P11.go s12).go s13
      refine ⟨_, rfl, v, _, rfl, daA P13, ok, wd, dp, _, rfl, rfl, _, rfl, eq0 ?_⟩
      exact ⟨_, _, rfl, s8.trans (s11.trans (s12.trans s13))⟩
    · rintro _ H8 ⟨o6, o7, rfl, s8⟩
      exact ⟨_, _, _, _, _, rfl, P7.go s8⟩
  rintro _ H1 ⟨o3, o4, o5, o6, o7, rfl, P1⟩
  have p29 : CPow 10 29 := ⟨by decide, by decide, by decide⟩
  have t29 : (10 : Int) ^ (29 : Int).toNat = 100000000000000000000000000000 := by decide
  refine ⟨1, rfl, by show 1 ≤ sizeLine; omega, fun a1 ha1 => ⟨_, _, rfl, rfl, p29, by show 9 ≤ sizeLine; omega, fun L hL => ?_⟩⟩
  have s1 : Same H1 (upd H1 a1 (.lst [.int 1])) := upd_new ha1
  have P2 := (P1.go s1).go (upd_new (o := .lst [.int 0, .int 1001, .int (-1), .non, .bl true, .str (Str.ofString "1"), .ref a1, .int (10 ^ (29 : Int).toNat), .bl false]) hL)
  refine ⟨_, rfl, p, 9, rfl, P2.b, by decide, by decide, fun d3 H3 a3 b3 t3 => ?_⟩
  have P3 := P2.take t3
  have la : a1 ≠ L := fun z => by rw [z, upd_same] at hL; exact nomatch hL
  have h3 : H3 a1 = some (.lst [.int 1]) := by
    rw [t3.2 a1 (P1.ne ha1), upd_ne la]
    exact upd_same
  obtain ⟨odd, hodd, dO, O⟩ := atI_all (l := [V.int 0, .int 1001, .int (-1), .non, .bl true, .str (Str.ofString "1"), .ref a1, .int (10 ^ (29 : Int).toNat), .bl false]) (p := fun v => ∃ d, Odd K H3 v d) (by
    intro v hv
    simp only [List.mem_cons, List.not_mem_nil, or_false] at hv
    have num : ∀ i : Int, (i < 1 ∨ 1000 < i) → i.natAbs < 2 ^ 200 → Odd K H3 (.int i) (.int i) := fun i h hb => by
      have := log_small hb
      refine ⟨(fun z => nomatch z), ?_, .int i, by show i.natAbs.log2 < 1920; omega, by show i.natAbs.log2 + 3 ≤ 1000; omega, Nat.zero_le _⟩
      show (decide (1 ≤ i) && decide (i ≤ 1000)) = false
      rcases h with h | h
      · rw [decide_eq_false (by omega)]
        rfl
      · rw [decide_eq_false (p := i ≤ 1000) (by omega), Bool.and_false]
    rcases hv with rfl | rfl | rfl | rfl | rfl | rfl | rfl | rfl | rfl
    · exact ⟨_, num 0 (.inl (by decide)) (by decide)⟩
    · exact ⟨_, num 1001 (.inr (by decide)) (by decide)⟩
    · exact ⟨_, num (-1) (.inl (by decide)) (by decide)⟩
    · exact ⟨_, (fun z => nomatch z), rfl, .non, trivial, by decide, Nat.zero_le _⟩
    · exact ⟨_, (fun z => nomatch z), rfl, .bl true, trivial, by decide, Nat.zero_le _⟩
    · exact ⟨_, (fun z => nomatch z), rfl, .str _, (Tx.of (n := 10) (by decide +kernel) : Tx 10 (Str.ofString "1")).big, by decide +kernel, Nat.zero_le _⟩
    · have e : kind H3 (.ref a1) = .lst := by
        show kindO (H3 a1) = .lst
        rw [h3]
        rfl
      exact ⟨_, by unfold Pv; rw [e]; exact (fun z => nomatch z), rfl, .lst h3 (.cons (.int 1) .nil), ⟨by show (1 : Int).natAbs.log2 < 1920; decide, trivial⟩, by decide +kernel, by decide +kernel⟩
    · rw [t29]
      exact ⟨_, num _ (.inr (by decide)) (by decide)⟩
    · exact ⟨_, (fun z => nomatch z), rfl, .bl false, trivial, by decide, Nat.zero_le _⟩) a3 (by show d3 < 9; exact b3)
  refine ⟨L, _, _, odd, rfl, rfl, SqL.of (t3.at ((P1.go s1).ne hL) upd_same), hodd, ?_⟩
  -- what is found
  refine ⟨2, rfl, by decide, by decide, fun D hD => ?_⟩
  refine lc_it (walk_range (lo := 0) (n := 2)) (fun j H' => Bld H3 D (List.replicate j [.str "integer", odd]) H') (Bld.nil hD) (fun _ _ _ _ => trivial) ?_ ?_
  · rintro j _ _ H4 hj B ⟨rfl, rfl⟩
    refine ⟨rfl, yes_go ⟨_, rfl, _, rfl, _, rfl, v, odd, (0 + (j : Nat) : Int), rfl, (O.same B.same).pv, .inl ⟨l, ⟨true, hlA.same (P3.go B.same).s, g⟩, fun n en m1 m2 => ?_, fun hi p1 H5 s5 hp1 e1 => ?_⟩⟩⟩
    · exfalso
      have no := O.no
      rw [en] at no
      have : inR 1 1000 (.int n) = true := by
        show (decide (1 ≤ n) && decide (n ≤ 1000)) = true
        rw [decide_eq_true m1, decide_eq_true m2]
        rfl
      rw [this] at no
      exact nomatch no
    · rw [List.replicate_succ']
      exact B.add hp1 s5 e1 (by rw [List.length_replicate]; omega)
  intro H4 B4
  have O4 := O.same B4.same
  have P4 := P3.go B4.same
  refine ⟨2, rfl, by decide, by decide, fun D2 hD2 => ?_⟩
  refine lc_it (walk_range (lo := 0) (n := 2)) (fun j H' => ∃ xss, Bld H4 D2 xss H' ∧ xss.length = j ∧ ∀ xs ∈ xss, ∃ a, xs = [V.str "pattern", .ref a] ∧ H' a = some (.lst [.str "ab"])) ⟨[], Bld.nil hD2, rfl, fun _ h => absurd h List.not_mem_nil⟩ (fun _ _ _ _ => trivial) ?_ ?_
  · rintro j _ _ H5 hj ⟨xss, B, lx, hx⟩ ⟨rfl, rfl⟩
    refine ⟨rfl, yes_go ⟨by show 1 ≤ sizeLine; omega, fun a ha => ?_⟩⟩
    have sa : Same H5 (upd H5 a (.lst [.str "ab"])) := upd_new ha
    refine ⟨_, rfl, _, rfl, .ref a, odd, (0 + (j : Nat) : Int), rfl, ((O4.same B.same).same sa).pv, .inr ⟨⟨a, rfl, upd_same⟩, fun p1 H6 s6 hp1 e1 => ?_⟩⟩
    have hp5 : H5 p1 = none := by
      cases e : H5 p1 with
      | none => rfl
      | some o => rw [sa _ _ e] at hp1; exact nomatch hp1
    obtain ⟨acc, c1, c2, c3⟩ := B.add hp5 (sa.trans s6) e1 (by rw [lx]; omega)
    refine ⟨acc, c1, c2, xss ++ [[.str "pattern", .ref a]], c3, by rw [List.length_append, lx]; rfl, fun xs hxs => ?_⟩
    have aD : a ≠ D2 := fun z => by
      obtain ⟨ps, e, _⟩ := B.ex
      rw [z, e] at ha
      exact nomatch ha
    rcases List.mem_append.mp hxs with h | h
    · obtain ⟨a', e1, e2⟩ := hx xs h
      have aD' : a' ≠ D2 := fun z => by
        obtain ⟨ps, e, lsat, _⟩ := B.ex
        have l1 := lsat.len
        rw [z] at e2
        rw [e] at e2
        injection e2 with e2
        injection e2 with e2
        cases ps with
        | nil => exact nomatch e2
        | cons y ys => exact nomatch e2
      exact ⟨a', e1, by rw [upd_ne aD']; exact s6 _ _ (sa _ _ e2)⟩
    · obtain rfl : xs = [.str "pattern", .ref a] := by simpa using h
      exact ⟨a, rfl, by rw [upd_ne aD]; exact s6 _ _ upd_same⟩
  rintro H5 ⟨xss, B5, lx, hx⟩
  have O5 := O4.same B5.same
  have P5 := P4.go B5.same
  obtain ⟨ps1, e1, ls1, _⟩ := (B4.ext B5.same).ex
  obtain ⟨ps2, e2, ls2, _⟩ := B5.ex
  have lp1 := ls1.len
  have lp2 := ls2.len
  rw [List.length_replicate] at lp1
  refine ⟨D, D2, _, _, rfl, rfl, e1, e2, by rw [List.length_map, List.length_map]; omega, fun F0 hF0 => ?_⟩
  have s6 : Same H5 (upd H5 F0 (.lst (ps1.map V.ref ++ ps2.map V.ref))) := upd_new hF0
  have hF : (upd H5 F0 (.lst (ps1.map V.ref ++ ps2.map V.ref))) F0 = some (.lst (ps1.map V.ref ++ ps2.map V.ref)) := upd_same
  generalize upd H5 F0 (.lst (ps1.map V.ref ++ ps2.map V.ref)) = H6 at s6 hF ⊢
  have O6 := O5.same s6
  have P6 := P5.go s6
  -- its data
  obtain ⟨dI, hdI⟩ : ∃ d, d = PyData.list [.str "integer", dO] := ⟨_, rfl⟩
  obtain ⟨dB, hdB⟩ : ∃ d, d = PyData.list [.str "pattern", .list [.str "ab"]] := ⟨_, rfl⟩
  have tI : Tx 20 (("integer" : String) : Str) := .of (by decide +kernel)
  have okI : Ok1 dI ∧ wid dI ≤ 2000 ∧ dI.depth ≤ 2 := by
    rw [hdI]
    refine ⟨⟨tI.big, O.ok, trivial⟩, ?_, ?_⟩
    · have e : (("integer" : String) : Str).length = 7 := by decide +kernel
      have := O.wd
      show ((10 * (("integer" : String) : Str).length + 2) + 2 + (wid dO + 2 + 0)) + 2 ≤ 2000
      omega
    · have := O.dp
      show max 0 (max dO.depth 0) + 1 ≤ 2
      omega
  have okB : Ok1 dB ∧ wid dB ≤ 2000 ∧ dB.depth ≤ 2 := by
    rw [hdB]
    refine ⟨⟨(Tx.of (n := 20) (by decide +kernel) : Tx 20 (("pattern" : String) : Str)).big, ⟨(Tx.of (n := 20) (by decide +kernel) : Tx 20 (("ab" : String) : Str)).big, trivial⟩, trivial⟩, by decide +kernel, by decide +kernel⟩
  have okF : Ok1 (.list [dI, dI, dB, dB]) ∧ wid (.list [dI, dI, dB, dB]) ≤ sizeLine ∧ (PyData.list [dI, dI, dB, dB]).depth ≤ 220 := by
    refine ⟨⟨okI.1, okI.1, okB.1, okB.1, trivial⟩, ?_, ?_⟩
    · have := okI.2.1
      have := okB.2.1
      show (wid dI + 2 + (wid dI + 2 + (wid dB + 2 + (wid dB + 2 + 0)))) + 2 ≤ sizeLine
      omega
    · have := okI.2.2
      have := okB.2.2
      show max dI.depth (max dI.depth (max dB.depth (max dB.depth 0))) + 1 ≤ 220
      omega
  have daI : ∀ {H' : Hp} {a : Addr}, Same H6 H' → H' a = some (.lst [.str "integer", odd]) → Da K H' (.ref a) dI := fun {H' a} s h => by
    rw [hdI]
    exact .lst h (.cons (.str _) (.cons ((O6.same s).da) .nil))
  have daB : ∀ {H' : Hp} {a b : Addr}, H' a = some (.lst [.str "pattern", .ref b]) → H' b = some (.lst [.str "ab"]) → Da K H' (.ref a) dB := fun {H' a b} h h2 => by
    rw [hdB]
    exact .lst h (.cons (.str _) (.cons (.lst h2 (.cons (.str _) .nil)) .nil))
  have daF : Da K H6 (.ref F0) (.list [dI, dI, dB, dB]) := by
    match ps1, lp1, ls1, hF with
    | [x1, x2], _, .cons l1 (.cons l2 .nil), hF =>
      have hxl : ∀ (i : Nat) (q0 : Addr), ps2[i]? = some q0 → Da K H6 (.ref q0) dB := fun i q0 hi => by
        obtain ⟨xs, g1, g2⟩ := ls2.get hi
        obtain ⟨a, rfl, g3⟩ := hx xs (List.mem_of_getElem? g1)
        exact daB (s6 _ _ g2) (s6 _ _ g3)
      have lp3 : ps2.length = 2 := by omega
      match ps2, lp3, hF, hxl with
      | [y1, y2], _, hF, hxl => exact .lst hF (.cons (daI (Same.refl _) (s6 _ _ l1)) (.cons (daI (Same.refl _) (s6 _ _ l2)) (.cons (hxl 0 y1 rfl) (.cons (hxl 1 y2 rfl) .nil))))
  refine ⟨_, rfl, .ref F0, _, rfl, daF, okF.1, okF.2.1, okF.2.2, ?_⟩
  refine ⟨_, rfl, z2, fun b1 hb1 => ⟨by show 1 ≤ sizeLine; omega, fun b2 hb2 => ⟨b2, 2, _, rfl, rfl, upd_same, by decide, by decide, by show 1 * 2 ≤ sizeLine; omega, fun b3 hb3 => ?_⟩⟩⟩
  have k1 := upd_new (o := .lst [.str (Str.ofString "integer"), odd]) hb1
  have k2 := upd_new (o := .lst [.ref b1]) hb2
  have k3 := upd_new (o := .lst (List.replicate (2 : Int).toNat [V.ref b1]).flatten) hb3
  have f1 := k3 _ _ (k2 _ _ (upd_same (H := H6) (a := b1) (o := .lst [.str (Str.ofString "integer"), odd])))
  have f3 : (upd (upd (upd H6 b1 (.lst [.str (Str.ofString "integer"), odd])) b2 (.lst [.ref b1])) b3 (.lst (List.replicate (2 : Int).toNat [V.ref b1]).flatten)) b3 = some (.lst (List.replicate (2 : Int).toNat [V.ref b1]).flatten) := upd_same
  have k123 := k1.trans (k2.trans k3)
  generalize (upd (upd (upd H6 b1 (.lst [.str (Str.ofString "integer"), odd])) b2 (.lst [.ref b1])) b3 (.lst (List.replicate (2 : Int).toNat [V.ref b1]).flatten)) = H7 at f1 f3 k123 ⊢
  refine ⟨by show 1 ≤ sizeLine; omega, fun c1 hc1 => ⟨z2, fun c2 hc2 => ⟨by show 1 ≤ sizeLine; omega, fun c3 hc3 => ⟨c3, 2, _, rfl, rfl, upd_same, by decide, by decide, by show 1 * 2 ≤ sizeLine; omega, fun c4 hc4 => ?_⟩⟩⟩⟩
  have m1 := upd_new (o := .lst [.str (Str.ofString "ab")]) hc1
  have m2 := upd_new (o := .lst [.str (Str.ofString "pattern"), .ref c1]) hc2
  have m3 := upd_new (o := .lst [.ref c2]) hc3
  have m4 := upd_new (o := .lst (List.replicate (2 : Int).toNat [V.ref c2]).flatten) hc4
  have g1 := m4 _ _ (m3 _ _ (m2 _ _ (upd_same (H := H7) (a := c1) (o := .lst [.str (Str.ofString "ab")]))))
  have g2 := m4 _ _ (m3 _ _ (upd_same (H := upd H7 c1 (.lst [.str (Str.ofString "ab")])) (a := c2) (o := .lst [.str (Str.ofString "pattern"), .ref c1])))
  have g4 := upd_same (H := upd (upd (upd H7 c1 (.lst [.str (Str.ofString "ab")])) c2 (.lst [.str (Str.ofString "pattern"), .ref c1])) c3 (.lst [.ref c2])) (a := c4) (o := .lst (List.replicate (2 : Int).toNat [V.ref c2]).flatten)
  have m14 := m1.trans (m2.trans (m3.trans m4))
  generalize (upd (upd (upd (upd H7 c1 (.lst [.str (Str.ofString "ab")])) c2 (.lst [.str (Str.ofString "pattern"), .ref c1])) c3 (.lst [.ref c2])) c4 (.lst (List.replicate (2 : Int).toNat [V.ref c2]).flatten)) = H8 at g1 g2 g4 m14 ⊢
  refine ⟨b3, c4, _, _, rfl, rfl, m14 _ _ f3, g4, by show 4 ≤ sizeLine; omega, fun E0 hE0 => ?_⟩
  have m5 := upd_new (o := .lst ((List.replicate (2 : Int).toNat [V.ref b1]).flatten ++ (List.replicate (2 : Int).toNat [V.ref c2]).flatten)) hE0
  have h5 := upd_same (H := H8) (a := E0) (o := .lst ((List.replicate (2 : Int).toNat [V.ref b1]).flatten ++ (List.replicate (2 : Int).toNat [V.ref c2]).flatten))
  have h5 : (upd H8 E0 (.lst ((List.replicate (2 : Int).toNat [V.ref b1]).flatten ++ (List.replicate (2 : Int).toNat [V.ref c2]).flatten))) E0 = some (.lst [.ref b1, .ref b1, .ref c2, .ref c2]) := h5
  generalize upd H8 E0 (.lst ((List.replicate (2 : Int).toNat [V.ref b1]).flatten ++ (List.replicate (2 : Int).toNat [V.ref c2]).flatten)) = H9 at m5 h5 ⊢
  have sI := k123.trans (m14.trans m5)
  have i1 := daI sI (m5 _ _ (m14 _ _ f1))
  have i2 := daB (m5 _ _ g2) (m5 _ _ g1)
  refine ⟨_, .list [dI, dI, dB, dB], rfl, .lst h5 (.cons i1 (.cons i1 (.cons i2 (.cons i2 .nil)))), okF.1, okF.2.1, okF.2.2, rfl, ?_⟩
  have fin := q _ (pool_kept (Same.refl _) (P6.go sI))
  simpa using fin
end
end KP

namespace KP
open PySem L2 Gd Zn KM
/-! ### the long ones -/
theorem ptl_rep (n : Int) (p : Pt) : ∀ k : Nat, ptl n (List.replicate k p) = List.replicate k (ptx n p)
  | 0 => rfl
  | k + 1 => by
    rw [List.replicate_succ, List.replicate_succ]
    show ptx n p :: ptl n (List.replicate k p) = _
    rw [ptl_rep n p k]
theorem plens_rep (c : Nat) (n : Int) : ∀ k : Nat, plens n (List.replicate k (.ch c)) = k
  | 0 => rfl
  | k + 1 => by
    rw [List.replicate_succ]
    show 1 + plens n (List.replicate k (.ch c)) = _
    rw [plens_rep c n k]
    omega
theorem good_rep {c k : Nat} (hc : low c = true) (h1 : 1 ≤ k) (h2 : k ≤ 5000) : Good 5000 100 (List.replicate k (.ch c)) := by
  have wf : ∀ k : Nat, Wfs (List.replicate k (.ch c)) := by
    intro k
    induction k with
    | zero => exact trivial
    | succ k ih =>
      rw [List.replicate_succ]
      exact ⟨hc, ih⟩
  have dp : ∀ k : Nat, deps (List.replicate k (.ch c)) = 0 := by
    intro k
    induction k with
    | zero => rfl
    | succ k ih =>
      rw [List.replicate_succ]
      show max 0 (deps (List.replicate k (.ch c))) = 0
      rw [ih]
      rfl
  have nd : ∀ k : Nat, nods (List.replicate k (.ch c)) = k := by
    intro k
    induction k with
    | zero => rfl
    | succ k ih =>
      rw [List.replicate_succ]
      show 1 + nods (List.replicate k (.ch c)) = k + 1
      rw [ih]
      omega
  exact ⟨by rw [List.length_replicate]; exact h1, wf k, by rw [dp]; exact Nat.zero_le _, by rw [nd]; exact h2⟩
theorem li_rep {H : Hp} {L : Addr} {c : Nat} {k : Nat} (h : H L = some (.lst (List.replicate k (V.str ⟨#[c]⟩)))) : LiAt H true (.ref L) (List.replicate k (.ch c)) := ⟨L, _, rfl, h, PtsAt.rep .ch k⟩
theorem txt_rep (k : Nat) : ptxs 1 (List.replicate k (.ch 97)) = repS (("a" : String) : Str) (k : Int) := by
  refine str_ext ?_
  have e : (("a" : String) : Str).cps.toList = [97] := by decide +kernel
  unfold ptxs
  rw [join_list, ptl_rep, List.map_replicate, repS_list, e]
  rfl
def spLong : Sp := fun vs H Q _ => vs = [] ∧ ∀ H', Same H H' → Q (.bl true) H'
abbrev xl : List (List V) := [[.str "returned", .str (ptxs 1 (List.replicate 4000 (.ch 97)))], [.str "many", .int 4001]]
/-! ### the deep one -/
def dpt : Nat → List Pt
  | 0 => [.rep [.ch 97]]
  | k + 1 => [.rep (dpt k)]
theorem dpt_good : ∀ k : Nat, (dpt k).length = 1 ∧ Wfs (dpt k) ∧ deps (dpt k) = k + 1 ∧ nods (dpt k) = k + 2
  | 0 => ⟨rfl, ⟨⟨Nat.le_refl _, by show low 97 = true; decide, trivial⟩, trivial⟩, rfl, rfl⟩
  | k + 1 => by
    obtain ⟨a, b, c, d⟩ := dpt_good k
    refine ⟨rfl, ⟨⟨by omega, b⟩, trivial⟩, ?_, ?_⟩
    · show max (deps (dpt k) + 1) 0 = k + 1 + 1
      omega
    · show (nods (dpt k) + 1) + 0 = k + 1 + 2
      omega
/-- [("repeat", v)] -/
theorem pool_rep {G H : Hp} {p t q : Addr} {v : V} {l : List Pt} (P : Pool G H p) (hl : LiAt G true v l) (ht : H t = none) (hq : upd H t (.tup [.str sRep, v]) q = none) :
    Pool (upd (upd G t (.tup [.str sRep, v])) q (.lst [.ref t])) (upd (upd H t (.tup [.str sRep, v])) q (.lst [.ref t])) p ∧ Same G (upd (upd G t (.tup [.str sRep, v])) q (.lst [.ref t])) ∧ LiAt (upd (upd G t (.tup [.str sRep, v])) q (.lst [.ref t])) true (.ref q) [.rep l] := by
  have P1 := P.new (o := .tup [.str sRep, v]) ht
  have P2 := P1.new (o := .lst [.ref t]) hq
  have s1 : Same G (upd G t (.tup [.str sRep, v])) := upd_new (P.fresh ht)
  have s2 : Same (upd G t (.tup [.str sRep, v])) (upd (upd G t (.tup [.str sRep, v])) q (.lst [.ref t])) := upd_new (P1.fresh hq)
  obtain ⟨q1, vs, rfl, h1, h2⟩ := hl.same (s1.trans s2)
  exact ⟨P2, s1.trans s2, q, [.ref t], rfl, upd_same, .cons (.rep (s2 _ _ upd_same) h1 h2) .nil⟩
/-! ### the list of patterns, beside what they are made of -/
structure Sm (p S : Addr) (us : List V) (G H : Hp) : Prop where
  P : Pool G H p
  gS : G S = none
  at_ : H S = some (.lst us)
  ne : S ≠ p
  all : ∀ v ∈ us, ∃ l, LiAt G true v l ∧ Good 5000 100 l
theorem Sm.start {p D : Addr} {G H : Hp} (P : Pool G H p) (hD : H D = none) : Sm p D [] G (upd H D (.lst [])) :=
  ⟨P.put (P.ne hD) (P.fresh hD), P.fresh hD, upd_same, P.ne hD, fun _ h => absurd h List.not_mem_nil⟩
section
variable {p S : Addr} {us : List V} {G H : Hp}
theorem Sm.take {H' : Hp} (m : Sm p S us G H) (t : Turned H H' p) : Sm p S us G H' := ⟨m.P.take t, m.gS, t.at m.ne m.at_, m.ne, m.all⟩
theorem Sm.kept {H' : Hp} (m : Sm p S us G H) (k : Kept H H' p) : Sm p S us G H' := ⟨Pool.kept m.P k, m.gS, k.2 _ _ m.ne m.at_, m.ne, m.all⟩
theorem Sm.more {G' H' : Hp} (m : Sm p S us G H) (P : Pool G' H' p) (s : Same G G') (g : G' S = none) (h : H' S = some (.lst us)) : Sm p S us G' H' :=
  ⟨P, g, h, m.ne, fun v hv => let ⟨l, a, b⟩ := m.all v hv; ⟨l, a.same s, b⟩⟩
theorem Sm.new {a : Addr} {o : HO} (m : Sm p S us G H) (ha : H a = none) : Sm p S us (upd G a o) (upd H a o) := by
  have ne : S ≠ a := ne_of_none m.at_ ha
  exact m.more (m.P.new ha) (upd_new (m.P.fresh ha)) (by rw [upd_ne ne]; exact m.gS) (by rw [upd_ne ne]; exact m.at_)
theorem Sm.rep {t q : Addr} {v : V} {l : List Pt} (m : Sm p S us G H) (hl : LiAt G true v l) (ht : H t = none) (hq : upd H t (.tup [.str sRep, v]) q = none) :
    ∃ G', Sm p S us G' (upd (upd H t (.tup [.str sRep, v])) q (.lst [.ref t])) ∧ Same G G' ∧ LiAt G' true (.ref q) [.rep l] := by
  obtain ⟨a, b, c⟩ := pool_rep m.P hl ht hq
  exact ⟨_, (m.new ht).new hq, b, c⟩
theorem Sm.draw {G' H' : Hp} (m : Sm p S us G H) (k : Kept H H' p) (f : Fr H G' H') : Sm p S us (uni G G') H' ∧ Same G (uni G G') ∧ Same G' (uni G G') := by
  obtain ⟨a, b, c⟩ := pool_draw m.P k f
  refine ⟨m.more a b ?_ (k.2 _ _ m.ne m.at_), b, c⟩
  cases e : uni G G' S with
  | none => rfl
  | some o =>
    exfalso
    rcases uni_not (c := S) (by rw [e]; exact fun z => nomatch z) with h | h
    · exact h m.gS
    · have := f.n S h
      rw [m.at_] at this
      exact nomatch this
theorem Sm.push {v : V} {l : List Pt} (m : Sm p S us G H) (h : LiAt G true v l) (g : Good 5000 100 l) : Sm p S (us ++ [v]) G (upd H S (.lst (us ++ [v]))) :=
  ⟨m.P.put m.ne m.gS, m.gS, upd_same, m.ne, fun u hu => by
    rcases List.mem_append.mp hu with hu | hu
    · exact m.all u hu
    · obtain rfl : u = v := by simpa using hu
      exact ⟨l, h, g⟩⟩
/-- another list, with more of them -/
theorem Sm.cat {D : Addr} {ms : List V} (m : Sm p S us G H) (hD : H D = none) (hm : ∀ v ∈ ms, ∃ l, LiAt G true v l ∧ Good 5000 100 l) : Sm p D (us ++ ms) G (upd H D (.lst (us ++ ms))) :=
  ⟨m.P.put (m.P.ne hD) (m.P.fresh hD), m.P.fresh hD, upd_same, m.P.ne hD, fun v hv => (List.mem_append.mp hv).elim (m.all v) (hm v)⟩
end
def spLaw (K : PySem.W.Frag) : Sp := fun vs H Q _ => ∃ (a : Addr) (ns : List Int), vs = [.ref a] ∧ SqL K H a (ns.map V.int) ∧ ns.length ≤ 63 ∧ ∀ H', Q (.bl true) H'
section
variable {P : Program} {w : World} {K : PySem.W.Frag} {mg : Str → Option Value} {base : Heap} {C_I f_I C_P f_P C_M f_M : Addr}
abbrev s_law_long_right : Stmt := top 35
theorem sc_law_long_right : FnScope ["_law_found", "_law_size_here"] [] (defScope s_law_long_right) := ⟨rfl, rfl, rfl, by decide +kernel, rfl, by decide +kernel, by decide +kernel⟩
theorem ok_long {f f1 : Addr} {fd fd1 : FuncData} (F : Fun K "_law_long_right" "_law_long_right" s_law_long_right f fd) (T : Txt K mg base C_I f_I C_P f_P C_M f_M)
    (D__law_caught : Df P w K mg base CX0 107 "_law_caught" f1 fd1 ["_law_pattern", "_law_many", "_law_way"] spCaught) : FnG P w K mg base CX0 108 f fd [] spLong := by
  refine okG F sc_law_long_right (fun vs H Q E h => ?_) (fun cdv A outer s H vs Q E hc hr h => ?_)
  · obtain ⟨rfl, _⟩ := h
    rfl
  obtain ⟨rfl, q⟩ := h
  refine ⟨_, (pss_cons (ps_setLc (i := 0) (own := [("_law_size_here", 1)]) (g := gName 1) rfl sc_law_long_right.nd rfl rfl (sw_true rfl rfl rfl (by decide +kernel)) (pi_list (pe_lst (pa_cons pe_int (pa_cons pe_int pa_nil)))) (blkOk_by (N := ["_law_found", "_law_size_here"]) (sc := defScope s_law_long_right) (by decide +kernel)) (fun _ _ _ _ _ => pg_name (i := 1) sc_law_long_right.nd rfl (Or.inl rfl)) (fun _ _ _ _ _ => pts_nil) (fun _ _ _ _ _ => (pe_d D__law_caught hc (hr.mono (by omega)) (by rfl) (fun _ => passN) (pa_cons (pe_op op_rep (pe_lst (pa_cons pe_str pa_nil)) (pv 1)) (pa_cons pe_int (pa_cons pe_int pa_nil))))))
 (pss_one (ps_ret (pe_cmpR (op_eqD hr.units) (pv 0) (pe_lst (pa_cons (pe_lst (pa_cons pe_str (pa_cons (pe_op op_repA pe_str pe_int) pa_nil))) (pa_cons (pe_lst (pa_cons pe_str (pa_cons pe_int pa_nil))) pa_nil))) (nomark _))))), ?_⟩
  have z16 := sizeLine_eq
  have z2 : 2 ≤ sizeLine := by decide
  refine ⟨z2, fun a ha => ⟨a, rfl, ⟨_, SqL.of upd_same⟩, fun D hD => ?_⟩⟩
  have s1 : Same H (upd H a (.lst [.int 4000, .int 4001])) := upd_new ha
  have h1 : (upd H a (.lst [.int 4000, .int 4001])) a = some (.lst [.int 4000, .int 4001]) := upd_same
  generalize upd H a (.lst [.int 4000, .int 4001]) = H1 at s1 h1 hD ⊢
  refine lc_it (walk_list (xs := [V.int 4000, V.int 4001])) (fun i H' => Bld H1 D (xl.take i) H') (Bld.nil hD) (fun i H' _ B => SqL.of (B.same _ _ h1)) ?_ ?_
  · rintro i x _ H2 hi B ⟨rfl, hx⟩
    obtain ⟨N, hN, n1, n2, hxl⟩ : ∃ N : Nat, x = .int (N : Nat) ∧ 4000 ≤ N ∧ N ≤ 4001 ∧ xl[i]? = some [V.str (told (List.replicate N (.ch 97)) 1 1).1, (told (List.replicate N (.ch 97)) 1 1).2] := by
      match i, hx with
      | 0, hx =>
        injection hx with e
        refine ⟨4000, e.symm, Nat.le_refl _, by decide, ?_⟩
        have et : told (List.replicate 4000 (.ch 97)) 1 1 = (("returned" : Str), V.str (ptxs 1 (List.replicate 4000 (.ch 97)))) := (if_neg (by decide)).trans (if_neg (by rw [plens_rep]; decide))
        rw [et]
        rfl
      | 1, hx =>
        injection hx with e
        refine ⟨4001, e.symm, by decide, Nat.le_refl _, ?_⟩
        have et : told (List.replicate 4001 (.ch 97)) 1 1 = (("many" : Str), V.int (plens 1 (List.replicate 4001 (.ch 97)))) := (if_neg (by decide)).trans (if_pos (by rw [plens_rep]; decide))
        rw [et, plens_rep]
        rfl
      | i + 2, hx => exact nomatch hx
    subst hN
    have hi2 : i < 2 := hi
    rw [take_succ hxl]
    refine ⟨rfl, yes_go ⟨by show 1 ≤ sizeLine; omega, fun a1 ha1 => ⟨_, rfl, a1, (N : Nat), _, rfl, rfl, upd_same, by omega, by omega, by show 1 * ((N : Nat) : Int).toNat ≤ sizeLine; omega, fun L hL => ?_⟩⟩⟩
    have s2 : Same H2 (upd (upd H2 a1 (.lst [.str (Str.ofString "a")])) L (.lst (List.replicate ((N : Nat) : Int).toNat [V.str (Str.ofString "a")]).flatten)) := (upd_new ha1).trans (upd_new hL)
    have hL2 : (upd (upd H2 a1 (.lst [.str (Str.ofString "a")])) L (.lst (List.replicate ((N : Nat) : Int).toNat [V.str (Str.ofString "a")]).flatten)) L = some (.lst (List.replicate N (V.str ⟨#[97]⟩))) := by
      rw [upd_same, flat_one]
      rfl
    generalize (upd (upd H2 a1 (.lst [.str (Str.ofString "a")])) L (.lst (List.replicate ((N : Nat) : Int).toNat [V.str (Str.ofString "a")]).flatten)) = H3 at s2 hL2 ⊢
    refine ⟨.ref L, .int 1, 1, rfl, (fun z => nomatch z), .inl ⟨_, ⟨true, li_rep hL2, good_rep (c := 97) (k := N) (by decide) (by omega) (by omega)⟩, fun n' en m1 m2 p1 H4 s4 hp1 e1 => ?_, fun h => nomatch h⟩⟩
    injection en with en
    subst en
    have hp2 : H2 p1 = none := by
      cases e : H2 p1 with
      | none => rfl
      | some o => rw [s2 _ _ e] at hp1; exact nomatch hp1
    exact B.add hp2 (s2.trans s4) e1 (by rw [List.length_take]; omega)
  · intro H2 B
    have B : Bld H1 D xl H2 := B
    obtain ⟨ps, e1, ls, _⟩ := B.ex
    refine ⟨_, rfl, _, _, rfl, rfl, by decide, by decide, ?_, z2, fun b1 hb1 => ⟨z2, fun b2 hb2 => ⟨z2, fun b3 hb3 => ?_⟩⟩⟩
    · have : (Str.ofString "a").length = 1 := by decide +kernel
      rw [this]
      show 1 * (4000 : Int).toNat ≤ sizeLine
      rw [z16]
      decide
    have et := txt_rep 4000
    obtain ⟨TT, hTT⟩ : ∃ t, t = ptxs 1 (List.replicate 4000 (.ch 97)) := ⟨_, rfl⟩
    have e4 : repS (Str.ofString "a") 4000 = TT := by rw [hTT, et]; rfl
    rw [e4] at hb2 hb3 ⊢
    have lw : ∀ c ∈ TT.cps.toList, low c = true := by
      rw [hTT]
      exact ptxs_low (good_rep (c := 97) (k := 4000) (by decide) (by decide) (by decide)).wf
    have ls : LsAt H2 ps [[.str "returned", .str TT], [.str "many", .int 4001]] := by rw [hTT]; exact ls
    have nb1 : Nb (.str TT) (.str TT) := .inr ⟨_, rfl, rfl, lw⟩
    have nb2 : Nb (.int 4001) (.int 4001) := .inl ⟨_, rfl, rfl⟩
    have tr : Tx 20 (("returned" : String) : Str) := .of (by decide +kernel)
    have tm : Tx 20 (("many" : String) : Str) := .of (by decide +kernel)
    have sh : SeqAt.shaped (.list [.list [.str "returned", .str TT], .list [.str "many", .int 4001]]) = true := by
      have h1 := shaped2 tr nb1
      have h2 := shaped2 tm nb2
      unfold SeqAt.shaped at h1 h2 ⊢
      rw [Bool.and_eq_true, decide_eq_true_eq] at h1 h2 ⊢
      refine ⟨?_, ?_⟩
      · simp only [PyData.canLay0, PyData.canLayAll0] at h1 h2 ⊢
        simp only [h1.1, h2.1]
        rfl
      · show max 1 (max 1 0) + 1 ≤ 64
        decide
    have k1 := upd_new (o := .lst [.str (Str.ofString "returned"), .str TT]) hb1
    have k2 := upd_new (o := .lst [.str (Str.ofString "many"), .int 4001]) hb2
    have k3 := upd_new (o := .lst [.ref b1, .ref b2]) hb3
    have f1 := k3 _ _ (k2 _ _ (upd_same (H := H2) (a := b1) (o := .lst [.str (Str.ofString "returned"), .str TT])))
    have f2 := k3 _ _ (upd_same (H := upd H2 b1 (.lst [.str (Str.ofString "returned"), .str TT])) (a := b2) (o := .lst [.str (Str.ofString "many"), .int 4001]))
    have f3 := upd_same (H := upd (upd H2 b1 (.lst [.str (Str.ofString "returned"), .str TT])) b2 (.lst [.str (Str.ofString "many"), .int 4001])) (a := b3) (o := .lst [.ref b1, .ref b2])
    have kk := k1.trans (k2.trans k3)
    generalize (upd (upd (upd H2 b1 (.lst [.str (Str.ofString "returned"), .str TT])) b2 (.lst [.str (Str.ofString "many"), .int 4001])) b3 (.lst [.ref b1, .ref b2])) = H3 at f1 f2 f3 kk ⊢
    have dp1 : ∀ {a : Addr}, H3 a = some (.lst [.str "returned", .str TT]) → Dp K H3 (.ref a) (.list [.str "returned", .str TT]) := fun h => .lst (SqL.of h) (.cons (.str _) (.cons (.str _) .nil))
    have dp2 : ∀ {a : Addr}, H3 a = some (.lst [.str "many", .int 4001]) → Dp K H3 (.ref a) (.list [.str "many", .int 4001]) := fun h => .lst (SqL.of h) (.cons (.str _) (.cons (.int _) .nil))
    have dpL : Dp K H3 (.ref D) (.list [.list [.str "returned", .str TT], .list [.str "many", .int 4001]]) := by
      match ps, ls, e1 with
      | [x1, x2], .cons l1 (.cons l2 .nil), e1 => exact .lst (SqL.of (kk _ _ e1)) (.cons (dp1 (kk _ _ l1)) (.cons (dp2 (kk _ _ l2)) .nil))
    refine ⟨_, _, dpL, .lst (SqL.of f3) (.cons (dp1 f1) (.cons (dp2 f2) .nil)), sh, sh, ?_⟩
    rw [eqv_self sh]
    exact q _ (s1.trans (B.same.trans kk))
end
end KP

namespace KP
open PySem L2 Gd Zn KM
section
variable {P : Program} {w : World} {K : PySem.W.Frag} {mg : Str → Option Value} {base : Heap} {C_I f_I C_P f_P C_M f_M : Addr}
abbrev slaw : Stmt := top 36
theorem sclaw : FnScope ["_law_script", "_law_k", "_law_box_here", "_law_deep", "_law_turn", "_law_some", "_law_pattern"] ["_law_script"] (defScope slaw) := ⟨rfl, rfl, rfl, by decide +kernel, rfl, by decide +kernel, by decide +kernel⟩
theorem ok_law {f f1 f2 f3 f4 f5 f6 : Addr} {fd fd1 fd2 fd3 fd4 fd5 fd6 : FuncData} (F : Fun K "law" "law" slaw f fd) (T : Txt K mg base C_I f_I C_P f_P C_M f_M)
    (D__law_cell : Df P w K mg base CX0 1 "_law_cell" f1 fd1 ["_law_script", "_law_k"] (spScr K)) (D__law_box : Df P w K mg base CX0 1 "_law_box" f2 fd2 ["_law_cell_here"] spBox)
    (D__law_take : Df P w K mg base CX0 1 "_law_take" f3 fd3 ["_law_box_here", "_law_size_here"] spTake) (D__law_drawn : Df P w K mg base CX0 7 "_law_drawn" f4 fd4 ["_law_box_here", "_law_deep"] (spDrawn 5))
    (D__law_right : Df P w K mg base CX0 108 "_law_right" f5 fd5 ["_law_box_here", "_law_pattern"] spRight) (D__law_long_right : Df P w K mg base CX0 108 "_law_long_right" f6 fd6 [] spLong) :
    FnG P w K mg base CX0 109 f fd ["_law_script"] (spLaw K) := by
  refine okG F sclaw (fun vs H Q E h => ?_) (fun cdv A outer s H vs Q E hc hr h => ?_)
  · obtain ⟨a, ns, rfl, _⟩ := h
    rfl
  obtain ⟨a, ns, rfl, ha, hns, q⟩ := h
  refine ⟨_, (pss_cons (ps_if (pt_not (pt_val (pe_d0 D__law_long_right hc (hr.mono (by omega)) (by rfl) (fun _ => passN))))
  (pss_one (ps_ret pe_bl)) pss_nil)
 (pss_cons (ps_for (passes_of rfl) rfl (pi_range1 rfl T.z_range (pa_cons (pe_callB (call_max2 rfl) (by rfl) T.z_max (by decide +kernel) (pa_cons pe_int (pa_cons (pe_callB (call_min2 rfl) (by rfl) T.z_min (by decide +kernel) (pa_cons (pe_callB call_len_seq (by rfl) T.z_len (by decide +kernel) (pa_cons (pv 0) pa_nil)) (pa_cons pe_int pa_nil))) pa_nil))) pa_nil)) (pg_name (i := 1) sclaw.nd rfl (Or.inl rfl))
  (pss_cons (ps_set (i := 2) sclaw.nd rfl (Or.inr rfl) (pe_d D__law_box hc (hr.mono (by omega)) (by rfl) (fun _ => passN) (pa_cons (pe_d D__law_cell hc (hr.mono (by omega)) (by rfl) (fun _ => passN) (pa_cons (pv 0) (pa_cons (pv 1) pa_nil))) pa_nil)))
 (pss_cons (ps_set (i := 3) sclaw.nd rfl (Or.inl rfl) (pe_lst (pa_cons (pe_tup (pa_cons pe_str (pa_cons (pe_lst (pa_cons pe_str pa_nil)) pa_nil))) pa_nil)))
 (pss_cons (ps_for (passes_of rfl) rfl (pi_range1 rfl T.z_range (pa_cons pe_int pa_nil)) (pg_name (i := 4) sclaw.nd rfl (Or.inl rfl))
  (pss_one (ps_set (i := 3) sclaw.nd rfl (Or.inl rfl) (pe_lst (pa_cons (pe_tup (pa_cons pe_str (pa_cons (pv 3) pa_nil))) pa_nil)))))
 (pss_cons (ps_set (i := 5) sclaw.nd rfl (Or.inl rfl) (pe_op op_cat (pe_lc (own := [("_law_turn", 4)]) (g := gName 4) rfl sclaw.nd (pi_range1 rfl T.z_range (pa_cons pe_int pa_nil)) (blkOk_by (N := ["_law_script", "_law_k", "_law_box_here", "_law_deep", "_law_turn", "_law_some", "_law_pattern"]) (sc := defScope slaw) (by decide +kernel)) (fun _ _ _ _ _ => pg_name (i := 4) sclaw.nd rfl (Or.inl rfl)) (fun _ _ _ _ _ => pts_nil) (fun _ _ _ _ _ => (pe_d D__law_drawn hc (hr.mono (by omega)) (by rfl) (fun _ => passN) (pa_cons (pv 2) (pa_cons (pe_d D__law_take hc (hr.mono (by omega)) (by rfl) (fun _ => passN) (pa_cons (pv 2) (pa_cons pe_int pa_nil))) pa_nil))))) (pe_lst (pa_cons (pe_op op_rep (pe_lst (pa_cons pe_str pa_nil)) (pe_op op_add pe_int (pe_d D__law_take hc (hr.mono (by omega)) (by rfl) (fun _ => passN) (pa_cons (pv 2) (pa_cons pe_int pa_nil))))) (pa_cons (pv 3) pa_nil)))))
 (pss_cons (ps_expr (pe_bm PySem.F.plainAttrs_list PySem.F.slot_list_append PySem.F.type_list_append mt_append (pv 5) (pa_cons (pe_lst (pa_cons (pe_tup (pa_cons pe_str (pa_cons (pe_op op_rep (pe_lst (pa_cons pe_str pa_nil)) (pe_op op_add pe_int (pe_d D__law_take hc (hr.mono (by omega)) (by rfl) (fun _ => passN) (pa_cons (pv 2) (pa_cons pe_int pa_nil))))) pa_nil))) pa_nil)) pa_nil)))
 (pss_one (ps_for (passes_of rfl) rfl (pi_list (pv 5)) (pg_name (i := 6) sclaw.nd rfl (Or.inl rfl))
  (pss_one (ps_if (pt_not (pt_val (pe_d D__law_right hc (hr.mono (by omega)) (by rfl) (fun _ => passN) (pa_cons (pv 2) (pa_cons (pv 6) pa_nil)))))
  (pss_one (ps_ret pe_bl)) pss_nil))))))))))
 (pss_one (ps_ret pe_bl)))), ?_⟩
  have z16 := sizeLine_eq
  have z1 : 1 ≤ sizeLine := by decide
  have z2 : 2 ≤ sizeLine := by decide
  refine ⟨rfl, fun H0 s0 => ⟨_, rfl, iteF ?_⟩⟩
  have ha := s0.seq ha
  refine ⟨_, rfl, a, _, rfl, .inl ha, _, _, rfl, _, _, rfl, _, rfl, ?_, ?_, ?_⟩
  · split <;> split <;> omega
  · split <;> split <;> omega
  refine for_range (fun i σ H' => ∃ o1 o2 o3 o4 o5 o6, σ = [some (.ref a), o1, o2, o3, o4, o5, o6] ∧ SqL K H' a (ns.map V.int)) ⟨none, none, none, none, none, none, rfl, ha⟩ ?_ (fun _ _ _ => q _)
  rintro i _ H1 hi ⟨o1, o2, o3, o4, o5, o6, rfl, h1⟩
  have hi8 : i < 1000 := by
    refine Nat.lt_of_lt_of_le hi ?_
    split <;> split <;> omega
  refine ⟨_, rfl, _, rfl, a, ns, _, rfl, h1, ?_, ?_, fun z => ⟨z, rfl, fun p o hp hb => ?_⟩⟩
  · omega
  · omega
  have P0 := pool0 hb
  have back : ∀ {G H'}, Same (Gp (upd H1 p o) p) G → Pool G H' p → Same H1 H' := fun {G H'} s P b u e => by
    have n1 := ne_of_none e hp
    exact P.s _ _ (s _ _ (gp_at n1 (by rw [upd_ne n1]; exact e)))
  generalize Gp (upd H1 p o) p = G0 at P0 back
  generalize upd H1 p o = H2 at P0
  -- the deep one
  refine ⟨z1, fun q1 hq1 => ⟨z2, fun t1 ht1 => ⟨z1, fun q2 hq2 => ?_⟩⟩⟩
  have P1 := P0.new (o := .lst [.str (Str.ofString "a")]) hq1
  have s1 : Same G0 (upd G0 q1 (.lst [.str (Str.ofString "a")])) := upd_new (P0.fresh hq1)
  have L1 : LiAt (upd G0 q1 (.lst [.str (Str.ofString "a")])) true (.ref q1) [.ch 97] := li_rep (k := 1) (upd_same)
  obtain ⟨P2, s2, L2'⟩ := pool_rep P1 L1 ht1 hq2
  have s02 := s1.trans s2
  generalize (upd (upd (upd G0 q1 (.lst [.str (Str.ofString "a")])) t1 (.tup [.str sRep, .ref q1])) q2 (.lst [.ref t1])) = G1 at P2 L2' s02
  refine ⟨99, rfl, by decide, by decide, ?_⟩
  refine for_range (n := 99) (fun j σ H' => ∃ o4 v G, σ = [some (.ref a), some (.int (0 + (i : Nat))), some (.ref p), some v, o4, o5, o6] ∧ Pool G H' p ∧ Same G0 G ∧ LiAt G true v (dpt j)) ⟨_, _, _, rfl, P2, s02, L2'⟩ ?_ ?_
  · rintro j _ H3 hj ⟨o4, v, G, rfl, P3, s3, L3⟩
    refine ⟨_, rfl, z2, fun t ht => ⟨z1, fun q hq => ?_⟩⟩
    obtain ⟨P4, s4, L4⟩ := pool_rep P3 L3 ht hq
    exact ⟨_, _, _, rfl, P4, s3.trans s4, L4⟩
  rintro _ H3 ⟨o4, v, G, rfl, P3, s3, L3⟩
  have gD : Good 5000 100 (dpt 99) := by
    obtain ⟨e1, e2, e3, e4⟩ := dpt_good 99
    exact ⟨by omega, e2, by omega, by omega⟩
  -- four drawn ones
  refine ⟨4, rfl, by decide, by decide, fun D hD => ?_⟩
  refine lc_it (walk_range (lo := 0) (n := 4)) (fun j H' => ∃ us G', Sm p D us G' H' ∧ us.length = j ∧ Same G G') ⟨[], G, Sm.start P3 hD, rfl, Same.refl G⟩ (fun _ _ _ _ => trivial) ?_ ?_
  · rintro j _ _ H4 hj ⟨us, G', m, lu, sG⟩ ⟨rfl, rfl⟩
    refine ⟨rfl, yes_go ⟨_, rfl, _, rfl, p, 6, rfl, m.P.b, by decide, by decide, fun d H5 d0 d1 t5 => ?_⟩⟩
    have m5 := m.take t5
    refine ⟨p, d, rfl, m5.P.b, d0, by show d ≤ (5 : Nat); omega, fun v5 H6 G6 l6 k6 f6 L6 g6 => ?_⟩
    obtain ⟨m6, a1, a2⟩ := m5.draw k6 f6
    have n5 : Nn 5 = 1092 := by decide
    exact ⟨us, m6.at_, by omega, us ++ [v5], _, m6.push (L6.same a2) (g6.up (by omega) (by decide)), by rw [List.length_append, lu]; rfl, sG.trans a1⟩
  rintro H4 ⟨us, G4, m4, lu4, s4⟩
  refine ⟨z1, fun a1 ha1 => ⟨_, rfl, p, 11, rfl, (m4.new (o := .lst [.str (Str.ofString "a")]) ha1).P.b, by decide, by decide, fun d H5 d0 d1 t5 => ?_⟩⟩
  have m5 := (m4.new (o := .lst [.str (Str.ofString "a")]) ha1).take t5
  have a1p : a1 ≠ p := m4.P.ne ha1
  have s45 : Same G4 (upd G4 a1 (.lst [.str (Str.ofString "a")])) := upd_new (m4.P.fresh ha1)
  have h5 : H5 a1 = some (.lst [.str (Str.ofString "a")]) := by rw [t5.2 a1 a1p]; exact upd_same
  refine ⟨_, _, rfl, rfl, a1, 190 + d, _, rfl, rfl, h5, by omega, by omega, by show 1 * (190 + d).toNat ≤ sizeLine; omega, fun L hL => ⟨_, rfl, z2, fun M hM => ?_⟩⟩
  have m6 := m5.new (o := .lst (List.replicate (190 + d).toNat [V.str (Str.ofString "a")]).flatten) hL
  have s56 : Same (upd G4 a1 (.lst [.str (Str.ofString "a")])) (upd (upd G4 a1 (.lst [.str (Str.ofString "a")])) L (.lst (List.replicate (190 + d).toNat [V.str (Str.ofString "a")]).flatten)) := upd_new (m5.P.fresh hL)
  have L6 : LiAt (upd (upd G4 a1 (.lst [.str (Str.ofString "a")])) L (.lst (List.replicate (190 + d).toNat [V.str (Str.ofString "a")]).flatten)) true (.ref L) (List.replicate (190 + d).toNat (.ch 97)) := li_rep (by rw [upd_same, flat_one]; rfl)
  have g6 : Good 5000 100 (List.replicate (190 + d).toNat (.ch 97)) := good_rep (by decide) (by omega) (by omega)
  have s06 : Same G (upd (upd G4 a1 (.lst [.str (Str.ofString "a")])) L (.lst (List.replicate (190 + d).toNat [V.str (Str.ofString "a")]).flatten)) := s4.trans (s45.trans s56)
  generalize (upd (upd G4 a1 (.lst [.str (Str.ofString "a")])) L (.lst (List.replicate (190 + d).toNat [V.str (Str.ofString "a")]).flatten)) = G6 at m6 L6 s06
  generalize upd H5 L (.lst (List.replicate (190 + d).toNat [V.str (Str.ofString "a")]).flatten) = H6 at m6 hM ⊢
  have m7 := m6.new (o := .lst [.ref L, v]) hM
  have s67 : Same G6 (upd G6 M (.lst [.ref L, v])) := upd_new (m6.P.fresh hM)
  have h7 : (upd H6 M (.lst [.ref L, v])) M = some (.lst [.ref L, v]) := upd_same
  have L7 := L6.same s67
  have s07 := s06.trans s67
  have V7 := L3.same s07
  generalize upd G6 M (.lst [.ref L, v]) = G7 at m7 L7 s07 V7
  generalize upd H6 M (.lst [.ref L, v]) = H7 at m7 h7 ⊢
  refine ⟨D, M, _, _, rfl, rfl, m7.at_, h7, by show us.length + 2 ≤ sizeLine; omega, fun S hS => ?_⟩
  have m8 := m7.cat (ms := [.ref L, v]) hS (fun u hu => by
    simp only [List.mem_cons, List.not_mem_nil, or_false] at hu
    rcases hu with rfl | rfl
    · exact ⟨_, L7, g6⟩
    · exact ⟨_, V7, gD⟩)
  generalize upd H7 S (.lst (us ++ [.ref L, v])) = H8 at m8 ⊢
  -- one repetition
  refine ⟨_, rfl, .inl ⟨rfl, _, SqL.of m8.at_⟩, z1, fun b1 hb1 => ⟨_, rfl, p, 199, rfl, (m8.new (o := .lst [.str (Str.ofString "b")]) hb1).P.b, by decide, by decide, fun e H9 e0 e1 t9 => ?_⟩⟩
  have m9 := (m8.new (o := .lst [.str (Str.ofString "b")]) hb1).take t9
  have b1p : b1 ≠ p := m8.P.ne hb1
  have s89 : Same G7 (upd G7 b1 (.lst [.str (Str.ofString "b")])) := upd_new (m8.P.fresh hb1)
  have h9 : H9 b1 = some (.lst [.str (Str.ofString "b")]) := by rw [t9.2 b1 b1p]; exact upd_same
  refine ⟨_, _, rfl, rfl, b1, 1 + e, _, rfl, rfl, h9, by omega, by omega, by show 1 * (1 + e).toNat ≤ sizeLine; omega, fun B hB => ⟨z2, fun t ht => ⟨z1, fun q0 hq0 => ?_⟩⟩⟩
  have m10 := m9.new (o := .lst (List.replicate (1 + e).toNat [V.str (Str.ofString "b")]).flatten) hB
  have s910 : Same (upd G7 b1 (.lst [.str (Str.ofString "b")])) (upd (upd G7 b1 (.lst [.str (Str.ofString "b")])) B (.lst (List.replicate (1 + e).toNat [V.str (Str.ofString "b")]).flatten)) := upd_new (m9.P.fresh hB)
  have L10 : LiAt (upd (upd G7 b1 (.lst [.str (Str.ofString "b")])) B (.lst (List.replicate (1 + e).toNat [V.str (Str.ofString "b")]).flatten)) true (.ref B) (List.replicate (1 + e).toNat (.ch 98)) := li_rep (by rw [upd_same, flat_one]; rfl)
  have g10 : Good 5000 100 (List.replicate (1 + e).toNat (.ch 98)) := good_rep (by decide) (by omega) (by omega)
  have n10 : nods (List.replicate (1 + e).toNat (.ch 98)) ≤ 200 := by
    have := (good_rep (c := 98) (k := (1 + e).toNat) (by decide) (by omega) (by omega))
    have e2 : ∀ k : Nat, nods (List.replicate k (.ch 98)) = k := by
      intro k
      induction k with
      | zero => rfl
      | succ k ih =>
        rw [List.replicate_succ]
        show 1 + nods (List.replicate k (.ch 98)) = k + 1
        rw [ih]
        omega
    rw [e2]
    omega
  have d10 : deps (List.replicate (1 + e).toNat (.ch 98)) = 0 := by
    have e2 : ∀ k : Nat, deps (List.replicate k (.ch 98)) = 0 := by
      intro k
      induction k with
      | zero => rfl
      | succ k ih =>
        rw [List.replicate_succ]
        show max 0 (deps (List.replicate k (.ch 98))) = 0
        rw [ih]
        rfl
    exact e2 _
  have s010 := s07.trans (s89.trans s910)
  generalize (upd (upd G7 b1 (.lst [.str (Str.ofString "b")])) B (.lst (List.replicate (1 + e).toNat [V.str (Str.ofString "b")]).flatten)) = G10 at m10 L10 s010
  generalize upd H9 B (.lst (List.replicate (1 + e).toNat [V.str (Str.ofString "b")]).flatten) = H10 at m10 ht hq0 ⊢
  obtain ⟨G11, m11, s11, L11⟩ := m10.rep L10 ht hq0
  have g11 : Good 5000 100 [.rep (List.replicate (1 + e).toNat (.ch 98))] := ⟨Nat.le_refl _, ⟨⟨g10.ne, g10.wf⟩, trivial⟩, by show max (deps (List.replicate (1 + e).toNat (.ch 98)) + 1) 0 ≤ 100; omega, by show (nods (List.replicate (1 + e).toNat (.ch 98)) + 1) + 0 ≤ 5000; omega⟩
  have m12 := m11.push L11 g11
  have s012 := s010.trans s11
  refine ⟨S, _, _, rfl, rfl, m11.at_, by rw [List.length_append]; show us.length + 2 < sizeLine; omega, ?_⟩
  generalize (us ++ [V.ref L, v] ++ [V.ref q0]) = ws at m12 ⊢
  generalize (upd (upd (upd H10 t (.tup [.str sRep, .ref B])) q0 (.lst [.ref t])) S (.lst ws)) = H12 at m12 ⊢
  refine ⟨_, rfl, S, rfl, ⟨_, SqL.of m12.at_⟩, ?_⟩
  refine for_list (xs := ws) (fun j σ H' => ∃ o6, σ = [some (.ref a), some (.int (0 + (i : Nat))), some (.ref p), some v, o4, some (.ref S), o6] ∧ Sm p S ws G11 H') ⟨_, rfl, m12⟩ (fun j σ H' _ ⟨_, _, m⟩ => SqL.of m.at_) ?_ ?_
  · rintro j x _ H13 hx ⟨o6, rfl, m⟩
    obtain ⟨l, hl, g⟩ := m.all x (List.mem_of_getElem? hx)
    exact ⟨_, rfl, _, rfl, p, x, l, G11, rfl, m.P, hl, g, fun H14 k14 => ⟨_, rfl, iteF ⟨_, rfl, m.kept k14⟩⟩⟩
  · rintro _ H13 ⟨o6, rfl, m⟩
    exact ⟨_, _, _, _, _, _, rfl, (back (s3.trans s012) m.P).seq h1⟩
end
end KP

namespace KP
open PySem PySem.Spec PyProof.Rows L2 Gd Zn KM
theorem exm_noG {K : PySem.W.Frag} {C S : Addr} (h1 : PySem.W.subIn K (.ref S) (.type "BaseException") = some true) (h2 : PySem.W.isClsIn K S = true) (h3 : PySem.W.typeIn K (.ref S) = some (.type "type")) (h4 : PySem.W.subIn K (.ref C) (.ref S) = some false) :
    PySem.W.exmOne K (.ref C) (.ref S) = some false := by
  have e1 : (PySem.W.subIn K (.ref S) (.type "BaseException") == some true) = true := by rw [h1] <;> rfl
  have e2 : ((PySem.W.clsIn K S).isSome && PySem.W.typeIn K (.ref S) == some (.type "type")) = true := by
    have h2' : (PySem.W.clsIn K S).isSome = true := h2
    rw [h2', h3] <;> rfl
  show (if (PySem.W.subIn K (.ref S) (.type "BaseException") == some true) = true then (if ((PySem.W.clsIn K S).isSome && PySem.W.typeIn K (.ref S) == some (.type "type")) = true then PySem.W.subIn K (.ref C) (.ref S) else none) else none) = some false
  rw [if_pos e1, if_pos e2]
  exact h4
theorem exm_selfG {K : PySem.W.Frag} {S : Addr} (h1 : PySem.W.subIn K (.ref S) (.type "BaseException") = some true) (h2 : PySem.W.isClsIn K S = true) (h3 : PySem.W.typeIn K (.ref S) = some (.type "type")) (h4 : PySem.W.subIn K (.ref S) (.ref S) = some true) :
    PySem.W.exmOne K (.ref S) (.ref S) = some true := by
  have e1 : (PySem.W.subIn K (.ref S) (.type "BaseException") == some true) = true := by rw [h1] <;> rfl
  have e2 : ((PySem.W.clsIn K S).isSome && PySem.W.typeIn K (.ref S) == some (.type "type")) = true := by
    have h2' : (PySem.W.clsIn K S).isSome = true := h2
    rw [h2', h3] <;> rfl
  show (if (PySem.W.subIn K (.ref S) (.type "BaseException") == some true) = true then (if ((PySem.W.clsIn K S).isSome && PySem.W.typeIn K (.ref S) == some (.type "type")) = true then PySem.W.subIn K (.ref S) (.ref S) else none) else none) = some true
  rw [if_pos e1, if_pos e2]
  exact h4
open PySem.W in
theorem all_mk {P : Program} {w : World} {K : PySem.W.Frag} {h : Heap} {mg : Str → Option Value} {fa : Addr} (X : K.In h) (G : h.Ns mainGlobals mg) (hfa : mg "law" = some (.ref fa))
    {f0 : Addr} {od0 an0 : Option Addr} {sl0 : Array (Option Value)} {oc0 kV0 dc0 pm0 cd0 ct0 : Value}
    {f1 : Addr} {od1 an1 : Option Addr} {sl1 : Array (Option Value)} {oc1 kV1 dc1 pm1 cd1 ct1 : Value}
    {f2 : Addr} {od2 an2 : Option Addr} {sl2 : Array (Option Value)} {oc2 kV2 dc2 pm2 cd2 ct2 : Value}
    {f3 : Addr} {od3 an3 : Option Addr} {sl3 : Array (Option Value)} {oc3 kV3 dc3 pm3 cd3 ct3 : Value}
    {f4 : Addr} {od4 an4 : Option Addr} {sl4 : Array (Option Value)} {oc4 kV4 dc4 pm4 cd4 ct4 : Value}
    {f5 : Addr} {od5 an5 : Option Addr} {sl5 : Array (Option Value)} {oc5 kV5 dc5 pm5 cd5 ct5 : Value}
    {f6 : Addr} {od6 an6 : Option Addr} {sl6 : Array (Option Value)} {oc6 kV6 dc6 pm6 cd6 ct6 : Value}
    {f7 : Addr} {od7 an7 : Option Addr} {sl7 : Array (Option Value)} {oc7 kV7 dc7 pm7 cd7 ct7 : Value}
    {f8 : Addr} {od8 an8 : Option Addr} {sl8 : Array (Option Value)} {oc8 kV8 dc8 pm8 cd8 ct8 : Value}
    {f9 : Addr} {od9 an9 : Option Addr} {sl9 : Array (Option Value)} {oc9 kV9 dc9 pm9 cd9 ct9 : Value}
    {f10 : Addr} {od10 an10 : Option Addr} {sl10 : Array (Option Value)} {oc10 kV10 dc10 pm10 cd10 ct10 : Value}
    {f11 : Addr} {od11 an11 : Option Addr} {sl11 : Array (Option Value)} {oc11 kV11 dc11 pm11 cd11 ct11 : Value}
    {f12 : Addr} {od12 an12 : Option Addr} {sl12 : Array (Option Value)} {oc12 kV12 dc12 pm12 cd12 ct12 : Value}
    {f13 : Addr} {od13 an13 : Option Addr} {sl13 : Array (Option Value)} {oc13 kV13 dc13 pm13 cd13 ct13 : Value}
    {f14 : Addr} {od14 an14 : Option Addr} {sl14 : Array (Option Value)} {oc14 kV14 dc14 pm14 cd14 ct14 : Value}
    {f15 : Addr} {od15 an15 : Option Addr} {sl15 : Array (Option Value)} {oc15 kV15 dc15 pm15 cd15 ct15 : Value}
    {f16 : Addr} {od16 an16 : Option Addr} {sl16 : Array (Option Value)} {oc16 kV16 dc16 pm16 cd16 ct16 : Value}
    {f17 : Addr} {od17 an17 : Option Addr} {sl17 : Array (Option Value)} {oc17 kV17 dc17 pm17 cd17 ct17 : Value}
    {f18 : Addr} {od18 an18 : Option Addr} {sl18 : Array (Option Value)} {oc18 kV18 dc18 pm18 cd18 ct18 : Value}
    {f19 : Addr} {od19 an19 : Option Addr} {sl19 : Array (Option Value)} {oc19 kV19 dc19 pm19 cd19 ct19 : Value}
    {f20 : Addr} {od20 an20 : Option Addr} {sl20 : Array (Option Value)} {oc20 kV20 dc20 pm20 cd20 ct20 : Value}
    {f21 : Addr} {od21 an21 : Option Addr} {sl21 : Array (Option Value)} {oc21 kV21 dc21 pm21 cd21 ct21 : Value}
    {f22 : Addr} {od22 an22 : Option Addr} {sl22 : Array (Option Value)} {oc22 kV22 dc22 pm22 cd22 ct22 : Value}
    {CI gI NI : Addr} {nmI qI : Str} {bsI : List Value} {snI : List Str} {subI : List Value} {abI : Bool} {colI : Option Bool} {ddI : Option Addr} {m0I m1I m2I m3I m5I : Option Value} {bmI : List Value} {ocI dcI pmI cdI ctI : Value} {odI anI : Option Addr} {slI : Array (Option Value)} {p1I p2I q1I q2I q3I q4I : Pos}
    {CP gP NP : Addr} {nmP qP : Str} {bsP : List Value} {snP : List Str} {subP : List Value} {abP : Bool} {colP : Option Bool} {ddP : Option Addr} {m0P m1P m2P m3P m5P : Option Value} {bmP : List Value} {ocP dcP pmP cdP ctP : Value} {odP anP : Option Addr} {slP : Array (Option Value)} {p1P p2P q1P q2P q3P q4P : Pos}
    {CM gM NM : Addr} {nmM qM : Str} {bsM : List Value} {snM : List Str} {subM : List Value} {abM : Bool} {colM : Option Bool} {ddM : Option Addr} {m0M m1M m2M m3M m5M : Option Value} {bmM : List Value} {ocM dcM pmM cdM ctM : Value} {odM anM : Option Addr} {slM : Array (Option Value)} {p1M p2M q1M q2M q3M q4M : Pos}
    {gNt gTt gLt gRt : Tok}
    (a0 : PySem.W.nsIn K mainGlobals "is_integer" = some (some (.ref f0)))
    (l0 : K.lookup f0 = some ⟨oc0, od0, .func (PySem.W.fnOf "is_integer" "is_integer" (defArgs sis_integer) (defBody sis_integer) (defScope sis_integer) .none kV0 dc0 pm0 an0 cd0 ct0), sl0⟩)
    (c0 : PySem.W.codeIn K cd0 "is_integer" = true)
    (k0 : PySem.W.keepIn K (.ref f0) = true)
    (a1 : PySem.W.nsIn K mainGlobals "is_letter" = some (some (.ref f1)))
    (l1 : K.lookup f1 = some ⟨oc1, od1, .func (PySem.W.fnOf "is_letter" "is_letter" (defArgs sis_letter) (defBody sis_letter) (defScope sis_letter) .none kV1 dc1 pm1 an1 cd1 ct1), sl1⟩)
    (c1 : PySem.W.codeIn K cd1 "is_letter" = true)
    (k1 : PySem.W.keepIn K (.ref f1) = true)
    (a2 : PySem.W.nsIn K mainGlobals "is_list" = some (some (.ref f2)))
    (l2 : K.lookup f2 = some ⟨oc2, od2, .func (PySem.W.fnOf "is_list" "is_list" (defArgs sis_list) (defBody sis_list) (defScope sis_list) .none kV2 dc2 pm2 an2 cd2 ct2), sl2⟩)
    (c2 : PySem.W.codeIn K cd2 "is_list" = true)
    (k2 : PySem.W.keepIn K (.ref f2) = true)
    (a3 : PySem.W.nsIn K mainGlobals "require_integer" = some (some (.ref f3)))
    (l3 : K.lookup f3 = some ⟨oc3, od3, .func (PySem.W.fnOf "require_integer" "require_integer" (defArgs srequire_integer) (defBody srequire_integer) (defScope srequire_integer) .none kV3 dc3 pm3 an3 cd3 ct3), sl3⟩)
    (c3 : PySem.W.codeIn K cd3 "require_integer" = true)
    (k3 : PySem.W.keepIn K (.ref f3) = true)
    (a4 : PySem.W.nsIn K mainGlobals "is_pattern" = some (some (.ref f4)))
    (l4 : K.lookup f4 = some ⟨oc4, od4, .func (PySem.W.fnOf "is_pattern" "is_pattern" (defArgs sis_pattern) (defBody sis_pattern) (defScope sis_pattern) .none kV4 dc4 pm4 an4 cd4 ct4), sl4⟩)
    (c4 : PySem.W.codeIn K cd4 "is_pattern" = true)
    (k4 : PySem.W.keepIn K (.ref f4) = true)
    (a5 : PySem.W.nsIn K mainGlobals "is_pattern_within" = some (some (.ref f5)))
    (l5 : K.lookup f5 = some ⟨oc5, od5, .func (PySem.W.fnOf "is_pattern_within" "is_pattern_within" (defArgs sis_pattern_within) (defBody sis_pattern_within) (defScope sis_pattern_within) .none kV5 dc5 pm5 an5 cd5 ct5), sl5⟩)
    (c5 : PySem.W.codeIn K cd5 "is_pattern_within" = true)
    (k5 : PySem.W.keepIn K (.ref f5) = true)
    (a6 : PySem.W.nsIn K mainGlobals "is_repetition" = some (some (.ref f6)))
    (l6 : K.lookup f6 = some ⟨oc6, od6, .func (PySem.W.fnOf "is_repetition" "is_repetition" (defArgs sis_repetition) (defBody sis_repetition) (defScope sis_repetition) .none kV6 dc6 pm6 an6 cd6 ct6), sl6⟩)
    (c6 : PySem.W.codeIn K cd6 "is_repetition" = true)
    (k6 : PySem.W.keepIn K (.ref f6) = true)
    (a7 : PySem.W.nsIn K mainGlobals "require_pattern" = some (some (.ref f7)))
    (l7 : K.lookup f7 = some ⟨oc7, od7, .func (PySem.W.fnOf "require_pattern" "require_pattern" (defArgs srequire_pattern) (defBody srequire_pattern) (defScope srequire_pattern) .none kV7 dc7 pm7 an7 cd7 ct7), sl7⟩)
    (c7 : PySem.W.codeIn K cd7 "require_pattern" = true)
    (k7 : PySem.W.keepIn K (.ref f7) = true)
    (a8 : PySem.W.nsIn K mainGlobals "pattern_length" = some (some (.ref f8)))
    (l8 : K.lookup f8 = some ⟨oc8, od8, .func (PySem.W.fnOf "pattern_length" "pattern_length" (defArgs spattern_length) (defBody spattern_length) (defScope spattern_length) .none kV8 dc8 pm8 an8 cd8 ct8), sl8⟩)
    (c8 : PySem.W.codeIn K cd8 "pattern_length" = true)
    (k8 : PySem.W.keepIn K (.ref f8) = true)
    (a9 : PySem.W.nsIn K mainGlobals "length_of" = some (some (.ref f9)))
    (l9 : K.lookup f9 = some ⟨oc9, od9, .func (PySem.W.fnOf "length_of" "length_of" (defArgs slength_of) (defBody slength_of) (defScope slength_of) .none kV9 dc9 pm9 an9 cd9 ct9), sl9⟩)
    (c9 : PySem.W.codeIn K cd9 "length_of" = true)
    (k9 : PySem.W.keepIn K (.ref f9) = true)
    (a10 : PySem.W.nsIn K mainGlobals "pattern_text" = some (some (.ref f10)))
    (l10 : K.lookup f10 = some ⟨oc10, od10, .func (PySem.W.fnOf "pattern_text" "pattern_text" (defArgs spattern_text) (defBody spattern_text) (defScope spattern_text) .none kV10 dc10 pm10 an10 cd10 ct10), sl10⟩)
    (c10 : PySem.W.codeIn K cd10 "pattern_text" = true)
    (k10 : PySem.W.keepIn K (.ref f10) = true)
    (a11 : PySem.W.nsIn K mainGlobals "text_of" = some (some (.ref f11)))
    (l11 : K.lookup f11 = some ⟨oc11, od11, .func (PySem.W.fnOf "text_of" "text_of" (defArgs stext_of) (defBody stext_of) (defScope stext_of) .none kV11 dc11 pm11 an11 cd11 ct11), sl11⟩)
    (c11 : PySem.W.codeIn K cd11 "text_of" = true)
    (k11 : PySem.W.keepIn K (.ref f11) = true)
    (a12 : PySem.W.nsIn K mainGlobals "_law_cell" = some (some (.ref f12)))
    (l12 : K.lookup f12 = some ⟨oc12, od12, .func (PySem.W.fnOf "_law_cell" "_law_cell" (defArgs s_law_cell) (defBody s_law_cell) (defScope s_law_cell) .none kV12 dc12 pm12 an12 cd12 ct12), sl12⟩)
    (c12 : PySem.W.codeIn K cd12 "_law_cell" = true)
    (k12 : PySem.W.keepIn K (.ref f12) = true)
    (a13 : PySem.W.nsIn K mainGlobals "_law_box" = some (some (.ref f13)))
    (l13 : K.lookup f13 = some ⟨oc13, od13, .func (PySem.W.fnOf "_law_box" "_law_box" (defArgs s_law_box) (defBody s_law_box) (defScope s_law_box) .none kV13 dc13 pm13 an13 cd13 ct13), sl13⟩)
    (c13 : PySem.W.codeIn K cd13 "_law_box" = true)
    (k13 : PySem.W.keepIn K (.ref f13) = true)
    (a14 : PySem.W.nsIn K mainGlobals "_law_take" = some (some (.ref f14)))
    (l14 : K.lookup f14 = some ⟨oc14, od14, .func (PySem.W.fnOf "_law_take" "_law_take" (defArgs s_law_take) (defBody s_law_take) (defScope s_law_take) .none kV14 dc14 pm14 an14 cd14 ct14), sl14⟩)
    (c14 : PySem.W.codeIn K cd14 "_law_take" = true)
    (k14 : PySem.W.keepIn K (.ref f14) = true)
    (a15 : PySem.W.nsIn K mainGlobals "_law_drawn" = some (some (.ref f15)))
    (l15 : K.lookup f15 = some ⟨oc15, od15, .func (PySem.W.fnOf "_law_drawn" "_law_drawn" (defArgs s_law_drawn) (defBody s_law_drawn) (defScope s_law_drawn) .none kV15 dc15 pm15 an15 cd15 ct15), sl15⟩)
    (c15 : PySem.W.codeIn K cd15 "_law_drawn" = true)
    (k15 : PySem.W.keepIn K (.ref f15) = true)
    (a16 : PySem.W.nsIn K mainGlobals "_law_size" = some (some (.ref f16)))
    (l16 : K.lookup f16 = some ⟨oc16, od16, .func (PySem.W.fnOf "_law_size" "_law_size" (defArgs s_law_size) (defBody s_law_size) (defScope s_law_size) .none kV16 dc16 pm16 an16 cd16 ct16), sl16⟩)
    (c16 : PySem.W.codeIn K cd16 "_law_size" = true)
    (k16 : PySem.W.keepIn K (.ref f16) = true)
    (a17 : PySem.W.nsIn K mainGlobals "_law_text" = some (some (.ref f17)))
    (l17 : K.lookup f17 = some ⟨oc17, od17, .func (PySem.W.fnOf "_law_text" "_law_text" (defArgs s_law_text) (defBody s_law_text) (defScope s_law_text) .none kV17 dc17 pm17 an17 cd17 ct17), sl17⟩)
    (c17 : PySem.W.codeIn K cd17 "_law_text" = true)
    (k17 : PySem.W.keepIn K (.ref f17) = true)
    (a18 : PySem.W.nsIn K mainGlobals "_law_turned" = some (some (.ref f18)))
    (l18 : K.lookup f18 = some ⟨oc18, od18, .func (PySem.W.fnOf "_law_turned" "_law_turned" (defArgs s_law_turned) (defBody s_law_turned) (defScope s_law_turned) .none kV18 dc18 pm18 an18 cd18 ct18), sl18⟩)
    (c18 : PySem.W.codeIn K cd18 "_law_turned" = true)
    (k18 : PySem.W.keepIn K (.ref f18) = true)
    (a19 : PySem.W.nsIn K mainGlobals "_law_caught" = some (some (.ref f19)))
    (l19 : K.lookup f19 = some ⟨oc19, od19, .func (PySem.W.fnOf "_law_caught" "_law_caught" (defArgs s_law_caught) (defBody s_law_caught) (defScope s_law_caught) .none kV19 dc19 pm19 an19 cd19 ct19), sl19⟩)
    (c19 : PySem.W.codeIn K cd19 "_law_caught" = true)
    (k19 : PySem.W.keepIn K (.ref f19) = true)
    (a20 : PySem.W.nsIn K mainGlobals "_law_right" = some (some (.ref f20)))
    (l20 : K.lookup f20 = some ⟨oc20, od20, .func (PySem.W.fnOf "_law_right" "_law_right" (defArgs s_law_right) (defBody s_law_right) (defScope s_law_right) .none kV20 dc20 pm20 an20 cd20 ct20), sl20⟩)
    (c20 : PySem.W.codeIn K cd20 "_law_right" = true)
    (k20 : PySem.W.keepIn K (.ref f20) = true)
    (a21 : PySem.W.nsIn K mainGlobals "_law_long_right" = some (some (.ref f21)))
    (l21 : K.lookup f21 = some ⟨oc21, od21, .func (PySem.W.fnOf "_law_long_right" "_law_long_right" (defArgs s_law_long_right) (defBody s_law_long_right) (defScope s_law_long_right) .none kV21 dc21 pm21 an21 cd21 ct21), sl21⟩)
    (c21 : PySem.W.codeIn K cd21 "_law_long_right" = true)
    (k21 : PySem.W.keepIn K (.ref f21) = true)
    (a22 : PySem.W.nsIn K mainGlobals "law" = some (some (.ref f22)))
    (l22 : K.lookup f22 = some ⟨oc22, od22, .func (PySem.W.fnOf "law" "law" (defArgs slaw) (defBody slaw) (defScope slaw) .none kV22 dc22 pm22 an22 cd22 ct22), sl22⟩)
    (c22 : PySem.W.codeIn K cd22 "law" = true)
    (k22 : PySem.W.keepIn K (.ref f22) = true)
    (gN : PySem.W.nsIn K mainGlobals "MOST_NESTED" = some (some (.int 100 gNt)))
    (gT : PySem.W.nsIn K mainGlobals "MOST_TIMES" = some (some (.int 1000 gTt)))
    (gL : PySem.W.nsIn K mainGlobals "LONGEST_TEXT" = some (some (.int 4000 gLt)))
    (gR : PySem.W.nsIn K mainGlobals "REPEAT" = some (some (.str "repeat" gRt)))
    (aCI : PySem.W.nsIn K mainGlobals "InvalidInteger" = some (some (.ref CI)))
    (xLI : K.lookup CI = some (excClassObj nmI qI CI NI bsI bmI true snI subI abI colI ddI m0I m1I m2I m3I m5I "ValueError.__new__"))
    (vbI : PySem.HandSPX.refsVE bmI = true)
    (saI : PySem.W.findIn K (.ref CI) "__setattr__" = some (some (.builtin "object.__setattr__")))
    (gaI : PySem.W.findIn K (.ref CI) "__getattribute__" = some (some (.builtin "BaseException.__getattribute__")))
    (ggI : PySem.W.findIn K (.ref CI) "__getattr__" = some none)
    (nbI : PySem.W.findIn K (.ref CI) "value" = some none)
    (iCI : PySem.W.findIn K (.ref CI) "__init__" = some (some (.ref gI)))
    (tfI : PySem.W.typeIn K (.ref gI) = some (.type "function"))
    (lfI : K.lookup gI = some ⟨ocI, odI, .func (PySem.W.fnOf "__init__" "InvalidInteger.__init__" (PySem.EzValue.iA p1I p2I) (PySem.EzValue.iB q1I q2I q3I q4I) PySem.EzValue.iS .none .none dcI pmI anI cdI ctI), slI⟩)
    (cfI : PySem.W.codeIn K cdI "InvalidInteger.__init__" = true)
    (kCI : PySem.W.keepIn K (.ref CI) = true)
    (eCI : PySem.W.subIn K (.ref CI) (.type "BaseException") = some true)
    (tCI : PySem.W.typeIn K (.ref CI) = some (.type "type"))
    (hCI : PySem.W.hasDictIn K CI = true)
    (jCI : PySem.W.isClsIn K CI = true)
    (sCI : PySem.W.subIn K (.ref CI) (.ref CI) = some true)
    (aCP : PySem.W.nsIn K mainGlobals "InvalidPattern" = some (some (.ref CP)))
    (xLP : K.lookup CP = some (excClassObj nmP qP CP NP bsP bmP true snP subP abP colP ddP m0P m1P m2P m3P m5P "ValueError.__new__"))
    (vbP : PySem.HandSPX.refsVE bmP = true)
    (saP : PySem.W.findIn K (.ref CP) "__setattr__" = some (some (.builtin "object.__setattr__")))
    (gaP : PySem.W.findIn K (.ref CP) "__getattribute__" = some (some (.builtin "BaseException.__getattribute__")))
    (ggP : PySem.W.findIn K (.ref CP) "__getattr__" = some none)
    (nbP : PySem.W.findIn K (.ref CP) "value" = some none)
    (iCP : PySem.W.findIn K (.ref CP) "__init__" = some (some (.ref gP)))
    (tfP : PySem.W.typeIn K (.ref gP) = some (.type "function"))
    (lfP : K.lookup gP = some ⟨ocP, odP, .func (PySem.W.fnOf "__init__" "InvalidPattern.__init__" (PySem.EzValue.iA p1P p2P) (PySem.EzValue.iB q1P q2P q3P q4P) PySem.EzValue.iS .none .none dcP pmP anP cdP ctP), slP⟩)
    (cfP : PySem.W.codeIn K cdP "InvalidPattern.__init__" = true)
    (kCP : PySem.W.keepIn K (.ref CP) = true)
    (eCP : PySem.W.subIn K (.ref CP) (.type "BaseException") = some true)
    (tCP : PySem.W.typeIn K (.ref CP) = some (.type "type"))
    (hCP : PySem.W.hasDictIn K CP = true)
    (jCP : PySem.W.isClsIn K CP = true)
    (sCP : PySem.W.subIn K (.ref CP) (.ref CP) = some true)
    (aCM : PySem.W.nsIn K mainGlobals "TooMany" = some (some (.ref CM)))
    (xLM : K.lookup CM = some (excClassObj nmM qM CM NM bsM bmM true snM subM abM colM ddM m0M m1M m2M m3M m5M "ValueError.__new__"))
    (vbM : PySem.HandSPX.refsVE bmM = true)
    (saM : PySem.W.findIn K (.ref CM) "__setattr__" = some (some (.builtin "object.__setattr__")))
    (gaM : PySem.W.findIn K (.ref CM) "__getattribute__" = some (some (.builtin "BaseException.__getattribute__")))
    (ggM : PySem.W.findIn K (.ref CM) "__getattr__" = some none)
    (nbM : PySem.W.findIn K (.ref CM) "count" = some none)
    (iCM : PySem.W.findIn K (.ref CM) "__init__" = some (some (.ref gM)))
    (tfM : PySem.W.typeIn K (.ref gM) = some (.type "function"))
    (lfM : K.lookup gM = some ⟨ocM, odM, .func (PySem.W.fnOf "__init__" "TooMany.__init__" (PySem.EzCount.iA p1M p2M) (PySem.EzCount.iB q1M q2M q3M q4M) PySem.EzCount.iS .none .none dcM pmM anM cdM ctM), slM⟩)
    (cfM : PySem.W.codeIn K cdM "TooMany.__init__" = true)
    (kCM : PySem.W.keepIn K (.ref CM) = true)
    (eCM : PySem.W.subIn K (.ref CM) (.type "BaseException") = some true)
    (tCM : PySem.W.typeIn K (.ref CM) = some (.type "type"))
    (hCM : PySem.W.hasDictIn K CM = true)
    (jCM : PySem.W.isClsIn K CM = true)
    (sCM : PySem.W.subIn K (.ref CM) (.ref CM) = some true)
    (uIP : PySem.W.subIn K (.ref CI) (.ref CP) = some false)
    (uMP : PySem.W.subIn K (.ref CM) (.ref CP) = some false)
    (uMI : PySem.W.subIn K (.ref CM) (.ref CI) = some false)
    (z_isinstance : PySem.W.nsIn K mainGlobals "isinstance" = some none)
    (z_int : PySem.W.nsIn K mainGlobals "int" = some none)
    (z_bool : PySem.W.nsIn K mainGlobals "bool" = some none)
    (z_str : PySem.W.nsIn K mainGlobals "str" = some none)
    (z_list : PySem.W.nsIn K mainGlobals "list" = some none)
    (z_tuple : PySem.W.nsIn K mainGlobals "tuple" = some none)
    (z_len : PySem.W.nsIn K mainGlobals "len" = some none)
    (z_max : PySem.W.nsIn K mainGlobals "max" = some none)
    (z_min : PySem.W.nsIn K mainGlobals "min" = some none)
    (z_range : PySem.W.nsIn K mainGlobals "range" = some none)
    (z_repr : PySem.W.nsIn K mainGlobals "repr" = some none)
    (z_sum : PySem.W.nsIn K mainGlobals "sum" = some none)
    : ∃ fd : FuncData, (∀ (s : Shared) (u : Value), BindsTo s fd ⟨[u], []⟩ [("_law_script", u)]) ∧ ∀ base : Heap, K.In base → base.Ns mainGlobals mg → SysIn base → FnG P w K mg base CX0 109 fa fd ["_law_script"] (spLaw K) := by
  have e := hfa.symm.trans (PySem.W.mg_of X G a22)
  cases e
  have lowI : PySem.EzValue.LowTxt K mg "InvalidInteger" "InvalidInteger.__init__" CI gI :=
    { gC := PySem.W.mg_of X G aCI, cls := ⟨nmI, qI, NI, bsI, bmI, snI, subI, abI, colI, ddI, m0I, m1I, m2I, m3I, m5I, xLI, vbI⟩, sa := saI, ga := gaI, gg := ggI, noN := nbI, iC := iCI, tC := tfI, kC := kCI, exC := eCI, tyC := tCI, hdC := hCI,
      te := exm_selfG eCI jCI tCI sCI, fn := ⟨_, _, _, _, _, _, _, _, _, _, _, _, _, _, lfI, cfI⟩ }
  have lowP : PySem.EzValue.LowTxt K mg "InvalidPattern" "InvalidPattern.__init__" CP gP :=
    { gC := PySem.W.mg_of X G aCP, cls := ⟨nmP, qP, NP, bsP, bmP, snP, subP, abP, colP, ddP, m0P, m1P, m2P, m3P, m5P, xLP, vbP⟩, sa := saP, ga := gaP, gg := ggP, noN := nbP, iC := iCP, tC := tfP, kC := kCP, exC := eCP, tyC := tCP, hdC := hCP,
      te := exm_selfG eCP jCP tCP sCP, fn := ⟨_, _, _, _, _, _, _, _, _, _, _, _, _, _, lfP, cfP⟩ }
  have lowM : PySem.EzCount.LowTxt K mg "TooMany" "TooMany.__init__" CM gM :=
    { gC := PySem.W.mg_of X G aCM, cls := ⟨nmM, qM, NM, bsM, bmM, snM, subM, abM, colM, ddM, m0M, m1M, m2M, m3M, m5M, xLM, vbM⟩, sa := saM, ga := gaM, gg := ggM, noN := nbM, iC := iCM, tC := tfM, kC := kCM, exC := eCM, tyC := tCM, hdC := hCM,
      te := exm_selfG eCM jCM tCM sCM, fn := ⟨_, _, _, _, _, _, _, _, _, _, _, _, _, _, lfM, cfM⟩ }
  have F0 := fun_mk (st := sis_integer) l0 c0 k0
  have m0 := PySem.W.mg_of X G a0
  have F1 := fun_mk (st := sis_letter) l1 c1 k1
  have m1 := PySem.W.mg_of X G a1
  have F2 := fun_mk (st := sis_list) l2 c2 k2
  have m2 := PySem.W.mg_of X G a2
  have F3 := fun_mk (st := srequire_integer) l3 c3 k3
  have m3 := PySem.W.mg_of X G a3
  have F4 := fun_mk (st := sis_pattern) l4 c4 k4
  have m4 := PySem.W.mg_of X G a4
  have F5 := fun_mk (st := sis_pattern_within) l5 c5 k5
  have m5 := PySem.W.mg_of X G a5
  have F6 := fun_mk (st := sis_repetition) l6 c6 k6
  have m6 := PySem.W.mg_of X G a6
  have F7 := fun_mk (st := srequire_pattern) l7 c7 k7
  have m7 := PySem.W.mg_of X G a7
  have F8 := fun_mk (st := spattern_length) l8 c8 k8
  have m8 := PySem.W.mg_of X G a8
  have F9 := fun_mk (st := slength_of) l9 c9 k9
  have m9 := PySem.W.mg_of X G a9
  have F10 := fun_mk (st := spattern_text) l10 c10 k10
  have m10 := PySem.W.mg_of X G a10
  have F11 := fun_mk (st := stext_of) l11 c11 k11
  have m11 := PySem.W.mg_of X G a11
  have F12 := fun_mk (st := s_law_cell) l12 c12 k12
  have m12 := PySem.W.mg_of X G a12
  have F13 := fun_mk (st := s_law_box) l13 c13 k13
  have m13 := PySem.W.mg_of X G a13
  have F14 := fun_mk (st := s_law_take) l14 c14 k14
  have m14 := PySem.W.mg_of X G a14
  have F15 := fun_mk (st := s_law_drawn) l15 c15 k15
  have m15 := PySem.W.mg_of X G a15
  have F16 := fun_mk (st := s_law_size) l16 c16 k16
  have m16 := PySem.W.mg_of X G a16
  have F17 := fun_mk (st := s_law_text) l17 c17 k17
  have m17 := PySem.W.mg_of X G a17
  have F18 := fun_mk (st := s_law_turned) l18 c18 k18
  have m18 := PySem.W.mg_of X G a18
  have F19 := fun_mk (st := s_law_caught) l19 c19 k19
  have m19 := PySem.W.mg_of X G a19
  have F20 := fun_mk (st := s_law_right) l20 c20 k20
  have m20 := PySem.W.mg_of X G a20
  have F21 := fun_mk (st := s_law_long_right) l21 c21 k21
  have m21 := PySem.W.mg_of X G a21
  have F22 := fun_mk (st := slaw) l22 c22 k22
  have m22 := PySem.W.mg_of X G a22
  have b0 := F0.binds (ps := ["value"]) fun _ _ _ _ _ _ us hl => match us, hl with | [_], _ => rfl
  have b1 := F1.binds (ps := ["value"]) fun _ _ _ _ _ _ us hl => match us, hl with | [_], _ => rfl
  have b2 := F2.binds (ps := ["value"]) fun _ _ _ _ _ _ us hl => match us, hl with | [_], _ => rfl
  have b3 := F3.binds (ps := ["value", "least", "most"]) fun _ _ _ _ _ _ us hl => match us, hl with | [_, _, _], _ => rfl
  have b4 := F4.binds (ps := ["value"]) fun _ _ _ _ _ _ us hl => match us, hl with | [_], _ => rfl
  have b5 := F5.binds (ps := ["value", "room"]) fun _ _ _ _ _ _ us hl => match us, hl with | [_, _], _ => rfl
  have b6 := F6.binds (ps := ["value"]) fun _ _ _ _ _ _ us hl => match us, hl with | [_], _ => rfl
  have b7 := F7.binds (ps := ["value"]) fun _ _ _ _ _ _ us hl => match us, hl with | [_], _ => rfl
  have b8 := F8.binds (ps := ["pattern", "times"]) fun _ _ _ _ _ _ us hl => match us, hl with | [_, _], _ => rfl
  have b9 := F9.binds (ps := ["pattern", "times"]) fun _ _ _ _ _ _ us hl => match us, hl with | [_, _], _ => rfl
  have b10 := F10.binds (ps := ["pattern", "times"]) fun _ _ _ _ _ _ us hl => match us, hl with | [_, _], _ => rfl
  have b11 := F11.binds (ps := ["pattern", "times"]) fun _ _ _ _ _ _ us hl => match us, hl with | [_, _], _ => rfl
  have b12 := F12.binds (ps := ["_law_script", "_law_k"]) fun _ _ _ _ _ _ us hl => match us, hl with | [_, _], _ => rfl
  have b13 := F13.binds (ps := ["_law_cell_here"]) fun _ _ _ _ _ _ us hl => match us, hl with | [_], _ => rfl
  have b14 := F14.binds (ps := ["_law_box_here", "_law_size_here"]) fun _ _ _ _ _ _ us hl => match us, hl with | [_, _], _ => rfl
  have b15 := F15.binds (ps := ["_law_box_here", "_law_deep"]) fun _ _ _ _ _ _ us hl => match us, hl with | [_, _], _ => rfl
  have b16 := F16.binds (ps := ["_law_pattern", "_law_many"]) fun _ _ _ _ _ _ us hl => match us, hl with | [_, _], _ => rfl
  have b17 := F17.binds (ps := ["_law_pattern", "_law_many"]) fun _ _ _ _ _ _ us hl => match us, hl with | [_, _], _ => rfl
  have b18 := F18.binds (ps := ["_law_pattern"]) fun _ _ _ _ _ _ us hl => match us, hl with | [_], _ => rfl
  have b19 := F19.binds (ps := ["_law_pattern", "_law_many", "_law_way"]) fun _ _ _ _ _ _ us hl => match us, hl with | [_, _, _], _ => rfl
  have b20 := F20.binds (ps := ["_law_box_here", "_law_pattern"]) fun _ _ _ _ _ _ us hl => match us, hl with | [_, _], _ => rfl
  have b21 := F21.binds (ps := []) fun _ _ _ _ _ _ us hl => match us, hl with | [], _ => rfl
  refine ⟨PySem.W.fnOf "law" "law" (defArgs slaw) (defBody slaw) (defScope slaw) .none kV22 dc22 pm22 an22 cd22 ct22, fun s u => .of_eq rfl, fun base _ _ hs => ?_⟩
  have T : Txt K mg base CI gI CP gP CM gM := { sys := hs, e_InvalidInteger := lowI, e_InvalidPattern := lowP, e_TooMany := lowM, g_MOST_NESTED := ⟨_, PySem.W.mg_of X G gN, ⟨_, rfl⟩⟩, g_MOST_TIMES := ⟨_, PySem.W.mg_of X G gT, ⟨_, rfl⟩⟩, g_LONGEST_TEXT := ⟨_, PySem.W.mg_of X G gL, ⟨_, rfl⟩⟩, g_REPEAT := ⟨_, PySem.W.mg_of X G gR, ⟨_, rfl⟩⟩, z_isinstance := PySem.W.mg_none_of X G z_isinstance, z_int := PySem.W.mg_none_of X G z_int, z_bool := PySem.W.mg_none_of X G z_bool, z_str := PySem.W.mg_none_of X G z_str, z_list := PySem.W.mg_none_of X G z_list, z_tuple := PySem.W.mg_none_of X G z_tuple, z_len := PySem.W.mg_none_of X G z_len, z_max := PySem.W.mg_none_of X G z_max, z_min := PySem.W.mg_none_of X G z_min, z_range := PySem.W.mg_none_of X G z_range, z_repr := PySem.W.mg_none_of X G z_repr, z_sum := PySem.W.mg_none_of X G z_sum }
  have U : Unlike K CI CP CM := ⟨exm_noG eCP jCP tCP uIP, exm_noG eCP jCP tCP uMP, exm_noG eCI jCI tCI uMI⟩
  have D0 : Df P w K mg base CX0 1 "is_integer" _ _ ["value"] spIsInt := ⟨ok_isint F0 T, m0, k0, b0⟩
  have D1 : Df P w K mg base CX0 1 "is_letter" _ _ ["value"] spIsLet := ⟨ok_isletter F1 T, m1, k1, b1⟩
  have D2 : Df P w K mg base CX0 1 "is_list" _ _ ["value"] spIsList := ⟨ok_islist F2 T, m2, k2, b2⟩
  have D3 : Df P w K mg base (L2.CX P w) 3 "require_integer" _ _ ["value", "least", "most"] (spReqInt CI) := ⟨ok_reqint F3 T D0, m3, k3, b3⟩
  have D6 : Df P w K mg base CX0 1 "is_repetition" _ _ ["value"] spIsRep := ⟨ok_isrep F6 T, m6, k6, b6⟩
  have A5 := all_within (P := P) (w := w) F5 T D2 D1 D6 m5 k5 b5
  have E5 : Df P w K mg base CX0 101 "is_pattern_within" _ _ ["value", "room"] (spW 99) := ⟨A5 99, m5, k5, b5⟩
  have B5 := ok_withinB (m := 100) F5 T D2 D1 D6 E5
  have D5 : Df P w K mg base CX0 102 "is_pattern_within" _ _ ["value", "room"] (fun vs H Q E => spW 100 vs H Q E ∨ spWbad vs H Q E) := ⟨(A5 100).or2 B5, m5, k5, b5⟩
  have D4 : Df P w K mg base CX0 103 "is_pattern" _ _ ["value"] spIsP := ⟨ok_isp F4 T D5, m4, k4, b4⟩
  have D7 : Df P w K mg base (L2.CX P w) 104 "require_pattern" _ _ ["value"] (spReqP CP) := ⟨ok_reqp F7 T D4, m7, k7, b7⟩
  have D9 : Df P w K mg base CX0 102 "length_of" _ _ ["pattern", "times"] (spLen 100) := ⟨all_len F9 D6 m9 k9 b9 100, m9, k9, b9⟩
  have D11 : Df P w K mg base CX0 102 "text_of" _ _ ["pattern", "times"] (spTxt 100) := ⟨all_txt F11 D6 m11 k11 b11 100, m11, k11, b11⟩
  have D8 : Df P w K mg base (L2.CX P w) 105 "pattern_length" _ _ ["pattern", "times"] (spPL CI CP) := ⟨ok_pl F8 T D7 D3 D9, m8, k8, b8⟩
  have D10 : Df P w K mg base (L2.CX P w) 106 "pattern_text" _ _ ["pattern", "times"] (spPT CI CP CM) := ⟨ok_pt F10 T D8 D11, m10, k10, b10⟩
  have D12 : Df P w K mg base CX0 1 "_law_cell" _ _ ["_law_script", "_law_k"] (spScr K) := ⟨ok_cell F12 T, m12, k12, b12⟩
  have D13 : Df P w K mg base CX0 1 "_law_box" _ _ ["_law_cell_here"] spBox := ⟨ok_box F13 T, m13, k13, b13⟩
  have D14 : Df P w K mg base CX0 1 "_law_take" _ _ ["_law_box_here", "_law_size_here"] spTake := ⟨ok_take F14, m14, k14, b14⟩
  have D15 : Df P w K mg base CX0 7 "_law_drawn" _ _ ["_law_box_here", "_law_deep"] (spDrawn 5) := ⟨all_drawn F15 T D14 m15 k15 b15 5, m15, k15, b15⟩
  have D16 : Df P w K mg base CX0 102 "_law_size" _ _ ["_law_pattern", "_law_many"] (spLen 100) := ⟨all_lsize F16 T m16 k16 b16 100, m16, k16, b16⟩
  have D17 : Df P w K mg base CX0 102 "_law_text" _ _ ["_law_pattern", "_law_many"] (spTxt 100) := ⟨all_ltext F17 T m17 k17 b17 100, m17, k17, b17⟩
  have D18 : Df P w K mg base CX0 102 "_law_turned" _ _ ["_law_pattern"] (spTurn 100) := ⟨all_turned F18 T m18 k18 b18 100, m18, k18, b18⟩
  have D19 : Df P w K mg base CX0 107 "_law_caught" _ _ ["_law_pattern", "_law_many", "_law_way"] spCaught := ⟨ok_caught F19 T U D8 D10, m19, k19, b19⟩
  have D20 : Df P w K mg base CX0 108 "_law_right" _ _ ["_law_box_here", "_law_pattern"] spRight := ⟨ok_right F20 T D14 D16 D18 D4 D19 D17, m20, k20, b20⟩
  have D21 : Df P w K mg base CX0 108 "_law_long_right" _ _ [] spLong := ⟨ok_long F21 T D19, m21, k21, b21⟩
  exact ok_law F22 T D12 D13 D14 D15 D20 D21
theorem walk {l : PySem.W.OpenLaw} {q : Program} {loose : List Str} {XP : (Str → Option Value) → Heap → Prop} {YP : World → Heap → Prop} {d : DefRec} {K : Params → PySem.W.Frag} (hn : l.most = some 63) (hdf : d.params.defaults = []) (himp : importsNone q = true)
    (hY : ∀ (w : World) (h : Heap), YP w h → (K w.params).In h)
    (F : ∀ (w : World) (mg : Str → Option Value) (fa : Addr) (h : Heap), (K w.params).In h → h.Ns mainGlobals mg → mg d.name = some (.ref fa) →
      ∃ fd : FuncData, (∀ (s : Shared) (u : Value), BindsTo s fd ⟨[u], []⟩ [("_law_script", u)]) ∧ ∀ base : Heap, (K w.params).In base → base.Ns mainGlobals mg → SysIn base → FnG l.prog w (K w.params) mg base CX0 109 fa fd ["_law_script"] (spLaw (K w.params))) :
    PySem.W.WalkO q loose XP YP l.row.toRowW d [] (fun f vs => PySem.call f vs) :=
  Gd.walkG (n := 63) (k := 109) (x := "_law_script") (CX := fun _ => CX0) (sp := fun w => spLaw (K w.params)) hn (by decide) hdf ⟨rfl, by decide, by decide⟩ himp hY F
    (fun _ _ a ns hl _ hS => ⟨a, ns, rfl, hS, hl, fun _ => rfl⟩) fun _ _ _ _ _ z => z
end KP
open PySem PySem.W PyProof.Rows
set_option maxRecDepth 100000 in
set_option maxHeartbeats 0 in
theorem PySem.Challenge.cw_formatrepair_k38_texts_of_patterns_holds : PySem.Challenge.rw_formatrepair_k38_texts_of_patterns.Holds := by
  w_on; o_law; k_head; (case hw => w_witness2)
  k_fill
  refine KP.walk (l := PySem.Challenge.rw_formatrepair_k38_texts_of_patterns) rfl rfl rfl (fun w h Y => PySem.W.kIn_of Y) ?F
  case F =>
    intro w mg fa h KX G hmg
    refine' KP.all_mk KX G hmg ?a0 ?l0 ?c0 ?k0 ?a1 ?l1 ?c1 ?k1 ?a2 ?l2 ?c2 ?k2 ?a3 ?l3 ?c3 ?k3 ?a4 ?l4 ?c4 ?k4 ?a5 ?l5 ?c5 ?k5 ?a6 ?l6 ?c6 ?k6 ?a7 ?l7 ?c7 ?k7 ?a8 ?l8 ?c8 ?k8 ?a9 ?l9 ?c9 ?k9 ?a10 ?l10 ?c10 ?k10 ?a11 ?l11 ?c11 ?k11 ?a12 ?l12 ?c12 ?k12 ?a13 ?l13 ?c13 ?k13 ?a14 ?l14 ?c14 ?k14 ?a15 ?l15 ?c15 ?k15 ?a16 ?l16 ?c16 ?k16 ?a17 ?l17 ?c17 ?k17 ?a18 ?l18 ?c18 ?k18 ?a19 ?l19 ?c19 ?k19 ?a20 ?l20 ?c20 ?k20 ?a21 ?l21 ?c21 ?k21 ?a22 ?l22 ?c22 ?k22 ?gN ?gT ?gL ?gR ?aCI ?xLI ?vbI ?saI ?gaI ?ggI ?nbI ?iCI ?tfI ?lfI ?cfI ?kCI ?eCI ?tCI ?hCI ?jCI ?sCI ?aCP ?xLP ?vbP ?saP ?gaP ?ggP ?nbP ?iCP ?tfP ?lfP ?cfP ?kCP ?eCP ?tCP ?hCP ?jCP ?sCP ?aCM ?xLM ?vbM ?saM ?gaM ?ggM ?nbM ?iCM ?tfM ?lfM ?cfM ?kCM ?eCM ?tCM ?hCM ?jCM ?sCM ?uIP ?uMP ?uMI ?z_isinstance ?z_int ?z_bool ?z_str ?z_list ?z_tuple ?z_len ?z_max ?z_min ?z_range ?z_repr ?z_sum
    (case a0 => k_is)
    (case l0 => k_is)
    (case c0 => k_is)
    (case k0 => k_is)
    (case a1 => k_is)
    (case l1 => k_is)
    (case c1 => k_is)
    (case k1 => k_is)
    (case a2 => k_is)
    (case l2 => k_is)
    (case c2 => k_is)
    (case k2 => k_is)
    (case a3 => k_is)
    (case l3 => k_is)
    (case c3 => k_is)
    (case k3 => k_is)
    (case a4 => k_is)
    (case l4 => k_is)
    (case c4 => k_is)
    (case k4 => k_is)
    (case a5 => k_is)
    (case l5 => k_is)
    (case c5 => k_is)
    (case k5 => k_is)
    (case a6 => k_is)
    (case l6 => k_is)
    (case c6 => k_is)
    (case k6 => k_is)
    (case a7 => k_is)
    (case l7 => k_is)
    (case c7 => k_is)
    (case k7 => k_is)
    (case a8 => k_is)
    (case l8 => k_is)
    (case c8 => k_is)
    (case k8 => k_is)
    (case a9 => k_is)
    (case l9 => k_is)
    (case c9 => k_is)
    (case k9 => k_is)
    (case a10 => k_is)
    (case l10 => k_is)
    (case c10 => k_is)
    (case k10 => k_is)
    (case a11 => k_is)
    (case l11 => k_is)
    (case c11 => k_is)
    (case k11 => k_is)
    (case a12 => k_is)
    (case l12 => k_is)
    (case c12 => k_is)
    (case k12 => k_is)
    (case a13 => k_is)
    (case l13 => k_is)
    (case c13 => k_is)
    (case k13 => k_is)
    (case a14 => k_is)
    (case l14 => k_is)
    (case c14 => k_is)
    (case k14 => k_is)
    (case a15 => k_is)
    (case l15 => k_is)
    (case c15 => k_is)
    (case k15 => k_is)
    (case a16 => k_is)
    (case l16 => k_is)
    (case c16 => k_is)
    (case k16 => k_is)
    (case a17 => k_is)
    (case l17 => k_is)
    (case c17 => k_is)
    (case k17 => k_is)
    (case a18 => k_is)
    (case l18 => k_is)
    (case c18 => k_is)
    (case k18 => k_is)
    (case a19 => k_is)
    (case l19 => k_is)
    (case c19 => k_is)
    (case k19 => k_is)
    (case a20 => k_is)
    (case l20 => k_is)
    (case c20 => k_is)
    (case k20 => k_is)
    (case a21 => k_is)
    (case l21 => k_is)
    (case c21 => k_is)
    (case k21 => k_is)
    (case a22 => k_is)
    (case l22 => k_is)
    (case c22 => k_is)
    (case k22 => k_is)
    (case gN => k_is)
    (case gT => k_is)
    (case gL => k_is)
    (case gR => k_is)
    (case aCI => k_is)
    (case xLI => k_is)
    (case vbI => decide +kernel)
    (case saI => k_is)
    (case gaI => k_is)
    (case ggI => k_is)
    (case nbI => k_is)
    (case iCI => k_is)
    (case tfI => k_is)
    (case lfI => k_is)
    (case cfI => k_is)
    (case kCI => k_is)
    (case eCI => k_is)
    (case tCI => k_is)
    (case hCI => k_is)
    (case jCI => k_is)
    (case sCI => first | rfl | k_is)
    (case aCP => k_is)
    (case xLP => k_is)
    (case vbP => decide +kernel)
    (case saP => k_is)
    (case gaP => k_is)
    (case ggP => k_is)
    (case nbP => k_is)
    (case iCP => k_is)
    (case tfP => k_is)
    (case lfP => k_is)
    (case cfP => k_is)
    (case kCP => k_is)
    (case eCP => k_is)
    (case tCP => k_is)
    (case hCP => k_is)
    (case jCP => k_is)
    (case sCP => first | rfl | k_is)
    (case aCM => k_is)
    (case xLM => k_is)
    (case vbM => decide +kernel)
    (case saM => k_is)
    (case gaM => k_is)
    (case ggM => k_is)
    (case nbM => k_is)
    (case iCM => k_is)
    (case tfM => k_is)
    (case lfM => k_is)
    (case cfM => k_is)
    (case kCM => k_is)
    (case eCM => k_is)
    (case tCM => k_is)
    (case hCM => k_is)
    (case jCM => k_is)
    (case sCM => first | rfl | k_is)
    (case uIP => k_is)
    (case uMP => k_is)
    (case uMI => k_is)
    (case z_isinstance => k_is)
    (case z_int => k_is)
    (case z_bool => k_is)
    (case z_str => k_is)
    (case z_list => k_is)
    (case z_tuple => k_is)
    (case z_len => k_is)
    (case z_max => k_is)
    (case z_min => k_is)
    (case z_range => k_is)
    (case z_repr => k_is)
    (case z_sum => k_is)
