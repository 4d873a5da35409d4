import PyProof.Rows.All
import Wide.All
import OpenK.AllK
import Wide.FinOn
import HandS.Zip0
import PyProof.ReprRoads
import HandS.Base
import HandS.Call
import HandS.List
import HandS.Dict
import HandS.Ends
import HandS.Words
import HandS.Zip
import HandS.Star
import HandS.SortKw
import HandS.Exc
import HandS.ExcOwn
import HandS.TryOnly
import HandS.TryMany
import HandS.Defaults
import PyProof.StrLawsRepr
import HandS.Wide
import HandS.Comp
import HandS.Iter
import HandS.Text
import HandS.More
import HandS.Style
import HandS.StrMore
import HandS.IsInst
import HandS.Replace
import HandS.RaiseMore
import HandS.WordsList
import HandS.WordsDict
import HandS.WordsExc
import HandS.Walk
import HandS.Codes
import PyProof.Rows.StrFin3
import PySem.Challenge.RW_formatrepair_k35_products_and_shapes
set_option Elab.async false
set_option linter.all false
set_option maxRecDepth 100000
set_option maxHeartbeats 4000000
/-! zip of any number of lists and tuples of one length -/
namespace Zn
open PySem
open PySem.Sem (wp)
/-- an iterator of a list (true) or of a tuple (false) -/
def ItK (b : Bool) (h : Heap) (i l : Addr) (k : Nat) : Prop := if b then h.IsListIter i l k else h.IsTupleIter i l k
/-- a list or a tuple -/
def SqK (b : Bool) (h : Heap) (l : Addr) (xs : Array Value) : Prop := if b then h.IsList l xs else h.IsTuple l xs
theorem ItK.at {b : Bool} {h h' : Heap} {i l : Addr} {k : Nat} (x : ItK b h i l k) (e : ∀ o, h.get? i = some o → h'.get? i = some o) : ItK b h' i l k := by
  cases b
  · exact Heap.IsTupleIter.at x e
  · exact Heap.IsListIter.at x e
theorem SqK.at {b : Bool} {h h' : Heap} {l : Addr} {xs : Array Value} (x : SqK b h l xs) (e : ∀ o, h.get? l = some o → h'.get? l = some o) : SqK b h' l xs := by
  cases b
  · obtain ⟨o, ho, r⟩ := (x : h.IsTuple l xs)
    exact (⟨o, e _ ho, r⟩ : h'.IsTuple l xs)
  · exact Heap.IsList.at x e
theorem ItK.obj {b : Bool} {h : Heap} {i l : Addr} {k : Nat} (x : ItK b h i l k) : ∃ o, h.get? i = some o ∧ (o.cls = .type "list_iterator" ∨ o.cls = .type "tuple_iterator") ∧ ∀ v, o.data ≠ .cell v := by
  cases b
  · obtain ⟨o, ho, hc, hd⟩ := (x : h.IsTupleIter i l k)
    exact ⟨o, ho, .inr hc, fun v q => by rw [hd] at q; cases q⟩
  · obtain ⟨o, ho, hc, hd⟩ := (x : h.IsListIter i l k)
    exact ⟨o, ho, .inl hc, fun v q => by rw [hd] at q; cases q⟩
theorem SqK.obj {b : Bool} {h : Heap} {l : Addr} {xs : Array Value} (x : SqK b h l xs) : ∃ o, h.get? l = some o ∧ (o.cls = .type "list" ∨ o.cls = .type "tuple") := by
  cases b
  · obtain ⟨o, ho, hc, _⟩ := (x : h.IsTuple l xs)
    exact ⟨o, ho, .inr hc⟩
  · obtain ⟨o, ho, hc, _⟩ := (x : h.IsList l xs)
    exact ⟨o, ho, .inl hc⟩
section
variable {prog : Program} {w : World} {A : Around} {E : Value → Shared → Prop} {s : Shared}
theorem next_item {b : Bool} {it l : Addr} {k : Nat} {xs : Array Value} {x : Value} {Q : Value → Shared → Prop} (hit : ItK b s.heap it l k) (hl : SqK b s.heap l xs) (hx : xs[k]? = some x)
    (hQ : ∀ h', ItK b h' it l (k + 1) → Heap.SameBut it s.heap h' → Q x { s with heap := h' }) : wpAny (model prog w) A (Builtin.SmallTypes.nextOf (.ref it)) Q E s := by
  cases b
  · exact RZ.nextOf_tuple_item hit hl hx hQ
  · exact wpAny_nextOf_list_item hit hl hx hQ
theorem next_end {b : Bool} {it l : Addr} {k : Nat} {xs : Array Value} {Q : Value → Shared → Prop} (hh : A.handled = none) (hit : ItK b s.heap it l k) (hl : SqK b s.heap l xs) (hx : xs[k]? = none)
    (hE : ∀ h' e, Heap.ExtBut it s.heap h' → (∃ o, h'.get? e = some o ∧ o.cls = .type "StopIteration") → E (.ref e) { s with heap := h' }) : wpAny (model prog w) A (Builtin.SmallTypes.nextOf (.ref it)) Q E s := by
  cases b
  · exact RZ.nextOf_tuple_end hh hit hl hx hE
  · exact wpAny_nextOf_list_end hh hit hl hx hE
theorem iter_seq {b : Bool} {l : Addr} {xs : Array Value} {Q : Value → Shared → Prop} (hl : SqK b s.heap l xs)
    (hQ : ∀ h', h'.objs.size = s.heap.objs.size + 1 → (∀ c o, s.heap.get? c = some o → h'.get? c = some o) → ItK b h' s.heap.objs.size l 0 → Q (.ref s.heap.objs.size) { s with heap := h' }) : wpAny (model prog w) A (pyIter (.ref l)) Q E s := by
  cases b
  · exact wpAny_pyIter_tuple hl (hQ _ (Heap.size_push ..) (fun c o e => Heap.get?_push_of_some _ e) (show Heap.IsTupleIter _ _ _ _ from ⟨_, Heap.get?_push_size _ rfl, rfl, rfl⟩))
  · exact wpAny_pyIter_list hl (hQ _ (Heap.size_push ..) (fun c o e => Heap.get?_push_of_some _ e) (show Heap.IsListIter _ _ _ _ from ⟨_, Heap.get?_push_size _ rfl, rfl, rfl⟩))
/-- a loop whose every turn goes on -/
theorem forIn_steps {M : Model} {α β : Type} {f : α → β → Sem (ForInStep β)} {Q : β → Shared → Prop} : ∀ (l : List α) (b : Nat → β) (J : Nat → Shared → Prop) (i : Nat) (s : Shared),
    (∀ j a s, l[j]? = some a → J (i + j) s → wpAny M A (f a (b (i + j))) (fun r s' => r = .yield (b (i + j + 1)) ∧ J (i + j + 1) s') E s) → J i s → (∀ s, J (i + l.length) s → Q (b (i + l.length)) s) → wpAny M A (forIn l (b i) f) Q E s
  | [], b, J, i, s, _, h0, hQ => by
    rw [List.forIn_nil]
    exact wpAny_pure (hQ s h0)
  | a :: l, b, J, i, s, hs, h0, hQ => by
    rw [List.forIn_cons]
    refine wpAny_bind (wpAny_mono (hs 0 a s rfl h0) (fun r s' hr => ?_) fun _ _ e => e)
    obtain ⟨rfl, hJ⟩ := hr
    refine forIn_steps l b J (i + 1) s' (fun j a' s2 hj hJ2 => ?_) hJ fun s2 hJ2 => ?_
    · have e : i + 1 + j = i + (j + 1) := by omega
      rw [e] at hJ2 ⊢
      exact hs (j + 1) a' s2 hj hJ2
    · have e : i + 1 + l.length = i + (a :: l).length := by simp only [List.length_cons]; omega
      rw [e] at hJ2 ⊢
      exact hQ s2 hJ2
end
abbrev IsZipN (h : Heap) (z TI TO : Addr) (f0 f1 : Value) : Prop :=
  h.get? z = some { cls := .type "zip", dict := none, data := .fields #[f0, f1, .bool false, .ref TI, .ref TO], slots := #[] }
abbrev IsTupN (h : Heap) (T : Addr) (vs : List Value) : Prop := h.get? T = some { cls := .type "tuple", data := .seq vs.toArray }
/-- the iterators: kind, place, what is walked -/
abbrev Src := Bool × Addr × Addr
structure Apart (z TI TO : Addr) (ss : List Src) : Prop where
  TIz : TI ≠ z
  TOz : TO ≠ z
  TITO : TI ≠ TO
  iz : ∀ q ∈ ss, q.2.1 ≠ z ∧ q.2.1 ≠ TI ∧ q.2.1 ≠ TO
  lz : ∀ q ∈ ss, q.2.2 ≠ z ∧ q.2.2 ≠ TI ∧ q.2.2 ≠ TO
  il : ∀ q ∈ ss, ∀ r ∈ ss, q.2.1 ≠ r.2.2
  nd : (ss.map (·.2.1)).Nodup
end Zn

namespace Zn
open PySem
open PySem.Sem (wp)
/-- all iterators stand at k over their items -/
def At (h : Heap) (k : Nat) (ss : List Src) (xss : List (Array Value)) : Prop := ∀ (j : Nat) (q : Src) (xs : Array Value), ss[j]? = some q → xss[j]? = some xs → ItK q.1 h q.2.1 q.2.2 k ∧ SqK q.1 h q.2.2 xs
/-- the first j of them stand one further -/
def Mid (h : Heap) (k j : Nat) (ss : List Src) (xss : List (Array Value)) : Prop := ∀ (i : Nat) (q : Src) (xs : Array Value), ss[i]? = some q → xss[i]? = some xs → ItK q.1 h q.2.1 q.2.2 (if i < j then k + 1 else k) ∧ SqK q.1 h q.2.2 xs
theorem At.mid {h : Heap} {k : Nat} {ss : List Src} {xss : List (Array Value)} (a : At h k ss xss) : Mid h k 0 ss xss := fun i q xs h1 h2 => a i q xs h1 h2
theorem Mid.done {h : Heap} {k n : Nat} {ss : List Src} {xss : List (Array Value)} (m : Mid h k n ss xss) (hn : n = ss.length) : At h (k + 1) ss xss := fun i q xs h1 h2 => by
  have := m i q xs h1 h2
  rw [if_pos (by rw [hn]; exact (List.getElem?_eq_some_iff.mp h1).1)] at this
  exact this
/-- all but z, TO and the iterators as they were -/
def Rest (z TO : Addr) (ss : List Src) (h h' : Heap) : Prop := ∀ c o, c ≠ z → c ≠ TO → (∀ q ∈ ss, c ≠ q.2.1) → h.get? c = some o → h'.get? c = some o
theorem Mid.ext {z TI TO : Addr} {h h' : Heap} {k j : Nat} {ss : List Src} {xss : List (Array Value)} (D : Apart z TI TO ss) (m : Mid h k j ss xss) (e : ∀ c o, c ≠ z → c ≠ TO → h.get? c = some o → h'.get? c = some o) : Mid h' k j ss xss := fun i q xs h1 h2 => by
  obtain ⟨a, b⟩ := m i q xs h1 h2
  have hq := List.mem_of_getElem? h1
  exact ⟨a.at fun o => e _ o (D.iz q hq).1 (D.iz q hq).2.2, b.at fun o => e _ o (D.lz q hq).1 (D.lz q hq).2.2⟩
theorem Mid.step {z TI TO : Addr} {h h' : Heap} {k j : Nat} {ss : List Src} {xss : List (Array Value)} {q : Src} (D : Apart z TI TO ss) (m : Mid h k j ss xss) (hq : ss[j]? = some q) (hi : ItK q.1 h' q.2.1 q.2.2 (k + 1)) (e : ∀ c o, c ≠ q.2.1 → h.get? c = some o → h'.get? c = some o) : Mid h' k (j + 1) ss xss := fun i r xs h1 h2 => by
  obtain ⟨a, b⟩ := m i r xs h1 h2
  have mr := List.mem_of_getElem? h1
  have mq := List.mem_of_getElem? hq
  refine ⟨?_, b.at fun o => e _ o (fun x => D.il q mq r mr x.symm)⟩
  by_cases ij : i = j
  · subst ij
    rw [hq] at h1
    cases h1
    rw [if_pos (Nat.lt_succ_self _)]
    exact hi
  · have ne : r.2.1 ≠ q.2.1 := fun x => ij (by
      obtain ⟨l1, e1⟩ := List.getElem?_eq_some_iff.mp h1
      obtain ⟨l2, e2⟩ := List.getElem?_eq_some_iff.mp hq
      have nd := List.pairwise_iff_getElem.mp D.nd
      rcases Nat.lt_trichotomy i j with lt | rfl | gt
      · exact absurd (by rw [List.getElem_map, List.getElem_map, e1, e2]; exact x) (nd i j (by rw [List.length_map]; exact l1) (by rw [List.length_map]; exact l2) lt)
      · rfl
      · exact absurd (by rw [List.getElem_map, List.getElem_map, e1, e2]; exact x.symm) (nd j i (by rw [List.length_map]; exact l2) (by rw [List.length_map]; exact l1) gt))
    have : (if i < j + 1 then k + 1 else k) = (if i < j then k + 1 else k) := by
      by_cases c : i < j
      · rw [if_pos c, if_pos (by omega)]
      · rw [if_neg c, if_neg (by omega)]
    rw [this]
    exact a.at fun o => e _ o ne
/-- what has been given out ahead -/
def Own (f0 : Value) : Prop := f0 = .none ∨ ∃ a, f0 = rawInt a
section
variable {prog : Program} {w : World} {A : Around} {E : Value → Shared → Prop} {s : Shared}
theorem alive {M : Model} {a : Addr} {Q : Option Obj → Shared → Prop} (h : Q (s.heap.get? a) s) : wpAny M A (loadIfAlive a) Q E s := fun _ _ _ => h
theorem set_mix {vs os : List Value} {j : Nat} {x : Value} (hl : os.length = vs.length) (hj : vs[j]? = some x) : (vs.take j ++ os.drop j).toArray.setIfInBounds j x = (vs.take (j + 1) ++ os.drop (j + 1)).toArray := by
  have hjl : j < vs.length := (List.getElem?_eq_some_iff.mp hj).1
  rw [List.setIfInBounds_toArray]
  congr 1
  have ho : os.drop j = os[j] :: os.drop (j + 1) := List.drop_eq_getElem_cons (by omega)
  have hlen : (vs.take j).length = j := by rw [List.length_take]; omega
  rw [ho, List.set_append_right _ _ (by omega), hlen, Nat.sub_self, List.set_cons_zero, List.take_add_one, hj]
  simp
theorem owned_free {z TI TO : Addr} {f0 f1 : Value} {Q : Bool → Shared → Prop} (hf : Own f0) (hz : IsZipN s.heap z TI TO f0 f1)
    (hQ : ∀ b h' f1', IsZipN h' z TI TO f0 f1' → Heap.SameBut z s.heap h' → Q b { s with heap := h' }) : wpAny (model prog w) A (Builtin.SmallTypes.ownedTupleIsFree (.ref z)) Q E s := by
  unfold Builtin.SmallTypes.ownedTupleIsFree
  refine wpAny_bind (wpAny_field hz rfl (x := f0) rfl ?_)
  rcases hf with rfl | ⟨a, rfl⟩
  · exact wpAny_pure (hQ true s.heap f1 hz (Heap.SameBut.refl ..))
  · show wpAny _ _ (loadIfAlive a.toNat >>= _) _ _ _
    refine wpAny_bind (alive ?_)
    cases s.heap.get? a.toNat with
    | none => exact wpAny_pure (hQ true s.heap f1 hz (Heap.SameBut.refl ..))
    | some o =>
      show wpAny _ _ (field (Value.ref z) 1 >>= _) _ _ _
      refine wpAny_bind (wpAny_field hz rfl (x := f1) rfl ?_)
      by_cases c : (f1 != Value.bool true) = true
      · rw [if_pos c]
        refine wpAny_bind (wpAny_setField_rec hz (by simp) fun h₁ hz₁ hs₁ => ?_)
        exact wpAny_pure (hQ false h₁ (.bool true) hz₁ hs₁)
      · rw [if_neg c]
        exact wpAny_pure (hQ false s.heap f1 hz (Heap.SameBut.refl ..))
end
end Zn

namespace Zn
open PySem
open PySem.Sem (wp)
section
variable {prog : Program} {w : World} {A : Around} {E : Value → Shared → Prop} {s : Shared}
/-- what stands after a turn -/
def After (z TI TO : Addr) (k : Nat) (ss : List Src) (xss : List (Array Value)) (vs : List Value) (h h' : Heap) : Prop :=
  (∃ f0 f1, Own f0 ∧ IsZipN h' z TI TO f0 f1) ∧ (∃ os, os.length = ss.length ∧ IsTupN h' TO os) ∧ At h' (k + 1) ss xss ∧ IsTupN h' h.objs.size vs ∧ h'.objs.size = h.objs.size + 1 ∧ Rest z TO ss h h'
theorem zip_item {z TI TO : Addr} {f0 f1 : Value} {ss : List Src} {xss : List (Array Value)} {k : Nat} {vs os : List Value} {Q : Value → Shared → Prop} (D : Apart z TI TO ss) (hne : ss ≠ []) (hl : xss.length = ss.length) (hv : vs.length = ss.length) (hsz : ss.length ≤ sizeLine)
    (hf : Own f0) (hz : IsZipN s.heap z TI TO f0 f1) (hTI : IsTupN s.heap TI (ss.map fun q => .ref q.2.1)) (hTO : IsTupN s.heap TO os) (ho : os.length = ss.length)
    (ha : At s.heap k ss xss) (hx : ∀ (j : Nat) (xs : Array Value), xss[j]? = some xs → xs[k]? = vs[j]?)
    (hQ : ∀ h', After z TI TO k ss xss vs s.heap h' → Q (.ref s.heap.objs.size) { s with heap := h' }) :
    wpAny (model prog w) A (Builtin.«zip.__next__» ⟨[.ref z], []⟩) (fun fin s' => ∃ v, fin = .done (.ret v) ∧ Q v s') E s := by
  show wpAny _ _ (field (.ref z) 2 >>= _) _ _ _
  refine wpAny_bind (wpAny_field hz rfl (x := .bool false) rfl ?_)
  show wpAny _ _ (field (.ref z) 3 >>= _) _ _ _
  refine wpAny_bind (wpAny_field hz rfl (x := .ref TI) rfl ?_)
  refine wpAny_bind (wpAny_seqItems hTI rfl ?_)
  have he : (ss.map fun q => Value.ref q.2.1).toArray.isEmpty = false := by
    cases ss with
    | nil => exact absurd rfl hne
    | cons a l => rfl
  simp only [he, Bool.false_eq_true, if_false]
  show wpAny _ _ (Builtin.SmallTypes.ownedTupleIsFree (.ref z) >>= _) _ _ _
  refine wpAny_bind (owned_free hf hz fun b h₀ f1' hz₀ hs₀ => ?_)
  have ha₀ : Mid h₀ k 0 ss xss := ha.mid.ext D fun c o c1 _ e => (hs₀.2 c c1).trans e
  have hTO₀ : IsTupN h₀ TO os := (hs₀.2 _ D.TOz).trans hTO
  have hTI₀ : IsTupN h₀ TI _ := (hs₀.2 _ D.TIz).trans hTI
  have at_ : ∀ {j q}, ss[j]? = some q → ∃ xs, xss[j]? = some xs ∧ ∃ x, vs[j]? = some x ∧ xs[k]? = some x := fun {j q} e => by
    have lj := (List.getElem?_eq_some_iff.mp e).1
    have e1 : xss[j]? = some xss[j] := List.getElem?_eq_getElem (by omega)
    have e2 : vs[j]? = some vs[j] := List.getElem?_eq_getElem (by omega)
    exact ⟨_, e1, _, e2, (hx j _ e1).trans e2⟩
  cases b with
  | true =>
    simp only [if_true]
    refine wpAny_bind (wpAny_rule ?_)
    refine wpAny_bind (wpAny_field hz₀ rfl (x := .ref TO) rfl ?_)
    refine wpAny_bind (wpAny_setField_rec hz₀ (by simp) fun h₁ hz₁ hs₁ => ?_)
    replace hz₁ : IsZipN h₁ z TI TO .ellipsis f1' := hz₁
    refine wpAny_bind ?_
    refine forIn_steps (List.map (fun q => Value.ref q.snd.fst) ss).zipIdx (fun _ => ((none : Option Fin), ())) (fun j s' => ∃ h, s' = { s with heap := h } ∧ h.objs.size = s.heap.objs.size ∧ Mid h k j ss xss ∧ IsZipN h z TI TO .ellipsis f1' ∧ IsTupN h TO (vs.take j ++ os.drop j) ∧ Rest z TO ss s.heap h) 0 _ ?_ ?_ ?_
    · rintro j ⟨a, ja⟩ s2 haj ⟨h, rfl, hsz2, hm, hzz, hto, hr⟩
      rw [Nat.zero_add] at hm hto ⊢
      obtain ⟨q, hq, ea, eja⟩ : ∃ q, ss[j]? = some q ∧ a = .ref q.2.1 ∧ ja = j := by
        rw [List.getElem?_zipIdx] at haj
        simp only [List.getElem?_map, Option.map_map, Option.map_eq_some_iff] at haj
        obtain ⟨q, hq, e⟩ := haj
        have e' := Prod.mk.inj e
        exact ⟨q, hq, e'.1.symm, by have := e'.2; omega⟩
      subst ea eja
      obtain ⟨xs, hxs, x, hvx, hxk⟩ := at_ hq
      have mq := List.mem_of_getElem? hq
      obtain ⟨i1, i2⟩ := hm ja q xs hq hxs
      rw [if_neg (Nat.lt_irrefl _)] at i1
      refine wpAny_bind (wpAny_onRaise ?_)
      show wpAny _ _ (Builtin.SmallTypes.nextOf (.ref q.2.1) >>= _) _ _ _
      refine wpAny_bind (next_item i1 i2 hxk fun h₂ i3 hs₂ => wpAny_pure ?_)
      have hto₂ : IsTupN h₂ TO _ := (hs₂.2 _ (D.iz q mq).2.2.symm).trans hto
      refine wpAny_bind (wpAny_seqItems hto₂ rfl ?_)
      have sz : (vs.take ja ++ os.drop ja).toArray.size ≤ sizeLine := by
        simp only [List.size_toArray, List.length_append, List.length_take, List.length_drop]
        omega
      refine wpAny_bind (wpAny_updateSeq hto₂ rfl ?_ sz (by rw [Array.size_setIfInBounds]; omega))
      have hs₃ := Heap.SameBut.update h₂ TO (Obj.mapSeq (·.setIfInBounds ja x))
      have hto₃ : IsTupN (h₂.update TO (Obj.mapSeq (·.setIfInBounds ja x))) TO (vs.take (ja + 1) ++ os.drop (ja + 1)) := by
        have := Heap.get?_update_self (Obj.mapSeq (·.setIfInBounds ja x)) hto₂ rfl
        refine this.trans ?_
        rw [← set_mix (by omega) hvx]
        simp [Obj.mapSeq]
      refine wpAny_bind (wpAny_letGo (wpAny_pure ⟨rfl, _, rfl, hs₃.1.trans (hs₂.1.trans hsz2), ?_, ?_, hto₃, ?_⟩))
      · exact (hm.step D hq i3 fun c o cn e => (hs₂.2 c cn).trans e).ext D fun c o _ c2 e => (hs₃.2 c c2).trans e
      · exact (hs₃.2 _ D.TOz.symm).trans ((hs₂.2 _ (D.iz q mq).1.symm).trans hzz)
      · exact fun c o c1 c2 c3 e => (hs₃.2 c c2).trans ((hs₂.2 c (c3 q mq)).trans (hr c o c1 c2 c3 e))
    · exact ⟨h₁, rfl, hs₁.1.trans hs₀.1, ha₀.ext D fun c o c1 _ e => (hs₁.2 c c1).trans e, hz₁, by rw [List.take_zero, List.nil_append, List.drop_zero]; exact (hs₁.2 _ D.TOz).trans hTO₀,
        fun c o c1 _ _ e => (hs₁.2 c c1).trans ((hs₀.2 c c1).trans e)⟩
    · rintro s2 ⟨h, rfl, hsz2, hm, hzz, hto, hr⟩
      have hlen : (List.map (fun q => Value.ref q.snd.fst) ss).zipIdx.length = ss.length := by rw [List.length_zipIdx, List.length_map]
      rw [Nat.zero_add, hlen] at hm hto
      have hto : IsTupN h TO vs := by
        have e : vs.take ss.length ++ os.drop ss.length = vs := by rw [List.take_of_length_le (by omega), List.drop_of_length_le (by omega), List.append_nil]
        rw [e] at hto
        exact hto
      show wpAny _ _ (seqItems? (.ref TO) >>= _) _ _ _
      refine wpAny_bind (wpAny_seqItems hto rfl ?_)
      refine wpAny_bind (wpAny_newTuple ?_ (by simp only [List.toList_toArray]; omega))
      have hzlt : z < h.objs.size := Heap.lt_size hzz
      have hz₆ : IsZipN (h.push { cls := .type "tuple", data := .seq vs.toArray }) z TI TO .ellipsis f1' := Heap.get?_push_of_some _ hzz
      show wpAny _ _ (Builtin.SmallTypes.ownedTupleHandOut (.ref z) (.ref h.objs.size) >>= _) _ _ _
      refine wpAny_bind ?_
      unfold Builtin.SmallTypes.ownedTupleHandOut
      refine wpAny_bind (wpAny_setField_rec hz₆ (by simp) fun h₇ hz₇ hs₇ => ?_)
      replace hz₇ : IsZipN h₇ z TI TO (rawInt h.objs.size) f1' := hz₇
      refine wpAny_setField_rec hz₇ (by simp) fun h₈ hz₈ hs₈ => ?_
      replace hz₈ : IsZipN h₈ z TI TO (rawInt h.objs.size) (.bool false) := hz₈
      have up : ∀ c o, c ≠ z → h.get? c = some o → h₈.get? c = some o := fun c o c1 e => (hs₈.2 c c1).trans ((hs₇.2 c c1).trans (Heap.get?_push_of_some _ e))
      have hT₈ : IsTupN h₈ h.objs.size vs := (hs₈.2 _ (Nat.ne_of_gt hzlt)).trans ((hs₇.2 _ (Nat.ne_of_gt hzlt)).trans (Heap.get?_push_size _ rfl))
      refine wpAny_pure ⟨_, rfl, ?_⟩
      show Q (.ref h.objs.size) _
      rw [hsz2] at hT₈ ⊢
      refine hQ h₈ ⟨⟨_, _, .inr ⟨_, rfl⟩, hz₈⟩, ⟨vs, hv, up _ _ D.TOz hto⟩, (hm.ext D fun c o c1 _ e => up c o c1 e).done rfl, hT₈, ?_, fun c o c1 c2 c3 e => up c o c1 (hr c o c1 c2 c3 e)⟩
      rw [hs₈.1, hs₇.1, Heap.size_push, hsz2]
  | false =>
    simp only [Bool.false_eq_true, if_false]
    refine wpAny_bind ?_
    rw [← Array.forIn_toList]
    refine forIn_steps (List.map (fun q => Value.ref q.snd.fst) ss) (fun j => ((none : Option Fin), (vs.take j).toArray)) (fun j s' => ∃ h, s' = { s with heap := h } ∧ h.objs.size = s.heap.objs.size ∧ Mid h k j ss xss ∧ IsZipN h z TI TO f0 f1' ∧ IsTupN h TO os ∧ Rest z TO ss s.heap h) 0 _ ?_ ?_ ?_
    · rintro j a s2 haj ⟨h, rfl, hsz2, hm, hzz, hto, hr⟩
      rw [Nat.zero_add] at hm ⊢
      obtain ⟨q, hq, ea⟩ : ∃ q, ss[j]? = some q ∧ a = .ref q.2.1 := by
        simp only [List.getElem?_map, Option.map_eq_some_iff] at haj
        obtain ⟨q, hq, e⟩ := haj
        exact ⟨q, hq, e.symm⟩
      subst ea
      obtain ⟨xs, hxs, x, hvx, hxk⟩ := at_ hq
      have mq := List.mem_of_getElem? hq
      obtain ⟨i1, i2⟩ := hm j q xs hq hxs
      rw [if_neg (Nat.lt_irrefl _)] at i1
      refine wpAny_bind (wpAny_holding ?_)
      show wpAny _ _ (Builtin.SmallTypes.nextOf (.ref q.2.1) >>= _) _ _ _
      refine wpAny_bind (next_item i1 i2 hxk fun h₂ i3 hs₂ => wpAny_pure ?_)
      refine wpAny_pure ⟨?_, h₂, rfl, hs₂.1.trans hsz2, hm.step D hq i3 fun c o cn e => (hs₂.2 c cn).trans e, (hs₂.2 _ (D.iz q mq).1.symm).trans hzz, (hs₂.2 _ (D.iz q mq).2.2.symm).trans hto, fun c o c1 c2 c3 e => (hs₂.2 c (c3 q mq)).trans (hr c o c1 c2 c3 e)⟩
      rw [List.take_add_one, hvx]
      simp
    · exact ⟨h₀, rfl, hs₀.1, ha₀, hz₀, hTO₀, fun c o c1 _ _ e => (hs₀.2 c c1).trans e⟩
    · rintro s2 ⟨h, rfl, hsz2, hm, hzz, hto, hr⟩
      rw [Nat.zero_add, List.length_map] at hm
      have e : (vs.take (0 + (List.map (fun q => Value.ref q.snd.fst) ss).length)) = vs := by rw [Nat.zero_add, List.length_map, List.take_of_length_le (by omega)]
      rw [e]
      refine wpAny_bind (wpAny_newTuple ?_ (by simp only [List.toList_toArray]; omega))
      have up : ∀ c o, h.get? c = some o → (h.push { cls := .type "tuple", data := .seq vs.toArray.toList.toArray }).get? c = some o := fun c o e => Heap.get?_push_of_some _ e
      refine wpAny_pure ⟨_, rfl, ?_⟩
      show Q (.ref h.objs.size) _
      rw [hsz2]
      refine hQ _ ⟨⟨_, _, hf, up _ _ hzz⟩, ⟨os, ho, up _ _ hto⟩, (hm.ext D fun c o _ _ e => up c o e).done rfl, ?_, ?_, fun c o c1 c2 c3 e => up c o (hr c o c1 c2 c3 e)⟩
      · rw [← hsz2]
        exact Heap.get?_push_size _ rfl
      · rw [Heap.size_push, hsz2]
end
end Zn

namespace Zn
open PySem
open PySem.Sem (wp)
section
variable {prog : Program} {w : World} {A : Around} {E : Value → Shared → Prop} {s : Shared}
/-- where the first source has come to its end, or there is none -/
def Out (h : Heap) (k : Nat) (ss : List Src) : Prop := ss = [] ∨ ∃ (q : Src) (xs : Array Value), ss[0]? = some q ∧ ItK q.1 h q.2.1 q.2.2 k ∧ SqK q.1 h q.2.2 xs ∧ xs[k]? = none
theorem stop_out {α : Type} {Q : α → Shared → Prop} (hh : A.handled = none) (hE : ∀ h' e, (∀ c o, s.heap.get? c = some o → h'.get? c = some o) → (∃ o, h'.get? e = some o ∧ o.cls = .type "StopIteration") → E (.ref e) { s with heap := h' }) :
    wpAny (model prog w) A (Builtin.SmallTypes.stopIteration : Sem α) Q E s := by
  show wpAny _ _ (newExc (.type "StopIteration") [] >>= _) _ _ _
  refine wpAny_bind ?_
  simp only [newExc, newTuple]
  refine wpAny_bind (wpAny_newObj_type ?_ (by size_fits))
  refine wpAny_bind (m := firstArgMember _ _) (wpAny_of_eq (a := Value.none) (by first | rfl | (simp only [firstArgMember]; rfl)) (wpAny_newObj_type ?_ (by size_fits)))
  simp only [raiseNew]
  refine wpAny_bind (wpAny_handled ?_)
  first | rw [show A.in1.handled = none from hh] | rw [hh]
  refine wpAny_bind (wpAny_pure (wpAny_throw ?_))
  exact hE _ _ (fun c o e => Heap.get?_push_of_some _ (Heap.get?_push_of_some _ e)) ⟨_, Heap.get?_push_size _ rfl, rfl⟩
theorem zip_end {z TI TO : Addr} {f0 f1 : Value} {ss : List Src} {k : Nat} {os : List Value} {Q : Fin → Shared → Prop} (hh : A.handled = none) (D : Apart z TI TO ss)
    (hf : Own f0) (hz : IsZipN s.heap z TI TO f0 f1) (hTI : IsTupN s.heap TI (ss.map fun q => .ref q.2.1)) (hTO : IsTupN s.heap TO os) (ho : os.length = ss.length)
    (hx : Out s.heap k ss)
    (hE : ∀ h' e, Rest z TO ss s.heap h' → (∃ o, h'.get? e = some o ∧ o.cls = .type "StopIteration") → E (.ref e) { s with heap := h' }) :
    wpAny (model prog w) A (Builtin.«zip.__next__» ⟨[.ref z], []⟩) Q E s := by
  show wpAny _ _ (field (.ref z) 2 >>= _) _ _ _
  refine wpAny_bind (wpAny_field hz rfl (x := .bool false) rfl ?_)
  show wpAny _ _ (field (.ref z) 3 >>= _) _ _ _
  refine wpAny_bind (wpAny_field hz rfl (x := .ref TI) rfl ?_)
  refine wpAny_bind (wpAny_seqItems hTI rfl ?_)
  match ss, D, hTI, ho, hx, hE with
  | [], D, hTI, ho, hx, hE =>
    show wpAny _ _ (rule _ >>= _) _ _ _
    refine wpAny_bind (wpAny_rule ?_)
    exact wpAny_bind (stop_out hh fun h' e k1 k2 => hE h' e (fun c o _ _ _ e => k1 c o e) k2)
  | q :: ss, D, hTI, ho, hx, hE =>
    obtain ⟨i0, s0⟩ : ∃ xs, ItK q.1 s.heap q.2.1 q.2.2 k ∧ SqK q.1 s.heap q.2.2 xs ∧ xs[k]? = none := by
      obtain ⟨q', xs, e, r⟩ := hx.resolve_left (fun e => nomatch e)
      cases e
      exact ⟨xs, r⟩
    obtain ⟨i0, s0, hxk⟩ := s0
    have he : (List.map (fun q => Value.ref q.2.1) (q :: ss)).toArray.isEmpty = false := rfl
    simp only [he, Bool.false_eq_true, if_false]
    show wpAny _ _ (Builtin.SmallTypes.ownedTupleIsFree (.ref z) >>= _) _ _ _
    refine wpAny_bind (owned_free hf hz fun b h₀ f1' hz₀ hs₀ => ?_)
    have mq : q ∈ q :: ss := List.mem_cons_self
    have i0 := i0.at fun o e => (hs₀.2 _ (D.iz q mq).1).trans e
    have s0 := s0.at fun o e => (hs₀.2 _ (D.lz q mq).1).trans e
    have e0 : (List.map (fun q => Value.ref q.2.1) (q :: ss)) = .ref q.2.1 :: List.map (fun q => Value.ref q.2.1) ss := rfl
    cases b with
    | true =>
      simp only [if_true]
      refine wpAny_bind (wpAny_rule ?_)
      refine wpAny_bind (wpAny_field hz₀ rfl (x := .ref TO) rfl ?_)
      refine wpAny_bind (wpAny_setField_rec hz₀ (by simp) fun h₁ hz₁ hs₁ => ?_)
      replace hz₁ : IsZipN h₁ z TI TO .ellipsis f1' := hz₁
      refine wpAny_bind ?_
      have i1 := i0.at fun o e => (hs₁.2 _ (D.iz q mq).1).trans e
      have i2 := s0.at fun o e => (hs₁.2 _ (D.lz q mq).1).trans e
      simp only [e0, List.zipIdx_cons, List.forIn_cons]
      refine wpAny_bind (wpAny_bind (wpAny_onRaise ?_))
      show wpAny _ _ (Builtin.SmallTypes.nextOf (.ref q.2.1) >>= _) _ _ _
      refine wpAny_bind (next_end hh i1 i2 hxk fun h₂ e hs₂ ⟨oe, hoe, hce⟩ => ?_)
      have hz₂ : IsZipN h₂ z TI TO .ellipsis f1' := hs₂ _ _ (D.iz q mq).1.symm hz₁
      have hez : e ≠ z := fun x => by
        rw [x, hz₂] at hoe
        cases hoe
        simp at hce
      refine wpAny_setField_rec hz₂ (by simp) fun h₃ _ hs₃ => hE h₃ e (fun c o c1 _ c3 x => (hs₃.2 c c1).trans (hs₂ _ _ (c3 q mq) ((hs₁.2 c c1).trans ((hs₀.2 c c1).trans x)))) ⟨oe, (hs₃.2 _ hez).trans hoe, hce⟩
    | false =>
      simp only [Bool.false_eq_true, if_false]
      refine wpAny_bind ?_
      rw [← Array.forIn_toList]
      simp only [e0, List.forIn_cons]
      refine wpAny_bind (wpAny_bind (wpAny_holding ?_))
      show wpAny _ _ (Builtin.SmallTypes.nextOf (.ref q.2.1) >>= _) _ _ _
      refine wpAny_bind (next_end hh i0 s0 hxk fun h₂ e hs₂ he => hE h₂ e (fun c o c1 _ c3 x => hs₂ _ _ (c3 q mq) ((hs₀.2 c c1).trans x)) he)
theorem next_zip {z TI TO : Addr} {f0 f1 : Value} {ss : List Src} {xss : List (Array Value)} {k : Nat} {vs os : List Value} {Q : Option Value → Shared → Prop} (D : Apart z TI TO ss) (hne : ss ≠ []) (hl : xss.length = ss.length) (hv : vs.length = ss.length) (hsz : ss.length ≤ sizeLine)
    (hf : Own f0) (hz : IsZipN s.heap z TI TO f0 f1) (hTI : IsTupN s.heap TI (ss.map fun q => .ref q.2.1)) (hTO : IsTupN s.heap TO os) (ho : os.length = ss.length)
    (ha : At s.heap k ss xss) (hx : ∀ (j : Nat) (xs : Array Value), xss[j]? = some xs → xs[k]? = vs[j]?)
    (hQ : ∀ h', After z TI TO k ss xss vs s.heap h' → Q (some (.ref s.heap.objs.size)) { s with heap := h' }) : wpAny (model prog w) A (pyNext (.ref z)) Q E s := by
  have hT : s.TypeIs (.ref z) "zip" := ⟨_, hz, rfl⟩
  unfold pyNext
  exact wpAny_bind (wpAny_attempt (wpAny_callSpecial?_slot (name := Str.ofString "__next__") hT F.slot_zip_next (wpAny_call_entry F.slot_zip_next hT F.entry_zip_next
    (zip_item D hne hl hv hsz hf hz hTI hTO ho ha hx fun h' a => wpAny_pure (hQ h' a)) (F.args_zip_next_1 _))))
theorem next_zip_end {z TI TO : Addr} {f0 f1 : Value} {ss : List Src} {k : Nat} {os : List Value} {Q : Option Value → Shared → Prop} (hh : A.handled = none) (D : Apart z TI TO ss)
    (hf : Own f0) (hz : IsZipN s.heap z TI TO f0 f1) (hTI : IsTupN s.heap TI (ss.map fun q => .ref q.2.1)) (hTO : IsTupN s.heap TO os) (ho : os.length = ss.length)
    (hx : Out s.heap k ss)
    (hQ : ∀ h', Rest z TO ss s.heap h' → Q none { s with heap := h' }) : wpAny (model prog w) A (pyNext (.ref z)) Q E s := by
  have hT : s.TypeIs (.ref z) "zip" := ⟨_, hz, rfl⟩
  unfold pyNext
  refine wpAny_bind (wpAny_attempt (wpAny_callSpecial?_slot (name := Str.ofString "__next__") hT F.slot_zip_next (wpAny_call_entry F.slot_zip_next hT F.entry_zip_next
    (zip_end hh D hf hz hTI hTO ho hx fun h' e hk he => ?_) (F.args_zip_next_1 _))))
  obtain ⟨o, ho, hc⟩ := he
  exact wpAny_bind (wpAny_isInstance (T := "StopIteration") (b := true) ⟨o, ho, hc⟩ isSubtype_stop (wpAny_pure (hQ _ hk)))
/-- the step ahead of the store, for any target -/
theorem go_zip {tg : Expr} {z TI TO T : Addr} {f0 f1 : Value} {Q : Unit → Shared → Prop} (hf : Own f0) (hz : IsZipN s.heap z TI TO f0 f1)
    (hQ : ∀ h' f0', Own f0' → IsZipN h' z TI TO f0' f1 → Heap.SameBut z s.heap h' → Q () { s with heap := h' }) : wpAny (model prog w) A (letOwnedTupleGo tg (.ref z) (.ref T)) Q E s := by
  have same := hQ s.heap f0 hf hz (Heap.SameBut.refl ..)
  have main : wpAny (model prog w) A (do
      let o ← load z
      match o.cls, o.data with
      | .type n, .fields vs =>
        if ["enumerate", "zip", "dict_itemiterator", "dict_reverseitemiterator", "odict_iterator", "itertools.zip_longest", "itertools.pairwise"].contains n && vs[0]? == some (rawInt T) then
          rule "for.unpacks-the-owned-tuple"
          updateField z 0 .none
      | _, _ => pure ()) Q E s := by
    refine wpAny_bind (wpAny_load hz ?_)
    by_cases c : (["enumerate", "zip", "dict_itemiterator", "dict_reverseitemiterator", "odict_iterator", "itertools.zip_longest", "itertools.pairwise"].contains "zip" && (#[f0, f1, .bool false, .ref TI, .ref TO] : Array Value)[0]? == some (rawInt T)) = true
    · show wpAny _ _ (if _ then _ else _) _ _ _
      rw [if_pos c]
      refine wpAny_bind (wpAny_rule ?_)
      show wpAny _ _ (setField (.ref z) 0 .none) Q E s
      exact wpAny_setField_rec hz (by simp) fun h' hz' hs' => hQ h' .none (.inl rfl) hz' hs'
    · show wpAny _ _ (if _ then _ else _) _ _ _
      rw [if_neg c]
      exact wpAny_pure same
  unfold letOwnedTupleGo
  cases tg <;> first
    | exact wpAny_pure same
    | exact main
end
end Zn

namespace Zn
open PySem PySem.F
theorem tc : ∀ us : List Value, us.length ≤ 12 → checkTypeCall "zip" ⟨us, []⟩ = pure ()
  | [], _ => by kernel_rfl
  | [a0], _ => by kernel_rfl
  | [a0, a1], _ => by kernel_rfl
  | [a0, a1, a2], _ => by kernel_rfl
  | [a0, a1, a2, a3], _ => by kernel_rfl
  | [a0, a1, a2, a3, a4], _ => by kernel_rfl
  | [a0, a1, a2, a3, a4, a5], _ => by kernel_rfl
  | [a0, a1, a2, a3, a4, a5, a6], _ => by kernel_rfl
  | [a0, a1, a2, a3, a4, a5, a6, a7], _ => by kernel_rfl
  | [a0, a1, a2, a3, a4, a5, a6, a7, a8], _ => by kernel_rfl
  | [a0, a1, a2, a3, a4, a5, a6, a7, a8, a9], _ => by kernel_rfl
  | [a0, a1, a2, a3, a4, a5, a6, a7, a8, a9, a10], _ => by kernel_rfl
  | [a0, a1, a2, a3, a4, a5, a6, a7, a8, a9, a10, a11], _ => by kernel_rfl
  | _ :: _ :: _ :: _ :: _ :: _ :: _ :: _ :: _ :: _ :: _ :: _ :: _ :: _, h => by simp only [List.length_cons] at h; omega
theorem nc : ∀ us : List Value, us.length ≤ 12 → checkBuiltinCall "zip.__new__" ⟨.type "zip" :: us, []⟩ = pure ()
  | [], _ => by kernel_rfl
  | [a0], _ => by kernel_rfl
  | [a0, a1], _ => by kernel_rfl
  | [a0, a1, a2], _ => by kernel_rfl
  | [a0, a1, a2, a3], _ => by kernel_rfl
  | [a0, a1, a2, a3, a4], _ => by kernel_rfl
  | [a0, a1, a2, a3, a4, a5], _ => by kernel_rfl
  | [a0, a1, a2, a3, a4, a5, a6], _ => by kernel_rfl
  | [a0, a1, a2, a3, a4, a5, a6, a7], _ => by kernel_rfl
  | [a0, a1, a2, a3, a4, a5, a6, a7, a8], _ => by kernel_rfl
  | [a0, a1, a2, a3, a4, a5, a6, a7, a8, a9], _ => by kernel_rfl
  | [a0, a1, a2, a3, a4, a5, a6, a7, a8, a9, a10], _ => by kernel_rfl
  | [a0, a1, a2, a3, a4, a5, a6, a7, a8, a9, a10, a11], _ => by kernel_rfl
  | _ :: _ :: _ :: _ :: _ :: _ :: _ :: _ :: _ :: _ :: _ :: _ :: _ :: _, h => by simp only [List.length_cons] at h; omega
theorem oi (o : Value) : ∀ us : List Value, us.length ≤ 12 → argsOk "object.__init__" ⟨o :: us, []⟩ := by
  unfold argsOk
  rw [signature?_of (id := "object.__init__") (n := ['_', '_', 't', 'i', 'n', 'i', '_', '_']) (o := ['t', 'c', 'e', 'j', 'b', 'o']) (by kernel_rfl) owner_object]
  exact fun us h => match us, h with
  | [], _ => by kernel_rfl
  | [a0], _ => by kernel_rfl
  | [a0, a1], _ => by kernel_rfl
  | [a0, a1, a2], _ => by kernel_rfl
  | [a0, a1, a2, a3], _ => by kernel_rfl
  | [a0, a1, a2, a3, a4], _ => by kernel_rfl
  | [a0, a1, a2, a3, a4, a5], _ => by kernel_rfl
  | [a0, a1, a2, a3, a4, a5, a6], _ => by kernel_rfl
  | [a0, a1, a2, a3, a4, a5, a6, a7], _ => by kernel_rfl
  | [a0, a1, a2, a3, a4, a5, a6, a7, a8], _ => by kernel_rfl
  | [a0, a1, a2, a3, a4, a5, a6, a7, a8, a9], _ => by kernel_rfl
  | [a0, a1, a2, a3, a4, a5, a6, a7, a8, a9, a10], _ => by kernel_rfl
  | [a0, a1, a2, a3, a4, a5, a6, a7, a8, a9, a10, a11], _ => by kernel_rfl
  | _ :: _ :: _ :: _ :: _ :: _ :: _ :: _ :: _ :: _ :: _ :: _ :: _ :: _, h => by simp only [List.length_cons] at h; omega
end Zn

namespace Zn
open PySem
open PySem.Sem (wp)
/-- what is walked, at its place -/
def Laid (h : Heap) (bs : List (Bool × Addr)) (xss : List (Array Value)) : Prop := ∀ (j : Nat) (q : Bool × Addr) (xs : Array Value), bs[j]? = some q → xss[j]? = some xs → SqK q.1 h q.2 xs
/-- the sources of iterators that stand from n on -/
def srcs (n : Nat) (bs : List (Bool × Addr)) : List Src := bs.zipIdx.map fun q => (q.1.1, n + q.2, q.1.2)
theorem srcs_get {n : Nat} {bs : List (Bool × Addr)} {j : Nat} {q : Src} : (srcs n bs)[j]? = some q ↔ ∃ b, bs[j]? = some b ∧ q = (b.1, n + j, b.2) := by
  unfold srcs
  simp only [List.getElem?_map, List.getElem?_zipIdx, Option.map_map, Option.map_eq_some_iff, Nat.zero_add]
  constructor
  · rintro ⟨b, e, rfl⟩
    exact ⟨b, e, rfl⟩
  · rintro ⟨b, e, rfl⟩
    exact ⟨b, e, rfl⟩
theorem srcs_len {n : Nat} {bs : List (Bool × Addr)} : (srcs n bs).length = bs.length := by
  unfold srcs
  rw [List.length_map, List.length_zipIdx]
section
variable {prog : Program} {w : World} {A : Around} {E : Value → Shared → Prop} {s : Shared}
theorem iter_all {bs : List (Bool × Addr)} {xss : List (Array Value)} {Q : List Value → Shared → Prop} (hl : xss.length = bs.length) (hb : Laid s.heap bs xss)
    (hQ : ∀ h', h'.objs.size = s.heap.objs.size + bs.length → (∀ c o, s.heap.get? c = some o → h'.get? c = some o) → At h' 0 (srcs s.heap.objs.size bs) xss → Q ((srcs s.heap.objs.size bs).map fun q => .ref q.2.1) { s with heap := h' }) :
    wpAny (model prog w) A (Builtin.SmallTypes.iterAll (bs.map fun q => .ref q.2)) Q E s := by
  unfold Builtin.SmallTypes.iterAll
  refine wpAny_bind ?_
  refine forIn_steps (bs.map fun q => Value.ref q.2) (fun j => (((srcs s.heap.objs.size bs).map fun q => Value.ref q.2.1).take j).toArray)
    (fun j s' => ∃ h, s' = { s with heap := h } ∧ h.objs.size = s.heap.objs.size + j ∧ (∀ c o, s.heap.get? c = some o → h.get? c = some o) ∧ ∀ (i : Nat) (q : Src) (xs : Array Value), i < j → (srcs s.heap.objs.size bs)[i]? = some q → xss[i]? = some xs → ItK q.1 h q.2.1 q.2.2 0) 0 _ ?_ ?_ ?_
  · rintro j a s2 haj ⟨h, rfl, hz, hk, hi⟩
    rw [Nat.zero_add] at hz hi ⊢
    obtain ⟨q, hq, rfl⟩ : ∃ q, bs[j]? = some q ∧ Value.ref q.2 = a := by
      simpa only [List.getElem?_map, Option.map_eq_some_iff] using haj
    have lj := (List.getElem?_eq_some_iff.mp hq).1
    have e1 : xss[j]? = some xss[j] := List.getElem?_eq_getElem (by omega)
    have hs := hb j q _ hq e1
    refine wpAny_bind (wpAny_holding (iter_seq (s := { s with heap := h }) (hs.at fun o e => hk _ _ e) fun h' z1 k1 i1 => ?_))
    have z1 : h'.objs.size = h.objs.size + 1 := z1
    have i1 : ItK q.1 h' h.objs.size q.2 0 := i1
    have k1 : ∀ c o, h.get? c = some o → h'.get? c = some o := k1
    have eq : (srcs s.heap.objs.size bs)[j]? = some (q.1, s.heap.objs.size + j, q.2) := srcs_get.mpr ⟨q, hq, rfl⟩
    refine wpAny_pure ⟨?_, h', rfl, by omega, fun c o e => k1 c o (hk c o e), fun i r xs hij hr hx => ?_⟩
    · show ForInStep.yield ((List.take j _).toArray.push (Value.ref h.objs.size)) = _
      rw [List.take_add_one, List.getElem?_map, eq, hz]
      simp
    · by_cases c : i = j
      · subst c
        rw [eq] at hr
        cases hr
        rw [← hz]
        exact i1
      · exact (hi i r xs (by omega) hr hx).at fun o e => k1 _ _ e
  · exact ⟨s.heap, rfl, rfl, fun _ _ e => e, fun i q xs hi => absurd hi (Nat.not_lt_zero _)⟩
  · rintro s2 ⟨h, rfl, hz, hk, hi⟩
    rw [Nat.zero_add, List.length_map] at hz hi ⊢
    have e : List.take bs.length ((srcs s.heap.objs.size bs).map fun q => Value.ref q.2.1) = (srcs s.heap.objs.size bs).map fun q => Value.ref q.2.1 := List.take_of_length_le (by rw [List.length_map, srcs_len]; exact Nat.le_refl _)
    rw [e]
    refine wpAny_pure ?_
    refine hQ h hz hk fun i q xs hq hx => ⟨hi i q xs (by rw [← srcs_len (n := s.heap.objs.size)]; exact (List.getElem?_eq_some_iff.mp hq).1) hq hx, ?_⟩
    obtain ⟨b, hbq, rfl⟩ := srcs_get.mp hq
    exact (hb i b xs hbq hx).at fun o e => hk _ _ e
end
theorem class_zip (us : List Value) : Builtin.SmallTypes.newClass "zip" ⟨.type "zip" :: us, []⟩ = pure (.type "zip", us) := by
  unfold Builtin.SmallTypes.newClass
  show (isType (.type "zip") >>= _) = _
  have h1 : isType (.type "zip") = pure true := rfl
  simp only [h1, pure_bind, sub_zip]
  rfl
theorem meets_new (bs : List (Bool × Addr)) (xss : List (Array Value)) (hl : xss.length = bs.length) (hz : bs.length ≤ sizeLine) :
    Meets (Builtin.«zip.__new__» ⟨.type "zip" :: bs.map (fun q => .ref q.2), []⟩) (fun _ R s => Laid s.heap bs xss ∧ ∀ h', (∀ c o, s.heap.get? c = some o → h'.get? c = some o) → h'.objs.size = s.heap.objs.size + bs.length + 3 →
      At h' 0 (srcs s.heap.objs.size bs) xss → IsTupN h' (s.heap.objs.size + bs.length) ((srcs s.heap.objs.size bs).map fun q => .ref q.2.1) → IsTupN h' (s.heap.objs.size + bs.length + 1) ((srcs s.heap.objs.size bs).map fun _ => .none) →
      IsZipN h' (s.heap.objs.size + bs.length + 2) (s.heap.objs.size + bs.length) (s.heap.objs.size + bs.length + 1) .none (.bool false) → R (.ok (.ret (.ref (s.heap.objs.size + bs.length + 2)))) { s with heap := h' }) :=
  .of_wp fun prog w A R s h => by
    obtain ⟨hb, h⟩ := h
    unfold Builtin.«zip.__new__»
    refine wpAny_bind (wpAny_of_eq (class_zip _) ?_)
    show wpAny _ _ (Builtin.SmallTypes.iterAll _ >>= _) _ _ _
    refine wpAny_bind (iter_all hl hb fun h' z1 k1 a1 => ?_)
    have hs2 : ((srcs s.heap.objs.size bs).map fun q => Value.ref q.2.1).length ≤ sizeLine := by rw [List.length_map, srcs_len]; exact hz
    refine wpAny_bind (wpAny_newTuple ?_ hs2)
    refine wpAny_bind (wpAny_newTuple ?_ (by rw [List.length_map]; exact hs2))
    have p1 : ∀ {hh : Heap} {x y : Obj} {c o}, hh.get? c = some o → ((hh.push x).push y).get? c = some o := fun e => Heap.get?_push_of_some _ (Heap.get?_push_of_some _ e)
    refine wpAny_bind ?_
    unfold Builtin.SmallTypes.newRecord
    refine wpAny_newObj_type (wpAny_pure ⟨_, rfl, ?_⟩) (by show 5 ≤ sizeLine + 2; decide)
    have s1 : (h'.push ({ cls := .type "tuple", data := .seq (List.map (fun q => Value.ref q.snd.fst) (srcs s.heap.objs.size bs)).toArray } : Obj)).objs.size = s.heap.objs.size + bs.length + 1 := by rw [Heap.size_push, z1]
    have s2 : ((h'.push ({ cls := .type "tuple", data := .seq (List.map (fun q => Value.ref q.snd.fst) (srcs s.heap.objs.size bs)).toArray } : Obj)).push ({ cls := .type "tuple", data := .seq (List.map (fun _ => Value.none) (List.map (fun q => Value.ref q.snd.fst) (srcs s.heap.objs.size bs))).toArray } : Obj)).objs.size = s.heap.objs.size + bs.length + 2 := by rw [Heap.size_push, s1]
    show R (Except.ok (Flow.ret (Value.ref (Heap.objs (Heap.push _ _)).size))) _
    rw [s2]
    refine h _ (fun c o e => Heap.get?_push_of_some _ (p1 (k1 c o e))) ?_ (fun i q xs hq hx => ?_) ?_ ?_ ?_
    · show (Heap.objs (Heap.push _ _)).size = _
      rw [Heap.size_push, s2]
    · obtain ⟨b, hbq, e⟩ := srcs_get.mp hq
      obtain ⟨x1, x2⟩ := a1 i q xs hq hx
      exact ⟨x1.at fun o e => Heap.get?_push_of_some _ (p1 e), x2.at fun o e => Heap.get?_push_of_some _ (p1 e)⟩
    · rw [← z1]
      exact Heap.get?_push_of_some _ (Heap.get?_push_of_some _ (Heap.get?_push_size _ rfl))
    · rw [← s1]
      refine (Heap.get?_push_of_some _ (Heap.get?_push_size _ rfl)).trans ?_
      rw [List.map_map]
      rfl
    · rw [← s2]
      refine (Heap.get?_push_size _ rfl).trans ?_
      show some ({ cls := .type "zip", data := .fields #[.none, .bool false, Value.bool false, Value.ref h'.objs.size, Value.ref (h'.push ({ cls := .type "tuple", data := .seq (List.map (fun q => Value.ref q.snd.fst) (srcs s.heap.objs.size bs)).toArray } : Obj)).objs.size] } : Obj) = _
      rw [s1, z1]
section
variable {prog : Program} {w : World} {A : Around} {E : Value → Shared → Prop} {s : Shared}
theorem call_zipN {bs : List (Bool × Addr)} {xss : List (Array Value)} {Q : Value → Shared → Prop} (hl : xss.length = bs.length) (hz : bs.length ≤ 12) (hb : Laid s.heap bs xss)
    (h : ∀ h', (∀ c o, s.heap.get? c = some o → h'.get? c = some o) → h'.objs.size = s.heap.objs.size + bs.length + 3 →
      At h' 0 (srcs s.heap.objs.size bs) xss → IsTupN h' (s.heap.objs.size + bs.length) ((srcs s.heap.objs.size bs).map fun q => .ref q.2.1) → IsTupN h' (s.heap.objs.size + bs.length + 1) ((srcs s.heap.objs.size bs).map fun _ => .none) →
      IsZipN h' (s.heap.objs.size + bs.length + 2) (s.heap.objs.size + bs.length) (s.heap.objs.size + bs.length + 1) .none (.bool false) → Q (.ref (s.heap.objs.size + bs.length + 2)) { s with heap := h' }) :
    wpAny (model prog w) A (call (.type "zip") (bs.map fun q => .ref q.2)) Q E s := by
  have hn : (bs.map fun q => Value.ref q.2).length ≤ 12 := by rw [List.length_map]; exact hz
  refine callType_new F.called_zip (by decide) (tc _ hn) (nc _ hn) (fun obj => oi obj _ hn) F.entry_zip_new (meets_new bs xss hl (Nat.le_trans hz (by decide))) ⟨hb, fun h' k z a t1 t2 iz => ?_⟩
  show _ ∧ _
  exact ⟨⟨_, iz, rfl⟩, h h' k z a t1 t2 iz⟩
theorem self_zip {z TI TO : Addr} {f0 f1 : Value} {Q : Value → Shared → Prop} (hz : IsZipN s.heap z TI TO f0 f1) (h : Q (.ref z) s) : wpAny (model prog w) A (pyIter (.ref z)) Q E s := by
  have hT : s.TypeIs (.ref z) "zip" := ⟨_, hz, rfl⟩
  refine wpAny_pyIter_slot hT F.slot_zip_iter (wpAny_call_entry F.slot_zip_iter hT F.entry_zip_iter ?_ (F.args_zip_iter_1 _))
  show wpAny _ _ (ret (.ref z)) _ _ s
  exact wpAny_pure ⟨_, rfl, "zip", _, hT, F.slot_zip_next.lookup, h⟩
end
end Zn

namespace Gd
open PySem PySem.Spec PyProof.Rows L2
/-- no repr is under way -/
def Clean (A : Around) : Prop := A.guards = some []
/-- a contract that holds where no repr is under way -/
structure FnG (P : Program) (w : World) (K : PySem.W.Frag) (mg : Str → Option Value) (base : Heap) (CX : CXT) (k : Nat) (f : Addr) (fd : FuncData) (ps : List Str) (sp : Sp) : Prop where
  len : ∀ vs H Q E, sp vs H Q E → vs.length = ps.length
  run : ∀ (A : Around) (outer : List Env) (s : Shared) (H : Hp) (args : Args) (us : List Value) (vs : List V) (Q : VK) (E : XK), Clean A → Room k A →
    Env0 P w K mg base A outer s H → BindsTo s fd args (ps.zip us) → Vals vs us → sp vs H Q E →
    codeAny (model P w) A (.call (.ref f) args) (CR CX outer P w H s Q E) s
section
variable {P : Program} {w : World} {K : PySem.W.Frag} {mg : Str → Option Value} {base : Heap} {CX : CXT} {k j : Nat} {f : Addr} {fd : FuncData} {ps : List Str} {sp : Sp}
theorem FnG.of (F : FnOk P w K mg base CX k f fd ps sp) : FnG P w K mg base CX k f fd ps sp :=
  ⟨F.len, fun A outer s H args us vs Q E _ hr e0 hb r h => F.run A outer s H args us vs Q E hr e0 hb r h⟩
theorem FnG.mono (F : FnG P w K mg base CX j f fd ps sp) (h : j ≤ k) : FnG P w K mg base CX k f fd ps sp :=
  ⟨F.len, fun A outer s H args us vs Q E hc hr e0 hb r q => F.run A outer s H args us vs Q E hc (hr.mono h) e0 hb r q⟩
/-- a def of the text keeps its contract: its body as rules, and their reading -/
theorem okG {CX : CXT} {x qual : Str} {st : Stmt} {N : List Str} (F : Fun K x qual st f fd) (S : FnScope N ps (defScope st)) (len : ∀ vs H Q E, sp vs H Q E → vs.length = ps.length)
    (hbody : ∀ (cdv : Value) (A : Around) (outer : List Env) (s : Shared) (H : Hp) (vs : List V) (Q : VK) (E : XK), Clean A → Room k (A.deeper (envOfC qual (defScope st) s.heap.objs.size f cdv)) → sp vs H Q E →
      ∃ t, PSs (cxOf CX P w K mg base N qual (defScope st) f cdv A outer s H E) (defBody st) t ∧ t { nx := fun _ H' => Q .non H', rt := Q } (start N vs) H) : FnG P w K mg base CX (k + 1) f fd ps sp := by
  obtain ⟨oc, od, kV, doc, pm, an, cdv, ct, osl, efd, lk, hcd⟩ := F.ex
  subst efd
  refine ⟨len, fun A outer s H args us vs Q E hc hr e0 hb r hsp => ?_⟩
  have bk : ∀ b o, base.get? b = some o → s.heap.get? b = some o := fun b o e => (e0.bs b o e).1
  have KX : K.In s.heap := e0.mod.kin.keeps bk
  have hkind : ∀ y ∈ ps.zip us, (defScope st).names.lookup y.1 = some .local ∨ ((defScope st).names.lookup y.1 = some .cell ∧ ((cellsFrom (s.heap.objs.size + 1) (defScope st).names []).lookup y.1).isSome = true) := by
    rintro ⟨n, v⟩ hy
    exact (S.par n (List.of_mem_zip hy).1).imp id fun q => ⟨q, PySem.W.cellsFrom_some _ _ _ (.inl q)⟩
  refine codeAny_call_function hr.depth (KX _ _ lk) rfl S.co S.gen rfl (PySem.W.codeRec_of KX hcd) (hb _ _ _ _ (wpAny_newFunctionEnv_cells S.kind hkind ?_))
  intro env he s1 x
  subst he
  refine ⟨(e0.mod.nolimit.keeps bk).keeps x.toInCall.keep, codeAny_func ?_⟩
  obtain ⟨t, ht, hq⟩ := hbody cdv A outer s H vs Q E hc (hr.deeper _) hsp
  have I := inv_start (CX := CX) (E := E) S hr.hd e0 (len _ _ _ _ hsp) r x
  refine wpAny_mono (ht.run [] s1 (start N vs) H _ I hq) (fun fl s' hs => ?_) fun _ _ z => z
  match fl, hs with
  | .ret u, ⟨v, σ', H', J, rv, q⟩ => exact ⟨v, H', J.os, J.bare, J.base, J.hok, rv, q⟩
  | .next, ⟨σ', H', J, q⟩ => exact ⟨V.non, H', J.os, J.bare, J.base, J.hok, rfl, q⟩
  | .brk, ⟨_, _, _, q⟩ => exact q.elim
  | .cont, ⟨_, _, _, q⟩ => exact q.elim
end
section
variable {X : Cx} {CX : CXT} {k : Nat} {f : Addr} {fd : FuncData} {ps ks : List Str} {sp : Sp} {dvs : List V} {ds : List Value} {E : XK} {x : Str} {p pos : Pos} {e : Expr} {es : List Expr} {t tk : TA} {kws : List Keyword}
theorem runG {pins : List (Addr × Obj)} {σ : L2.St} {H : Hp} {s : Shared} {Q : VK} {us : List Value} {vs : List V} (F : FnG X.prog X.w X.K X.mg X.base CX k f fd ps sp) (hc : Clean X.A) (hr : Room k X.A)
    (hb : Binds X.K fd ps ds) (hd : Vals dvs ds) (hx : Passes CX X E) (I : Inv X pins σ H s) (r : Vals vs us) (h : sp (vs ++ dvs) H Q E) :
    wpAny (model X.prog X.w) X.A (call (.ref f) us) (EP X pins σ Q) X.xe s := by
  have r2 := r.append hd
  have hl : (us ++ ds).length = ps.length := r2.length ▸ F.len _ _ _ _ h
  refine wpAny_call (codeAny_mono (F.run X.A X.stack s H ⟨us, []⟩ (us ++ ds) (vs ++ dvs) Q E hc hr I.env0 (hb s us I.kIn hl) r2 h) ?_)
  intro r s' hq
  match r, hq with
  | .error e, hq => exact hx pins σ H s e s' I hq
  | .ok (.ret u), hq => exact I.after hq
  | .ok .next, hq => exact False.elim hq
  | .ok .brk, hq => exact False.elim hq
  | .ok .cont, hq => exact False.elim hq
theorem pe_callG (F : FnG X.prog X.w X.K X.mg X.base CX k f fd ps sp) (hc : Clean X.A) (hr : Room k X.A) (hg : Gl X x) (hm : X.mg x = some (.ref f)) (hk : PySem.W.keepIn X.K (.ref f) = true)
    (hb : Binds X.K fd ps ds) (hd : Vals dvs ds) (hx : Passes CX X E) (ha : PA X (e :: es) t) (hdb : (x == ("__debug__" : Str)) = false := by decide)
    (he : starEach (e :: es) X.env = (false, eval e X.env) :: starEach es X.env := by rfl) (hpl : (backTo pos (starEach es X.env)).any (·.1) = false := by rfl) :
    PE X (.Call (.Name x p) (e :: es) [] pos) (tCall sp dvs E t) := by
  refine ⟨fun pins s σ H Q I h => wpAny_Call_Name_kw (ld_glob I hg hm ?_ hdb)⟩
  exact PySem.W.callWith_K (h₀ := X.base) I.ok.mod.kin hk (thn (ha.run pos pins s σ H _ I h) fun us s1 ⟨vs, H1, I1, r, q⟩ => ⟨I1.kIn, runG F hc hr hb hd hx I1 r q⟩) he hpl
end

/-! the end of a law -/
section
variable {P : Program} {w : World} {K : PySem.W.Frag} {mg mb : Str → Option Value} {CX : CXT} {k : Nat} {fa a : Addr} {fd : FuncData} {x : Str} {sp : Sp} {s : Shared} {vs : List Value} {ns : List Int}
/-- the table of modules stands in the fixed part -/
abbrev SysIn (base : Heap) : Prop := ∃ o, base.get? sysModules = some o
abbrev scriptObj (vs : List Value) : Obj := { cls := .type "list", data := .seq vs.toArray }
abbrev Done (s : Shared) (r : Result) (s' : Shared) : Prop := r = .ok (.ret (.bool true)) ∧ OldK s.heap s'.heap ∧ s'.os = s.os ∧ AllBare s'.gens
/-- from a heap in which the script alone may be tracked -/
theorem law_core (KX : K.In s.heap) (hns : s.heap.Ns mainGlobals mg) (hb : s.heap.Ns builtinsNs mb) (hbb : ∀ x : Str, x ≠ "__name__" → mb x = bootBuiltins x) (hlim : s.heap.NoLimit) (hsy : ∃ mm, s.heap.Ns sysModules mm) (hg : s.gens = #[])
    (ha : s.heap.get? a = some (scriptObj vs)) (hr : Room k callerA)
    (F : ∀ base : Heap, K.In base → base.Ns mainGlobals mg → SysIn base → FnG P w K mg base CX k fa fd [x] sp) (hbind : ∀ (s : Shared) (u : Value), BindsTo s fd ⟨[u], []⟩ [(x, u)])
    (H : Hp) (hO : Only H) (hok : HOk P w H s.heap) (hA : ∀ b, H b ≠ none → b = a) (hK : H a ≠ none → K.lookup a = none)
    (hsp : sp [.ref a] H (fun v _ => v = .bl true) fun _ _ _ => False) (hCX : ∀ e s', CX [] H s (fun _ _ _ => False) e s' → False) :
    codeAny (model P w) callerA (.call (.ref fa) ⟨[.ref a], []⟩) (Done s) s := by
  have notA : ∀ {b : Addr}, b ≠ a → H b = none := fun {b} hb => Classical.byContradiction fun q => hb (hA b q)
  have nsA : ∀ {b : Addr} {m : Str → Option Value}, s.heap.Ns b m → (hidT s.heap H).Ns b m := by
    rintro b m ⟨o, es, ep, e, d, r⟩
    have hb : b ≠ a := by
      rintro rfl
      rw [ha] at e
      cases e
      exact nomatch (d : Data.seq vs.toArray _ = Data.dict es ep)
    exact ⟨o, es, ep, hidT_get e (notA hb), d, r⟩
  have inB : K.In (hidT s.heap H) := fun b o e => hidT_get (KX b o e) (Classical.byContradiction fun q => by
    have hb := hA b q
    subst hb
    rw [hK q] at e
    exact nomatch e)
  have md : Mod K mg (hidT s.heap H) := ⟨inB, nsA hns, ⟨mb, nsA hb, hbb⟩, hlim.imp fun _ h => ⟨nsA h.1, h.2⟩⟩
  have e0 : Env0 P w K mg (hidT s.heap H) callerA [] s H :=
    ⟨rfl, md, fun b o e => of_hidT e, Nat.le_of_eq (hidT_size _ _), trivial, fun _ hb => absurd hb List.not_mem_nil, hok, .of_eq hg⟩
  have R := (F _ inB (nsA hns) (let ⟨_, q⟩ := hsy; let ⟨o, _, _, e, _⟩ := nsA q; ⟨o, e⟩)).run callerA [] s H ⟨[.ref a], []⟩ [.ref a] [.ref a] _ _ rfl hr e0 (hbind s (.ref a)) (.cons rfl .nil) hsp
  refine codeAny_mono R fun r s' h => ?_
  match r, h with
  | .error e, h => exact (hCX e s' h).elim
  | .ok .next, h => exact False.elim h
  | .ok .brk, h => exact False.elim h
  | .ok .cont, h => exact False.elim h
  | .ok (.ret u), ⟨v, H', os, bare, un, hok', r', q⟩ =>
    have q' : v = .bl true := q
    subst q'
    cases (show u = Value.bool true from r')
    refine ⟨rfl, OldK.of_keep fun b o e => ?_, os, bare⟩
    rcases hO b with z | ⟨ob, xs, z⟩
    · exact un.keep b o e z List.not_mem_nil (by simp)
    · have e1 := (hok b _ z).1
      have e2 := (hok' b _ (un.frzs b ob _ z)).1
      rw [e] at e1
      cases e1
      exact e2
theorem law_callG (KX : K.In s.heap) (hns : s.heap.Ns mainGlobals mg) (hb : s.heap.Ns builtinsNs mb) (hbb : ∀ x : Str, x ≠ "__name__" → mb x = bootBuiltins x) (hlim : s.heap.NoLimit) (hsy : ∃ mm, s.heap.Ns sysModules mm) (hg : s.gens = #[])
    (ha : s.heap.get? a = some (scriptObj vs)) (hi : IntsAre vs ns) (hl : ns.length ≤ sizeLine) (hr : Room k callerA)
    (F : ∀ base : Heap, K.In base → base.Ns mainGlobals mg → SysIn base → FnG P w K mg base CX k fa fd [x] sp) (hbind : ∀ (s : Shared) (u : Value), BindsTo s fd ⟨[u], []⟩ [(x, u)])
    (hsp : ∀ H : Hp, Only H → SqL K H a (ns.map V.int) → sp [.ref a] H (fun v _ => v = .bl true) fun _ _ _ => False) (hCX : ∀ H e s', CX [] H s (fun _ _ _ => False) e s' → False) :
    codeAny (model P w) callerA (.call (.ref fa) ⟨[.ref a], []⟩) (Done s) s := by
  have rv := vals_ints hi
  have lenV := hi.length
  cases hk : K.lookup a with
  | some o =>
    have e := KX a o hk
    rw [ha] at e
    cases e
    refine law_core KX hns hb hbb hlim hsy hg ha hr F hbind (fun _ => none) (fun _ => .inl rfl) (fun b u z => nomatch (z : (none : Option HO) = some u)) (fun _ z => absurd rfl z) (fun z => absurd rfl z) ?_ (hCX _)
    exact hsp _ (fun _ => .inl rfl) (.inr ⟨_, vs.toArray, _, hk, rfl, rfl, rfl, by rw [List.size_toArray, lenV]; exact hl, by simpa using rv⟩)
  | none =>
    have one : ∀ {b : Addr} {u : HO}, (if b = a then some (HO.frz (scriptObj vs) (.lst (ns.map V.int))) else none) = some u → b = a ∧ u = .frz (scriptObj vs) (.lst (ns.map V.int)) := by
      intro b u z
      by_cases hb : b = a
      · rw [if_pos hb] at z
        exact ⟨hb, (Option.some.inj z).symm⟩
      · rw [if_neg hb] at z
        exact nomatch z
    have only : Only fun b => if b = a then some (HO.frz (scriptObj vs) (.lst (ns.map V.int))) else none := fun b => by
      by_cases hb : b = a
      · exact .inr ⟨_, _, if_pos hb⟩
      · exact .inl (if_neg hb)
    refine law_core KX hns hb hbb hlim hsy hg ha hr F hbind _ only (fun b u z => ?_) (fun b z => ?_) (fun _ => hk) (hsp _ only (.inl (.inr ⟨scriptObj vs, if_pos rfl⟩))) (hCX _)
    · obtain ⟨rfl, rfl⟩ := one z
      exact ⟨ha, by rw [List.length_map]; exact hl, vs, _, rv, ha⟩
    · cases q : (if b = a then some (HO.frz (scriptObj vs) (.lst (ns.map V.int))) else none) with
      | none => exact absurd q z
      | some u => exact (one q).1
theorem walkG {l : PySem.W.OpenLaw} {n k : Nat} {q : Program} {loose : List Str} {XP : (Str → Option Value) → Heap → Prop} {YP : World → Heap → Prop} {d : DefRec} {K : Params → PySem.W.Frag} {CX : World → CXT} {sp : World → Sp} {x : Str}
    (hn : l.most = some n) (hn2 : n ≤ sizeLine) (hdf : d.params.defaults = []) (hr : Room k callerA) (himp : importsNone q = true) (hY : ∀ (w : World) (h : Heap), YP w h → (K w.params).In h)
    (F : ∀ (w : World) (mg : Str → Option Value) (fa : Addr) (h : Heap), (K w.params).In h → h.Ns mainGlobals mg → mg d.name = some (.ref fa) →
      ∃ fd : FuncData, (∀ (s : Shared) (u : Value), BindsTo s fd ⟨[u], []⟩ [(x, u)]) ∧
        ∀ base : Heap, (K w.params).In base → base.Ns mainGlobals mg → SysIn base → FnG l.prog w (K w.params) mg base (CX w) k fa fd [x] (sp w))
    (hsp : ∀ (w : World) (H : Hp) (a : Addr) (ns : List Int), ns.length ≤ n → Only H → SqL (K w.params) H a (ns.map V.int) → sp w [.ref a] H (fun v _ => v = .bl true) fun _ _ _ => False)
    (hCX : ∀ (w : World) (H : Hp) (s : Shared) (e : Value) (s' : Shared), CX w [] H s (fun _ _ _ => False) e s' → False) :
    PySem.W.WalkO q loose XP YP l.row.toRowW d [] (fun f vs => PySem.call f vs) := by
  refine Att.attach_call hn hdf fun w s₀ s₁ mg mb fa o pm cd doc a vs ns G Y ho hd hcd hmg hobj hints hlen hg => ?_
  obtain ⟨fd, hb, hF⟩ := F w mg fa _ (hY w _ Y) G.T.g hmg
  exact law_callG (hY w _ Y) G.T.g G.T.b G.T.builtins G.T.nolimit (let ⟨mm, q, _⟩ := (G.T.seer himp).mods; ⟨mm, q⟩) hg hobj hints (Nat.le_trans hlen hn2) hr hF hb (fun H hO hS => hsp w H a ns hlen hO hS) fun H e s' => hCX w H s₁ e s'
end
end Gd

namespace Zn
open PySem PySem.Spec PyProof.Rows L2
/-- a list or a tuple of values -/
def SqV (K : PySem.W.Frag) (H : Hp) (b : Bool) (p : Addr) (xs : List V) : Prop := if b then SqL K H p xs else SqT K H p xs
theorem SqV.any {K : PySem.W.Frag} {H : Hp} {b : Bool} {p : Addr} {xs : List V} (h : SqV K H b p xs) : SqT K H p xs ∨ SqL K H p xs := by
  cases b
  · exact .inl h
  · exact .inr h
theorem SqV.get {X : Cx} {pins : List (Addr × Obj)} {σ : L2.St} {H : Hp} {s : Shared} {b : Bool} {p : Addr} {xs : List V} (I : Inv X pins σ H s) (h : SqV X.K H b p xs) : ∃ us, Vals xs us ∧ SqK b s.heap p us.toArray := by
  cases b
  · obtain ⟨its, r, pl, _⟩ := I.tuple h
    exact ⟨its, r, pl⟩
  · obtain ⟨its, r, pl, _⟩ := I.list h
    exact ⟨its, r, pl.isList⟩
theorem SqV.inj {X : Cx} {pins : List (Addr × Obj)} {σ : L2.St} {H : Hp} {s : Shared} {b : Bool} {p : Addr} {xs ys : List V} (I : Inv X pins σ H s) (h : SqV X.K H b p xs) (h' : SqV X.K H b p ys) : xs = ys := by
  cases b
  · exact I.tuple_inj h h'
  · exact I.list_inj h h'
abbrev Bs := List (Bool × Addr)
/-- the sources stand, each with its row -/
inductive Rws (K : PySem.W.Frag) (H : Hp) : Bs → List (List V) → Prop
  | nil : Rws K H [] []
  | cons {q : Bool × Addr} {xs : List V} {bs : Bs} {xss : List (List V)} : SqV K H q.1 q.2 xs → Rws K H bs xss → Rws K H (q :: bs) (xs :: xss)
/-- the items at i -/
inductive Col (i : Nat) : List (List V) → List V → Prop
  | nil : Col i [] []
  | cons {xs : List V} {x : V} {xss : List (List V)} {vs : List V} : xs[i]? = some x → Col i xss vs → Col i (xs :: xss) (x :: vs)
theorem Col.len {i : Nat} {xss : List (List V)} {vs : List V} (c : Col i xss vs) : vs.length = xss.length := by
  induction c with
  | nil => rfl
  | cons _ _ ih => rw [List.length_cons, List.length_cons, ih]
theorem Col.of {i : Nat} : ∀ {xss : List (List V)}, (∀ xs ∈ xss, i < xs.length) → ∃ vs, Col i xss vs
  | [], _ => ⟨[], .nil⟩
  | xs :: xss, h => by
    obtain ⟨vs, c⟩ := Col.of fun ys hy => h ys (List.mem_cons_of_mem _ hy)
    exact ⟨xs[i]'(h xs List.mem_cons_self) :: vs, .cons (List.getElem?_eq_getElem _) c⟩
theorem Col.inj {i : Nat} {xss : List (List V)} {vs ws : List V} (c : Col i xss vs) (d : Col i xss ws) : vs = ws := by
  induction c generalizing ws with
  | nil => cases d; rfl
  | cons e c ih =>
    cases d with
    | cons e' d => rw [e] at e'; cases e'; rw [ih d]
/-- the objects behind them -/
theorem rows_get {X : Cx} {pins : List (Addr × Obj)} {σ : L2.St} {H : Hp} {s : Shared} (I : Inv X pins σ H s) {bs : Bs} {xss : List (List V)} (h : Rws X.K H bs xss) :
    ∃ us : List (List Value), us.length = bs.length ∧ Laid s.heap bs (us.map List.toArray) ∧ ∀ (i : Nat) (vs : List V), Col i xss vs → ∃ ws, Vals vs ws ∧ ws.length = bs.length ∧ ∀ (j : Nat) (u : Array Value), (us.map List.toArray)[j]? = some u → u[i]? = ws[j]? := by
  induction h with
  | nil =>
    refine ⟨[], rfl, (fun j q xs h1 => by simp at h1), fun i vs c => ?_⟩
    cases c
    exact ⟨[], .nil, rfl, fun j u h => by simp at h⟩
  | cons a t ih =>
    obtain ⟨us, l1, l2, l3⟩ := ih
    obtain ⟨u, r, k⟩ := SqV.get I a
    refine ⟨u :: us, by rw [List.length_cons, List.length_cons, l1], fun j q xs h1 h2 => ?_, fun i vs c => ?_⟩
    · cases j with
      | zero => cases h1; cases h2; exact k
      | succ j => exact l2 j q xs h1 h2
    · cases c with
      | cons e c =>
        obtain ⟨ws, r1, n1, g⟩ := l3 i _ c
        obtain ⟨y, hy, ry⟩ := r.get e
        refine ⟨y :: ws, .cons ry r1, by rw [List.length_cons, List.length_cons, n1], fun j u' h => ?_⟩
        cases j with
        | zero =>
          cases h
          simpa using hy
        | succ j => exact g j u' h
theorem Rws.inj {X : Cx} {pins : List (Addr × Obj)} {σ : L2.St} {H : Hp} {s : Shared} (I : Inv X pins σ H s) {bs : Bs} {xss yss : List (List V)} (h : Rws X.K H bs xss) (h' : Rws X.K H bs yss) : xss = yss := by
  induction h generalizing yss with
  | nil => cases h'; rfl
  | cons a t ih =>
    cases h' with
    | cons a' t' => rw [SqV.inj I a a', ih t']
/-- the tuples that zip gives out -/
def ItzN (K : PySem.W.Frag) (bs : Bs) : It :=
  ⟨fun i H => ∃ xss, Rws K H bs xss ∧ bs ≠ [] ∧ ∀ xs ∈ xss, i < xs.length,
    fun i H v H' => ∃ T vs, v = .ref T ∧ H T = none ∧ H' = upd H T (.tup vs) ∧ ∀ xss, Rws K H bs xss → Col i xss vs,
    fun i H => bs = [] ∨ ∃ q xs, bs[0]? = some q ∧ SqV K H q.1 q.2 xs ∧ xs.length ≤ i⟩

/-- where the parts of a zip stand -/
structure ZFits (n : Nat) (bs : Bs) : Prop where
  low : ∀ q ∈ bs, (show Nat from q.2) < n
theorem ZFits.apart {n : Nat} {bs : Bs} (F : ZFits n bs) : Apart (n + bs.length + 2) (n + bs.length) (n + bs.length + 1) (srcs n bs) := by
  have each : ∀ q ∈ srcs n bs, ∃ j : Nat, j < bs.length ∧ (show Nat from q.2.1) = n + j ∧ (show Nat from q.2.2) < n := fun q hq => by
    obtain ⟨j, hj⟩ := List.getElem?_of_mem hq
    obtain ⟨b, hb, rfl⟩ := srcs_get.mp hj
    exact ⟨j, (List.getElem?_eq_some_iff.mp hb).1, rfl, F.low b (List.mem_of_getElem? hb)⟩
  have ne : ∀ {a b : Nat}, a ≠ b → (show Addr from a) ≠ b := fun h => h
  refine ⟨ne (by omega), ne (by omega), ne (by omega), fun q hq => ?_, fun q hq => ?_, fun q hq r hr => ?_, ?_⟩
  · obtain ⟨j, h1, h2, h3⟩ := each q hq
    exact ⟨fun e => absurd (h2.symm.trans e) (by omega), fun e => absurd (h2.symm.trans e) (by omega), fun e => absurd (h2.symm.trans e) (by omega)⟩
  · obtain ⟨j, h1, h2, h3⟩ := each q hq
    have lt : ∀ m : Nat, n ≤ m → q.2.2 ≠ m := fun m hm e => by
      have h3' : (show Nat from m) < n := by rw [← show q.2.2 = m from e]; exact h3
      exact absurd h3' (Nat.not_lt.mpr hm)
    exact ⟨lt _ (Nat.le_add_right_of_le (Nat.le_add_right _ _)), lt _ (Nat.le_add_right _ _), lt _ (Nat.le_add_right_of_le (Nat.le_add_right _ _))⟩
  · obtain ⟨j, h1, h2, h3⟩ := each q hq
    obtain ⟨j', h1', h2', h3'⟩ := each r hr
    intro e
    have h4 : (show Nat from r.2.2) = n + j := by rw [← show q.2.1 = r.2.2 from e]; exact h2
    exact absurd h3' (by rw [h4]; exact Nat.not_lt.mpr (Nat.le_add_right _ _))
  · refine List.pairwise_iff_getElem.mpr fun i j hi hj lt e => ?_
    have get : ∀ k (h : k < ((srcs n bs).map (·.2.1)).length), ((srcs n bs).map (·.2.1))[k] = n + k := fun k h => by
      have hk : k < (srcs n bs).length := by rw [List.length_map] at h; exact h
      obtain ⟨b, hb, e⟩ := srcs_get.mp (List.getElem?_eq_getElem hk)
      rw [List.getElem_map, e]
    rw [get, get] at e
    exact absurd (Nat.add_left_cancel e) (Nat.ne_of_lt lt)
/-- its own objects -/
def zfp (n : Nat) (bs : Bs) : List Addr := (n + bs.length + 2) :: (n + bs.length) :: (n + bs.length + 1) :: (srcs n bs).map (·.2.1)
/-- how they stand at turn i -/
def ztn (n : Nat) (bs : Bs) (i : Nat) (h : Heap) : Prop := (∃ f0 f1, Own f0 ∧ IsZipN h (n + bs.length + 2) (n + bs.length) (n + bs.length + 1) f0 f1) ∧ IsTupN h (n + bs.length) ((srcs n bs).map fun q => .ref q.2.1) ∧
  (∃ os, os.length = (srcs n bs).length ∧ IsTupN h (n + bs.length + 1) os) ∧ ∀ q ∈ srcs n bs, ItK q.1 h q.2.1 q.2.2 i
theorem ztn_obj {n : Nat} {bs : Bs} {i : Nat} {h : Heap} (st : ztn n bs i h) : ∀ c ∈ zfp n bs, ∃ o, h.get? c = some o ∧ ∀ v, o.data ≠ .cell v := fun c hc => by
  obtain ⟨⟨f0, f1, _, iz⟩, t1, ⟨os, _, t2⟩, its⟩ := st
  have hc : c = n + bs.length + 2 ∨ c = n + bs.length ∨ c = n + bs.length + 1 ∨ ∃ q ∈ srcs n bs, q.2.1 = c := by
    simpa only [zfp, List.mem_cons, List.mem_map] using hc
  rcases hc with rfl | rfl | rfl | ⟨q, hq, rfl⟩
  · exact ⟨_, iz, fun v q => nomatch q⟩
  · exact ⟨_, t1, fun v q => nomatch q⟩
  · exact ⟨_, t2, fun v q => nomatch q⟩
  · obtain ⟨o, e, _, d⟩ := (its q hq).obj
    exact ⟨o, e, d⟩
theorem zat {n : Nat} {bs : Bs} {i : Nat} {h : Heap} {xss : List (Array Value)} (a : ∀ q ∈ srcs n bs, ItK q.1 h q.2.1 q.2.2 i) (l : Laid h bs xss) : At h i (srcs n bs) xss := fun j q xs h1 h2 => by
  refine ⟨a q (List.mem_of_getElem? h1), ?_⟩
  obtain ⟨b, hb, rfl⟩ := srcs_get.mp h1
  exact l j b xs hb h2
theorem rws_len {K : PySem.W.Frag} {H : Hp} {bs : Bs} {xss : List (List V)} (h : Rws K H bs xss) : xss.length = bs.length := by
  induction h with
  | nil => rfl
  | cons _ _ ih => rw [List.length_cons, List.length_cons, ih]
theorem turn_zipN {P : Program} {w : World} {K : PySem.W.Frag} {tg : Expr} {n : Nat} {bs : Bs} (F : ZFits n bs) (hz : bs.length ≤ 12) : Turn P w K tg (ItzN K bs) (zfp n bs) (n + bs.length + 2) (ztn n bs) where
  mem := List.mem_cons_self
  obj := fun i h st => ztn_obj st
  keep := fun i h h' st k => by
    obtain ⟨⟨f0, f1, of, iz⟩, t1, ⟨os, ol, t2⟩, its⟩ := st
    exact ⟨⟨f0, f1, of, k _ (by simp [zfp]) _ iz⟩, k _ (by simp [zfp]) _ t1, ⟨os, ol, k _ (by simp [zfp]) _ t2⟩, fun q hq => (its q hq).at fun o e => k _ (by
      simp only [zfp, List.mem_cons, List.mem_map]
      exact .inr (.inr (.inr ⟨q, hq, rfl⟩))) o e⟩
  item := by
    intro X hP hw hK hc i pins s σ H E I hf st hg
    subst hP hw hK
    have ob := ztn_obj st
    obtain ⟨⟨f0, f1, of, iz⟩, t1, ⟨os, ol, t2⟩, its⟩ := st
    obtain ⟨xss, rw_, hne, hlt⟩ := hg
    obtain ⟨us, lu, la, cu⟩ := rows_get I rw_
    obtain ⟨vs, cv⟩ := Col.of hlt
    obtain ⟨ws, rv, lw, cw⟩ := cu i vs cv
    have sl := srcs_len (n := n) (bs := bs)
    have s12 : 12 ≤ sizeLine := by decide
    have hne' : srcs n bs ≠ [] := fun e => hne (List.eq_nil_of_length_eq_zero (by rw [← sl, e]; rfl))
    have hzl : n + bs.length + 2 < s.heap.objs.size := Heap.lt_size iz
    refine next_zip F.apart hne' (by rw [List.length_map, lu, sl]) (by rw [lw, sl]) (by rw [sl]; omega) of iz t1 t2 ol (zat its la) cw fun h' af => ?_
    obtain ⟨⟨g0, g1, og, iz'⟩, ⟨os', ol', t2'⟩, at', tn', sz', rest⟩ := af
    refine ⟨_, rfl, go_zip (s := { s with heap := h' }) og iz' fun h'' g0' og' iz'' sb => ?_⟩
    have away : ∀ c o, c ∉ zfp n bs → s.heap.get? c = some o → h''.get? c = some o := fun c o hc e => by
      have hc : ¬ (c = n + bs.length + 2 ∨ c = n + bs.length ∨ c = n + bs.length + 1 ∨ ∃ q ∈ srcs n bs, q.2.1 = c) := by
        simpa only [zfp, List.mem_cons, List.mem_map] using hc
      exact (sb.2 c fun x => hc (.inl x)).trans (rest c o (fun x => hc (.inl x)) (fun x => hc (.inr (.inr (.inl x)))) (fun q hq x => hc (.inr (.inr (.inr ⟨q, hq, x.symm⟩)))) e)
    have hT2 : h''.get? s.heap.objs.size = some { cls := .type "tuple", data := .seq ws.toArray } := (sb.2 _ (Nat.ne_of_gt hzl)).trans tn'
    have lvs : vs.length = bs.length := by rw [cv.len, rws_len rw_]
    have new : ObjOk X.prog X.w (upd H s.heap.objs.size (.tup vs)) h'' s.heap.objs.size (.tup vs) := ⟨by show vs.length ≤ sizeLine; omega, ws, rv, ⟨_, hT2, rfl, _, rfl⟩⟩
    have I1 : Inv X pins σ (upd H s.heap.objs.size (.tup vs)) { s with heap := h'' } := I.turnedNew (t' := s.toks) (ch := zfp n bs) (fun c o hb q => away c o hb q) hf (Nat.le_refl _) new
    refine ⟨.ref s.heap.objs.size, _, I1, rfl, ⟨_, vs, rfl, I.hok.fresh (Nat.le_refl _), rfl, fun yss hy => by rw [Rws.inj I hy rw_]; exact cv⟩, ⟨⟨g0', g1, og', iz''⟩, (sb.2 _ F.apart.TIz).trans (rest _ _ F.apart.TIz F.apart.TITO (fun q hq x => (F.apart.iz q hq).2.1 x.symm) t1), ⟨os', ol', (sb.2 _ F.apart.TOz).trans t2'⟩, fun q hq => ?_⟩, fun c hcm => ?_⟩
    · obtain ⟨j, hj⟩ := List.getElem?_of_mem hq
      have jl : j < bs.length := by rw [← sl]; exact (List.getElem?_eq_some_iff.mp hj).1
      have z := (at' j q _ hj (List.getElem?_eq_getElem (by rw [List.length_map, lu]; exact jl))).1
      exact z.at fun o e => (sb.2 _ (F.apart.iz q hq).1).trans e
    · obtain ⟨o, e, _⟩ := ob c hcm
      rw [upd_ne (Nat.ne_of_lt (Heap.lt_size e))]
      exact (hf c hcm).1
  done := by
    intro X hP hw hK hc i pins s σ H E I hf st hg
    subst hP hw hK
    obtain ⟨⟨f0, f1, of, iz⟩, t1, ⟨os, ol, t2⟩, its⟩ := st
    have out : Out s.heap i (srcs n bs) := by
      rcases hg with rfl | ⟨q, xs, hq, sv, hl⟩
      · exact .inl rfl
      · obtain ⟨us, r, k⟩ := SqV.get I sv
        have e : (srcs n bs)[0]? = some (q.1, n + 0, q.2) := srcs_get.mpr ⟨q, hq, rfl⟩
        exact .inr ⟨_, us.toArray, e, its _ (List.mem_of_getElem? e), k, by simpa using (by rw [← r.length]; exact hl : us.length ≤ i)⟩
    exact next_zip_end (I.ok.hd hc) F.apart of iz t1 t2 ol out fun h' rest => ⟨rfl, I.turnedL (t' := s.toks) (ch := zfp n bs) (fun c o hb q => by
      have hb : ¬ (c = n + bs.length + 2 ∨ c = n + bs.length ∨ c = n + bs.length + 1 ∨ ∃ q ∈ srcs n bs, q.2.1 = c) := by
        simpa only [zfp, List.mem_cons, List.mem_map] using hb
      exact rest c o (fun x => hb (.inl x)) (fun x => hb (.inr (.inr (.inl x)))) (fun q hq x => hb (.inr (.inr (.inr ⟨q, hq, x.symm⟩)))) q) hf⟩
  self := fun A i s Q E st h => by
    obtain ⟨⟨f0, f1, _, iz⟩, _⟩ := st
    exact self_zip iz h

def iZipS (K : PySem.W.Frag) (te : TE) : TI := fun σ H R => te σ H fun y H1 => ∃ (a : Addr) (bs : Bs) (xss : List (List V)), y = V.ref a ∧ (SqT K H1 a (bs.map fun q => V.ref q.2) ∨ SqL K H1 a (bs.map fun q => V.ref q.2)) ∧ bs.length ≤ 12 ∧ Rws K H1 bs xss ∧ R (ItzN K bs) H1
def iZipP (K : PySem.W.Frag) (ta : TA) : TI := fun σ H R => ta σ H fun vs H1 => ∃ (p q : Bool × Addr) (xs ys : List V), vs = [V.ref p.2, V.ref q.2] ∧ SqV K H1 p.1 p.2 xs ∧ SqV K H1 q.1 q.2 ys ∧ R (ItzN K [p, q]) H1
theorem vals_refs : ∀ {bs : Bs} {us : List Value}, Vals (bs.map fun q => V.ref q.2) us → us = bs.map fun q => Value.ref q.2
  | [], _, .nil => rfl
  | q :: bs, _, .cons r t => by
    cases r
    rw [vals_refs t]
    rfl
section
variable {X : Cx} {pins : List (Addr × Obj)} {σ : L2.St} {H : Hp} {s : Shared}
/-- the zip is made and asked for its iterator -/
theorem zip_made {tg : Expr} {bs : Bs} {xss : List (List V)} {R : It → Hp → Prop} (I : Inv X pins σ H s) (hz : bs.length ≤ 12) (rw_ : Rws X.K H bs xss) (q : R (ItzN X.K bs) H) :
    wpAny (model X.prog X.w) X.A (call (.type "zip") (bs.map fun q => Value.ref q.2)) (fun v s1 => wpAny (model X.prog X.w) X.A (pyIter v) (PIE X pins σ tg R) X.xe s1) X.xe s := by
  obtain ⟨us, lu, la, _⟩ := rows_get I rw_
  have F : ZFits s.heap.objs.size bs := ⟨fun q hq => by
    obtain ⟨j, hj⟩ := List.getElem?_of_mem hq
    have jl := (List.getElem?_eq_some_iff.mp hj).1
    obtain ⟨o, ho, _⟩ := (la j q _ hj (List.getElem?_eq_getElem (by rw [List.length_map, lu]; exact jl))).obj
    exact Heap.lt_size ho⟩
  refine call_zipN (xss := us.map List.toArray) (by rw [List.length_map, lu]) hz la fun h' k sz at' t1 t2 iz => self_zip (s := { s with heap := h' }) iz ?_
  have sl := srcs_len (n := s.heap.objs.size) (bs := bs)
  refine ⟨_, zfp s.heap.objs.size bs, ztn s.heap.objs.size bs, _, H, rfl, I.kept (t' := s.toks) k, turn_zipN F hz, ⟨⟨_, _, .inl rfl, iz⟩, t1, ⟨_, by rw [List.length_map], t2⟩, fun q hq => ?_⟩, fun c hc => ?_, q⟩
  · obtain ⟨j, hj⟩ := List.getElem?_of_mem hq
    have jl : j < bs.length := by rw [← sl]; exact (List.getElem?_eq_some_iff.mp hj).1
    exact (at' j q _ hj (List.getElem?_eq_getElem (by rw [List.length_map, lu]; exact jl))).1
  · have hc : c = s.heap.objs.size + bs.length + 2 ∨ c = s.heap.objs.size + bs.length ∨ c = s.heap.objs.size + bs.length + 1 ∨ ∃ q ∈ srcs s.heap.objs.size bs, q.2.1 = c := by
      simpa only [zfp, List.mem_cons, List.mem_map] using hc
    have hle : s.heap.objs.size ≤ c := by
      rcases hc with rfl | rfl | rfl | ⟨q, hq, rfl⟩
      · exact Nat.le_add_right_of_le (Nat.le_add_right _ _)
      · exact Nat.le_add_right _ _
      · exact Nat.le_add_right_of_le (Nat.le_add_right _ _)
      · obtain ⟨j, hj⟩ := List.getElem?_of_mem hq
        obtain ⟨b, _, rfl⟩ := srcs_get.mp hj
        exact Nat.le_add_right _ _
    exact I.fpOk hle (I.hok.fresh hle)
/-- zip(*e): any number of lists and tuples -/
theorem pi_zipS {tg e : Expr} {te : TE} {p sp pos : Pos} (hg : Gl X "zip") (hm : X.mg "zip" = none) (he : PE X e te) (hst : starEach [.Starred e sp] X.env = [(true, eval e X.env)] := by rfl) :
    PI X tg (.Call (.Name "zip" p) [.Starred e sp] [] pos) (iZipS X.K te) := by
  refine ⟨fun pins s σ H R I h => ?_⟩
  refine Call_ (ld_blt I hg hm PyProof.Rows.boot_zip ?_)
  rw [hst]
  refine PySem.W.ks_call (P := fun _ => True) rfl (fun h _ => ⟨.machine, .inr (.inl rfl), PySem.W.Looks.of_pure rfl⟩) (PySem.W.ks_lone (thn (he.run pins s σ H _ I h) fun v s1 ⟨y, H1, I1, ry, a, bs, xss, ey, hx, hz, rw_, q⟩ => ?_))
  subst ey
  obtain rfl : v = Value.ref a := ry
  refine StX.star_any I1 hx fun us s2 I2 rv => ⟨trivial, ?_⟩
  rw [vals_refs rv]
  exact zip_made I2 hz rw_ q
/-- zip(e, e2): each a list or a tuple -/
theorem pi_zipP {tg e e2 : Expr} {ta : TA} {p pos : Pos} (hg : Gl X "zip") (hm : X.mg "zip" = none) (ha : PA X [e, e2] ta)
    (hs : starEach [e, e2] X.env = (false, eval e X.env) :: starEach [e2] X.env := by rfl) (hpl : (backTo pos (starEach [e2] X.env)).any (·.1) = false := by rfl) :
    PI X tg (.Call (.Name "zip" p) [e, e2] [] pos) (iZipP X.K ta) := by
  refine ⟨fun pins s σ H R I h => ?_⟩
  refine Call_ (ld_blt I hg hm PyProof.Rows.boot_zip (PyProof.Rows.callWith_type1 (thn (ha.run pos pins s σ H _ I h) fun us s1 ⟨vs, H1, I1, r1, p, q, xs, ys, ev, h1, h2, qq⟩ => ?_) hs hpl))
  subst ev
  have e := vals_refs (bs := [p, q]) r1
  subst e
  exact zip_made I1 (show 2 ≤ 12 by decide) (.cons h1 (.cons h2 .nil)) qq
end
end Zn

/-! min(xs, default=d) of a list of ints -/
namespace Zn
open PySem PySem.Spec PyProof.Rows L2
section
variable {prog : Program} {w : World} {A : Around} {s : Shared} {R : Result → Shared → Prop} {l it bst : Addr} {its : Array Value} {val : Nat → Int}
theorem minD_loop (kw : List (Str × Value)) (hv : ∀ (i : Nat) (v : Value), its[i]? = some v → ∃ t, v = Value.int (val i) t) (hh : A.in1.handled = none) (hli : l ≠ it) (hbi : bst ≠ it) (hbl : bst ≠ l) :
    ∀ (r j b : Nat) (s : Shared) (vb : Value) (c : Nat), its.size - j = r → j ≤ its.size → s.heap.IsListIter it l j → s.heap.IsList l its → its[b]? = some vb → b < j → (∀ i, i < j → val b ≤ val i) →
      s.heap.get? bst = some { cls := .type "list", dict := none, data := .seq #[vb, vb] c, slots := #[] } →
      (∀ v h' tk b, its[b]? = some v → (∀ i, i < its.size → val b ≤ val i) → (∀ x o, x ≠ it → x ≠ bst → s.heap.get? x = some o → h'.get? x = some o) → R (.ok (.ret v)) { s with heap := h', toks := tk }) →
      codeAny (model prog w) A (.builtin "min.loop" ⟨[.ref it, .none, .ref bst], kw⟩) R s := by
  have word : (toString "min" ++ toString ".loop" : String) = "min.loop" := by decide
  have W := Walks.list (prog := prog) (w := w) (A := A.in1) hh it l hli its
  intro r
  induction r with
  | zero =>
    intro j b s vb c hr hj i1 i2 hb hbj least hS fin
    have ej : j = its.size := by omega
    subst ej
    refine codeAny_builtin PySem.F.entry_min_loop ?_
    rw [Around.under_plainId PySem.F.plain_min_loop _]
    show wpAny _ A.in1 (seqItems? (.ref bst) >>= _) _ _ _
    refine wpAny_bind (wpAny_seqItems hS rfl (?_ : wpAny _ A.in1 (tryCatch (pyNext (.ref it)) _ >>= _) _ _ _))
    refine wpAny_bind (wpAny_tryCatch (W.done s _ _ ⟨i1, i2⟩ fun h' tk kept => ?_))
    have hS2 := kept bst _ (by simpa using hbi) hS
    refine (?_ : wpAny _ A.in1 (updateSeq bst (fun _ => #[]) >>= _) _ _ _)
    refine wpAny_bind (wpAny_updateSeq hS2 rfl (wpAny_bind (wpAny_letGo (wpAny_pure (fin vb _ tk b hb least fun x o x1 x2 e => ?_)))))
    exact (Heap.get?_update_other _ _ (Ne.symm x2)).trans (kept x o (by simpa using x1) e)
  | succ r ih =>
    intro j b s vb c hr hj i1 i2 hb hbj least hS fin
    have lt : j < its.size := by omega
    refine codeAny_builtin PySem.F.entry_min_loop ?_
    rw [Around.under_plainId PySem.F.plain_min_loop _]
    show wpAny _ A.in1 (seqItems? (.ref bst) >>= _) _ _ _
    refine wpAny_bind (wpAny_seqItems hS rfl (?_ : wpAny _ A.in1 (tryCatch (pyNext (.ref it)) _ >>= _) _ _ _))
    refine wpAny_bind (wpAny_tryCatch (W.item j s _ _ lt ⟨i1, i2⟩ fun v h' tk hP st kept => ?_))
    have hS2 := kept bst _ (by simpa using hbi) hS
    obtain ⟨t1, e1⟩ := hv j v hP
    obtain ⟨t2, e2⟩ := hv b vb hb
    refine (?_ : wpAny _ A.in1 (tryCatch (holding [v, v] (richCompare .Lt v vb >>= _)) _ >>= _) _ _ _)
    refine wpAny_bind (wpAny_tryCatch (wpAny_holding (wpAny_bind (CmpOf.ints_lt (prog := prog) (w := w) (A := A.in1) (P := fun i v => ∃ t, v = Value.int (val i) t) val (fun i v h => h) j b v vb _ _ _ ⟨t1, e1⟩ ⟨t2, e2⟩ (wpAny_bind (wpAny_holding (wpAny_truthy_bool ?_)))))))
    refine wpAny_bind (wpAny_letGo (wpAny_pure ?_))
    by_cases q : (val j < val b)
    · simp only [decide_eq_true q, if_true]
      refine wpAny_bind (wpAny_updateSeq hS2 rfl (wpAny_bind (wpAny_letGo ?_)))
      rw [word]
      have sb := Heap.SameBut.update h' bst (Obj.mapSeq fun _ => #[v, v])
      refine wpAny_pure ⟨plainId_quiet PySem.F.plain_min_loop _, ih (j + 1) j _ v _ (by omega) lt (st.1.extBut sb.extBut hbi.symm) (st.2.extBut sb.extBut hbl.symm) hP (Nat.lt_succ_self _) (fun i hi => ?_) (Heap.get?_update_self _ hS2 rfl) fun v' h2 tk2 b' g1 g2 g3 => ?_⟩
      · by_cases c : (i = j)
        · rw [c]
          exact Int.le_refl _
        · exact Int.le_of_lt (Int.lt_of_lt_of_le q (least i (by omega)))
      · exact fin v' h2 tk2 b' g1 g2 fun x o x1 x2 e => g3 x o x1 x2 ((sb.2 x x2).trans (kept x o (by simpa using x1) e))
    · simp only [decide_eq_false q, Bool.false_eq_true, if_false]
      refine wpAny_bind (wpAny_letGo ?_)
      rw [word]
      refine wpAny_pure ⟨plainId_quiet PySem.F.plain_min_loop _, ih (j + 1) b _ vb c (by omega) lt st.1 st.2 hb (by omega) (fun i hi => ?_) hS2 fun v' h2 tk2 b' g1 g2 g3 => ?_⟩
      · by_cases c : (i = j)
        · rw [c]
          exact Int.not_lt.mp q
        · exact least i (by omega)
      · exact fin v' h2 tk2 b' g1 g2 fun x o x1 x2 e => g3 x o x1 x2 (kept x o (by simpa using x1) e)
end
theorem ints_at {its : List Value} {ns : List Int} (hi : IntsAre its ns) : ∀ (i : Nat) (v : Value), its[i]? = some v → ∃ t, v = Value.int (ns.getD i 0) t := by
  induction hi with
  | nil => exact fun i v e => by simp at e
  | cons n t r ih =>
    intro i v e
    cases i with
    | zero =>
      cases e
      exact ⟨t, rfl⟩
    | succ i => exact ih i v e
theorem minD_args (a v : Value) : argsOk "min" ⟨[a], [(Str.ofString "default", v)]⟩ := by unfold argsOk; kernel_rfl
section
variable {prog : Program} {w : World} {A : Around} {E : Value → Shared → Prop} {s : Shared}
theorem minD_raw {l : Addr} {its : List Value} {ns : List Int} {d : Value} {Q : Value → Shared → Prop} (hh : A.handled = none) (hl : s.heap.IsList l its.toArray) (hi : IntsAre its ns)
    (h0 : ∀ h' tk, (∀ b o, s.heap.get? b = some o → h'.get? b = some o) → ns = [] → Q d { s with heap := h', toks := tk })
    (h1 : ∀ h' tk m t', (∀ b o, s.heap.get? b = some o → h'.get? b = some o) → m ∈ ns → (∀ a ∈ ns, m ≤ a) → Q (.int m t') { s with heap := h', toks := tk }) :
    wpAny (model prog w) A (call (.builtin "min") [.ref l] [("default", d)]) Q E s := by
  have word : (toString "min" ++ toString ".loop" : String) = "min.loop" := by decide
  refine kmb_tree PySem.F.kind_min PySem.F.plain_min PySem.F.entry_min (minD_args _ _) ?_
  show wpAny _ A.in1 (Builtin.Builtins.bindParams "min" ["key", "default"] 0 ⟨[], [("default", d)]⟩ >>= _) _ _ s
  refine wpAny_bind (wpAny_of_eq (show Builtin.Builtins.bindParams "min" ["key", "default"] 0 ⟨[], [("default", d)]⟩ = pure [none, some d] from rfl) ?_)
  refine wpAny_bind (wpAny_pure ?_)
  refine wpAny_bind (wpAny_pyIter_list hl ?_)
  refine wpAny_bind (wpAny_newObj_type ?_)
  rw [word]
  have e1 : its = [] ∨ 0 < its.length := by
    cases its with
    | nil => exact .inl rfl
    | cons a l => exact .inr (Nat.succ_pos _)
  have it1 : (s.heap.push { cls := .type "list_iterator", data := .fields #[.ref l, .int 0 0] }).objs.size = s.heap.objs.size + 1 := Heap.size_push ..
  have nS : ∀ {o : Obj}, o.isFreed = false → (((s.heap.push { cls := .type "list_iterator", data := .fields #[.ref l, .int 0 0] }).push o).get? (s.heap.objs.size + 1)) = some o := fun hf => by
    rw [← it1]
    exact Heap.get?_push_size _ hf
  have nI : ∀ {o : Obj}, ((s.heap.push { cls := .type "list_iterator", data := .fields #[.ref l, .int 0 0] }).push o).IsListIter s.heap.objs.size l 0 := ⟨_, Heap.get?_push_of_some _ (Heap.get?_push_size _ rfl), rfl, rfl⟩
  have nL : ∀ {o : Obj}, ((s.heap.push { cls := .type "list_iterator", data := .fields #[.ref l, .int 0 0] }).push o).IsList l its.toArray := (hl.push _).push _
  have ll : l < s.heap.objs.size := by
    obtain ⟨o, ho, _⟩ := hl
    exact Heap.lt_size ho
  have hv : ∀ (i : Nat) (v : Value), its.toArray[i]? = some v → ∃ t, v = Value.int (ns.getD i 0) t := fun i v e => ints_at hi i v (by simpa using e)
  have hlen : its.length = ns.length := hi.length
  have W := Walks.list (prog := prog) (w := w) (A := A.in1) hh s.heap.objs.size l (Nat.ne_of_lt ll) its.toArray
  refine wpAny_pure ⟨plainId_quiet PySem.F.plain_min_loop _, ?_⟩
  refine codeAny_builtin PySem.F.entry_min_loop ?_
  rw [Around.under_plainId PySem.F.plain_min_loop _]
  show wpAny _ A.in1 (seqItems? (.ref _) >>= _) _ _ _
  rw [it1]
  refine wpAny_bind (wpAny_seqItems (nS rfl) rfl (?_ : wpAny _ A.in1 (tryCatch (pyNext (.ref s.heap.objs.size)) _ >>= _) _ _ _))
  rcases e1 with e0 | e1
  · refine wpAny_bind (wpAny_tryCatch (W.done _ _ _ ⟨by rw [e0]; exact nI, nL⟩ fun h' tk kept => ?_))
    refine wpAny_bind (wpAny_rule (wpAny_pure ?_))
    have n0 : ns = [] := List.eq_nil_of_length_eq_zero (by rw [← hlen, e0]; rfl)
    exact h0 h' tk (fun b o e => kept b o (by simpa using Nat.ne_of_lt (Heap.lt_size e)) (Heap.get?_push_of_some _ (Heap.get?_push_of_some _ e))) n0
  · refine wpAny_bind (wpAny_tryCatch (W.item 0 _ _ _ (by simpa using e1) ⟨nI, nL⟩ fun v h' tk hP st kept => ?_))
    have hS2 := kept (s.heap.objs.size + 1) _ (by simp) (nS rfl)
    refine (?_ : wpAny _ A.in1 (updateSeq (s.heap.objs.size + 1) (fun _ => #[v, v]) >>= _) _ _ _)
    refine wpAny_bind (wpAny_updateSeq hS2 rfl ?_)
    rw [word]
    have sb := Heap.SameBut.update h' (s.heap.objs.size + 1) (Obj.mapSeq fun _ => #[v, v])
    have n1 : s.heap.objs.size ≠ s.heap.objs.size + 1 := Nat.ne_of_lt (Nat.lt_succ_self _)
    have n2 : l ≠ s.heap.objs.size + 1 := Nat.ne_of_lt (Nat.lt_succ_of_lt ll)
    refine wpAny_pure ⟨plainId_quiet PySem.F.plain_min_loop _, minD_loop _ hv hh (Nat.ne_of_lt ll) n1.symm n2.symm _ 1 0 _ v _ rfl (by simpa using Nat.succ_le_of_lt e1) (st.1.extBut sb.extBut n1) (st.2.extBut sb.extBut n2) hP Nat.one_pos (fun i hi => ?_) (Heap.get?_update_self _ hS2 rfl) fun v' h2 tk2 b' g1 g2 g3 => ?_⟩
    · have : i = 0 := by omega
      rw [this]
      exact Int.le_refl _
    · obtain ⟨t, rfl⟩ := hv b' v' g1
      have bl : b' < ns.length := by
        have := (Array.getElem?_eq_some_iff.mp g1).1
        simpa [hlen] using this
      refine h1 h2 tk2 _ t (fun b o e => ?_) ?_ fun a ha => ?_
      · have lt := Heap.lt_size e
        exact g3 b o (Nat.ne_of_lt lt) (Nat.ne_of_lt (Nat.lt_succ_of_lt lt)) ((sb.2 b (Nat.ne_of_lt (Nat.lt_succ_of_lt lt))).trans (kept b o (by simpa using Nat.ne_of_lt lt) (Heap.get?_push_of_some _ (Heap.get?_push_of_some _ e))))
      · rw [List.getD_eq_getElem?_getD, List.getElem?_eq_getElem bl]
        exact List.getElem_mem bl
      · obtain ⟨j, hj, rfl⟩ := List.getElem_of_mem ha
        have := g2 j (by simpa [hlen] using hj)
        rw [show ns.getD j 0 = ns[j] by rw [List.getD_eq_getElem?_getD, List.getElem?_eq_getElem hj] <;> rfl] at this
        exact this
end
/-- min(xs, default=d) -/
def rMinD (K : PySem.W.Frag) : List V → List V → Hp → VK → Prop := fun vs zs H Q => ∃ (a : Addr) (ns : List Int) (d : V), vs = [V.ref a] ∧ zs = [d] ∧ SqL K H a (ns.map V.int) ∧ (ns = [] → Q d H) ∧ ∀ m, m ∈ ns → (∀ y, y ∈ ns → m ≤ y) → Q (.int m) H
theorem cr_minD {X : Cx} (hc : X.calm = true) : CallRK X (.builtin "min") ["default"] (rMinD X.K) := by
  intro pins s σ H xs zs us ws Q I r1 r2 h
  obtain ⟨a, ns, d, rfl, rfl, hs, q0, q1⟩ := h
  obtain ⟨its, rv, hl, _⟩ := I.list hs
  rw [Vals.ref1 r1]
  cases r2 with
  | cons rd t =>
    cases t
    exact minD_raw (I.ok.hd hc) hl.isList rv.ints (fun h' tk k e => ⟨d, H, I.kept k, rd, q0 e⟩) fun h' tk m t' k m1 m2 => ⟨.int m, H, I.kept k, ⟨_, rfl⟩, q1 m m1 m2⟩
end Zn

namespace PySem
namespace EzValue
open PySem.W PySem.Calls PyProof.Rows PySem.HandSPX
/-! ### the text of __init__ -/
def iA (p1 p2 : Pos) : Arguments := { posonlyargs := [], args := [{ arg := "self", annotation := none, pos := p1 }, { arg := "value", annotation := none, pos := p2 }], vararg := none, kwonlyargs := [], kw_defaults := [], kwarg := none, defaults := [] }
def iB (q1 q2 q3 q4 : Pos) : List Stmt := [.Assign [.Attribute (.Name "self" q1) "value" q2] (.Name "value" q3) q4]
def iS : Scope := { kind := .function, names := [(PySem.Str.ofString "self", .local), (PySem.Str.ofString "value", .local)], isGenerator := false, isCoroutine := false, more := [] }
/-- what the written part says of Low, at C, and of its __init__, at fI -/
structure LowTxt (K : Frag) (mg : Str → Option Value) (nm : Str) (qn : String) (C fI : Addr) : Prop where
  gC : mg nm = some (.ref C)
  cls : ∃ nmC q N bs bm sn sub ab col dd k0 k1 k2 k3 k5, K.lookup C = some (excClassObj nmC q C N bs bm true sn sub ab col dd k0 k1 k2 k3 k5 "ValueError.__new__") ∧ refsVE bm = true
  sa : findIn K (.ref C) "__setattr__" = some (some (.builtin "object.__setattr__"))
  ga : findIn K (.ref C) "__getattribute__" = some (some (.builtin "BaseException.__getattribute__"))
  gg : findIn K (.ref C) "__getattr__" = some none
  noN : findIn K (.ref C) "value" = some none
  iC : findIn K (.ref C) "__init__" = some (some (.ref fI))
  tC : typeIn K (.ref fI) = some (.type "function")
  kC : keepIn K (.ref C) = true
  exC : subIn K (.ref C) (.type "BaseException") = some true
  tyC : typeIn K (.ref C) = some (.type "type")
  hdC : hasDictIn K C = true
  te : exmOne K (.ref C) (.ref C) = some true
  fn : ∃ (oc : Value) (od : Option Addr) (doc pm : Value) (an : Option Addr) (cdv ct : Value) (osl : Array (Option Value)) (p1 p2 q1 q2 q3 q4 : Pos),
    K.lookup fI = some ⟨oc, od, .func (fnOf "__init__" qn (iA p1 p2) (iB q1 q2 q3 q4) iS .none .none doc pm an cdv ct), osl⟩ ∧ codeIn K cdv qn = true
theorem one_size (v : Value) : [v].length ≤ sizeLine := by
  rw [sizeLine_eq]
  exact (by decide : 1 ≤ 16777216)
theorem kept_but {K : Frag} {h h' : Heap} {x : Addr} (X : K.In h) (hx : K.lookup x = none) (k : ∀ b o, b ≠ x → h.get? b = some o → h'.get? b = some o) : K.In h' := fun a o e =>
  k a o (fun z => by rw [z, hx] at e; cases e) (X a o e)
theorem ldC {M : Model} {s : Shared} {name : Str} {scope : Scope} {L a : Addr} {cd : Value} {m : Str → Option Value} {x : Str} {pos : Pos} {v : Value} {Q : Value → Shared → Prop} {A : Around} {E : Value → Shared → Prop} (hn : s.heap.Ns L m) (hv : m x = some v) (h : Q v s)
    (hk : scope.kind = .function := by rfl) (hl : (envOfC name scope L a cd).kindOf x = some .local := by rfl) (hd : (x == ("__debug__" : Str)) = false := by decide) :
    wpAny M A (eval (.Name x pos) (envOfC name scope L a cd)) Q E s := wpAny_Name (wpAny_loadName_local hk hl hn hv h) hd
/-- what __init__ leaves of a fresh exception at x -/
structure InitEnd (h h' : Heap) (x C dx t1 : Addr) (v : Value) : Prop where
  keep : ∀ b o, b ≠ x → h.get? b = some o → h'.get? b = some o
  obj : h'.get? x = some { cls := .ref C, dict := some dx, data := .fields #[.ref t1, .none, .none, .none, .bool false, .none] }
  dbig : h.objs.size ≤ dx
  dne : dx ≠ x
  ns : h'.Ns1 dx (fun y => if y = "value" then some v else none)
/-- a made Low -/
structure OwnMade (h h' : Heap) (e C d : Addr) (v : Value) : Prop where
  keep : ∀ b o, h.get? b = some o → h'.get? b = some o
  new : h.objs.size ≤ e
  obj : ∃ oe vs, h'.get? e = some oe ∧ oe.cls = .ref C ∧ oe.dict = some d ∧ oe.data = .fields vs ∧ vs[1]? = some .none
  dbig : h.objs.size ≤ d
  dne : d ≠ e
  ns : h'.Ns1 d (fun y => if y = "value" then some v else none)
section
variable {prog : Program} {w : World} {A : Around} {E : Value → Shared → Prop} {R : Result → Shared → Prop} {s : Shared} {K : Frag} {mg : Str → Option Value} {nm : Str} {qn : String} {C fI : Addr}
theorem low_init (T : LowTxt K mg nm qn C fI) {x t0 : Addr} {v : Value} (X : K.In s.heap) (hlim : s.heap.NoLimit) (hx : s.heap.get? x = some (excO C t0)) (hnx : K.lookup x = none) (hroom : A.depth < recursionLimit)
    (hq : ∀ h' tk dx, InitEnd s.heap h' x C dx t0 v → R (.ok (.ret .none)) { s with heap := h', toks := tk }) :
    codeAny (model prog w) A (.call (.ref fI) ⟨[.ref x, v], []⟩) R s := by
  obtain ⟨oc, od, doc, pm, an, cdv, ct, osl, p1, p2, q1, q2, q3, q4, ho, hcd⟩ := T.fn
  obtain ⟨nmC, q, N, bs, bm, sn, sub, ab, col, dd, k0, k1, k2, k3, k5, hC, hbm⟩ := T.cls
  have hcl : clsIn K C = some { name := nmC, bases := bs, mro := .ref C :: bm, ns := N, qualname := q, hasDict := true, slotNames := sn, subclasses := sub, abstract := ab, collection := col, hasDel := false } := by unfold clsIn; rw [hC] <;> rfl
  refine Att.call_fn (binds := [("self", .ref x), ("value", v)]) X hlim ho hcd hroom (BindsTo.of_eq (by first | rfl | with_unfolding_all rfl)) (by first | rfl | decide | with_unfolding_all rfl) (fun s₁ IC => ?_) rfl rfl rfl
  obtain ⟨h₁, tk₁, rfl⟩ := IC.toInCall.same
  have k : ∀ b o, s.heap.get? b = some o → h₁.get? b = some o := IC.toInCall.keep
  have hn := IC.toInCall.ns
  have hxL : s.heap.objs.size ≠ x := Nat.ne_of_gt (Heap.lt_size hx)
  have X₁ : K.In h₁ := X.keeps k
  have hx₁ := k _ _ hx
  -- self.by = by
  show wpAny _ _ (execs _ _) _ _ _
  refine wpAny_execs_cons (plainObj_wpAny_Assign_Attribute ?_)
  refine ldC (v := v) hn (by first | rfl | with_unfolding_all rfl | kernel_rfl) (ldC (v := .ref x) hn (by first | rfl | with_unfolding_all rfl | kernel_rfl) ?_)
  refine set_plain X₁ (ox := excO C t0) (od := none) ⟨hx₁, rfl, rfl, trivial⟩ T.sa ?_
  refine exc_osa X₁ hx₁ hcl (show refsVE (.ref C :: bm) = true from hbm) rfl T.noN (fun h₃ tk₃ dx k₃ dn dne hx₃ hn₃ => ?_)
  show wpAny _ _ (execs _ _) _ _ _
  have z : s.heap.objs.size < h₁.objs.size := hn.lt
  exact wpAny_execs_nil (hq h₃ tk₃ dx ⟨fun b o hb e => k₃ b o hb (k b o e), hx₃, Nat.le_of_lt (Nat.lt_of_lt_of_le z dn), dne, hn₃⟩)
theorem low_made (T : LowTxt K mg nm qn C fI) {v : Value} (X : K.In s.heap) (hlim : s.heap.NoLimit) (hroom : A.depth + 1 < recursionLimit)
    (hq : ∀ h' tk e d, OwnMade s.heap h' e C d v → R (.ok (.ret (.ref e))) { s with heap := h', toks := tk }) :
    codeAny (model prog w) A (.call (.ref C) ⟨[v], []⟩) R s := by
  obtain ⟨nmC, q, N, bs, bm, sn, sub, ab, col, dd, k0, k1, k2, k3, k5, hC, hbm⟩ := T.cls
  obtain ⟨hp, g, dr, tk, os⟩ := s
  have k : ∀ b o, hp.get? b = some o → ((hp.push (kdv_tup [v])).push (excO C hp.objs.size)).get? b = some o := fun b o e => Heap.get?_push_of_some _ (Heap.get?_push_of_some _ e)
  have hget : ((hp.push (kdv_tup [v])).push (excO C hp.objs.size)).get? (hp.objs.size + 1) = some (excO C hp.objs.size) := by heap_get
  have hnx : K.lookup (hp.objs.size + 1) = none := by
    cases e : K.lookup (hp.objs.size + 1) with
    | none => rfl
    | some o =>
      have z : hp.get? (hp.objs.size + 1) = some o := X _ _ e
      exact absurd (Nat.lt_of_succ_lt (Heap.lt_size z)) (Nat.lt_irrefl _)
  refine call_own F.excBase_ValueError (fun X => refsVE_contains X bm hbm) (X _ _ hC) (looks_findIn X T.iC) (fun self => bind_fn X self T.tC) (one_size v) ?_
  refine low_init (s := ⟨(hp.push (kdv_tup [v])).push (excO C hp.objs.size), g, dr, tk, os⟩) T (X.keeps k) (hlim.keeps k) hget hnx ?_ fun h' tk' dx ⟨k', hx, dn, dne, hns⟩ => ?_
  · show A.depth + 1 < recursionLimit
    exact hroom
  · have old : ∀ b o, hp.get? b = some o → h'.get? b = some o := fun b o e => k' b o (Nat.ne_of_lt (Nat.lt_succ_of_lt (Heap.lt_size e))) (k b o e)
    have z : hp.objs.size + 1 + 1 ≤ dx := by
      first
        | (simpa only [Heap.size_push] using dn)
        | exact dn
        | (have q := dn; rw [Heap.size_push, Heap.size_push] at q; exact q)
    exact ⟨rfl, hq h' tk' (hp.objs.size + 1) dx ⟨old, Nat.le_succ _, ⟨_, _, hx, rfl, rfl, rfl, rfl⟩, Nat.le_trans (Nat.le_trans (Nat.le_succ _) (Nat.le_succ _)) z, dne, hns⟩⟩
end
end EzValue
end PySem
namespace L2
open PySem PySem.Spec PyProof.Rows
theorem relO_value {v : V} {v' : Value} (r : RelV v v') (f : Str) : RelO (List.lookup f [(("value" : Str), v)]) (if f = "value" then some v' else none) := by
  by_cases hw : f = "value"
  · subst hw
    rw [if_pos rfl]
    have q : List.lookup ("value" : Str) [(("value" : Str), v)] = some v := by simp [List.lookup]
    rw [q]
    exact r
  · rw [if_neg hw]
    have qw : (f == ("value" : Str)) = false := by simpa using hw
    have q2 : List.lookup f [(("value" : Str), v)] = none := by simp [List.lookup, qw]
    rw [q2]
    trivial
section
variable {X : Cx} {nm : Str} {qn : String} {C fI : Addr}
/-- Low(e) -/
def tMk_value (C : Addr) (ta : TA) : L2.St → Hp → XK → Prop := fun σ H Q => ta σ H fun vs H1 => ∃ v, vs = [v] ∧ ∀ d, H1 d = none → Q (.ref C) (some d) (upd H1 d (.xd [(("value" : Str), v)]))
theorem pmk_value {a : Expr} {ta : TA} {p pos : Pos} {k : Nat} (T : PySem.EzValue.LowTxt X.K X.mg nm qn C fI) (hr : Room k X.A) (ha : PA X [a] ta) (hg : Gl X nm := by rfl) (hdb : (nm == ("__debug__" : Str)) = false := by decide)
    (he : starEach (a :: []) X.env = (false, eval a X.env) :: starEach [] X.env := by rfl) (hpl : (backTo pos (starEach [] X.env)).any (·.1) = false := by rfl) :
    PMk X (.Call (.Name nm p) [a] [] pos) (tMk_value C ta) := by
  intro pins s σ H Q I h
  refine wpAny_Call_Name_kw (ld_glob I hg T.gC ?_ hdb)
  refine PySem.W.callWith_K (h₀ := X.base) I.ok.mod.kin T.kC (thn (ha.run pos pins s σ H _ I h) fun us s1 hh => ?_) he hpl
  obtain ⟨vs, H1, I1, r1, v, ev, q1⟩ := hh
  subst ev
  refine ⟨I1.kIn, ?_⟩
  cases r1 with
  | cons rv rn =>
    rename_i v' us'
    cases rn
    show wpAny _ _ (call (.ref C) [v']) _ _ _
    have hlim := I1.nolimit
    obtain ⟨hp, g, dr, tk, os⟩ := s1
    refine wpAny_call (PySem.EzValue.low_made T I1.kIn hlim (by have := hr.dp; omega) fun h' tk' e d M => ?_)
    show MkP X pins σ Q (.ref e) ⟨h', g, dr, tk', os⟩
    obtain ⟨oe, fv, hoe, hc, hd, hdat, h1⟩ := M.obj
    have hns := M.ns
    obtain ⟨G', g1, g2⟩ := restrict h' fun b => decide (b ≠ e)
    have gk : ∀ b, b ≠ e → G'.get? b = h'.get? b := fun b hb => g1 b (decide_eq_true hb)
    have ge : G'.get? e = none := g2 e (by simp)
    have old : ∀ b o, hp.get? b = some o → G'.get? b = some o := fun b o q => (gk b (Nat.ne_of_lt (Nat.lt_of_lt_of_le (Heap.lt_size q) M.new))).trans (M.keep b o q)
    have ob : ObjOk X.prog X.w (upd H1 d (.xd [(("value" : Str), v)])) G' d (.xd [(("value" : Str), v)]) :=
      ⟨_, hns.at (fun o q => (gk d M.dne).trans q), fun f => relO_value rv f⟩
    have J : Inv X pins σ (upd H1 d (.xd [(("value" : Str), v)])) ⟨G', g, dr, tk', os⟩ := I1.laid (t' := tk') old M.dbig ob
    refine ⟨e, oe, fv, ⟨G', g, dr, tk', os⟩, _, .ref C, some d, rfl, J, fun b o q => ?_, ge, hoe, ⟨hc, hd⟩, hdat, h1, ?_, rfl, I1.bare, raises_own T.exC T.tyC, q1 d (I1.hok.fresh M.dbig)⟩
    · by_cases hb : b = e
      · have q' : G'.get? b = some o := q
        rw [hb, ge] at q'; cases q'
      · exact (gk b hb).symm.trans q
    · rw [upd_ne (Ne.symm M.dne)]
      exact I1.hok.fresh M.new
/-- raise Low(e) -/
def tRaise_value (C : Addr) (W : WX) (ta : TA) : TS := fun _ σ H => tMk_value C ta σ H fun cls d H' => W cls d σ H'
theorem ps_raise_value {a : Expr} {ta : TA} {W : WX} {p pos pos2 : Pos} {k : Nat} (hc : X.calm = true) (T : PySem.EzValue.LowTxt X.K X.mg nm qn C fI) (hr : Room k X.A) (tk : Takes X W) (ha : PA X [a] ta) (hg : Gl X nm := by rfl) (hdb : (nm == ("__debug__" : Str)) = false := by decide)
    (he : starEach (a :: []) X.env = (false, eval a X.env) :: starEach [] X.env := by rfl) (hpl : (backTo pos (starEach [] X.env)).any (·.1) = false := by rfl) :
    PS X (.Raise (some (.Call (.Name nm p) [a] [] pos)) none pos2) (tRaise_value C W ta) := ps_raise hc tk (pmk_value T hr ha hg hdb he hpl)
/-- low.by, low the exception that the suite holds (at a; its class cls, its dict d) -/
def tBy_value (C : Addr) (a : Addr) (cls : Value) (d : Option Addr) (te : TE) : TE := fun σ H Q => te σ H fun x H1 => x = .ref a ∧ cls = .ref C ∧ ∃ (dd : Addr) (v : V), d = some dd ∧ H1 dd = some (.xd [(("value" : Str), v)]) ∧ Q v H1
theorem pe_by_value {a : Addr} {oe : Obj} {cls : Value} {d : Option Addr} {pn : List (Addr × Obj)} {e : Expr} {te : TE} {pos : Pos} (T : PySem.EzValue.LowTxt X.K X.mg nm qn C fI) (hz : Zc cls d oe) (hf : ∃ vs, oe.data = .fields vs) (he : PE (X.suite a ((a, oe) :: pn)) e te)
    (hb : attributeBase e "value" X.env (eval e X.env) = eval e X.env := by rfl) :
    PE (X.suite a ((a, oe) :: pn)) (.Attribute e "value" pos) (tBy_value C a cls d te) := by
  refine ⟨fun pins s σ H Q I h => ?_⟩
  refine attr_of hb (thn (he.run pins s σ H _ I h) fun u s1 hh => ?_)
  obtain ⟨x, H1, I1, rx, ex, ec, dd, v, ed, ea, q⟩ := hh
  subst ex
  obtain rfl : u = Value.ref a := rx
  subst ec
  subst ed
  obtain ⟨ha, _⟩ := I1.pin (a, oe) (List.mem_append_left _ List.mem_cons_self)
  obtain ⟨vs, hd⟩ := hf
  have hx : ObjOk X.prog X.w H1 s1.heap dd (.xd [(("value" : Str), v)]) := I1.hok dd _ ea
  obtain ⟨mA, hns, hr⟩ := hx
  obtain ⟨od, ho, hl⟩ := lookIn_ns hns
  have l : List.lookup ("value" : Str) [(("value" : Str), v)] = some v := by simp [List.lookup]
  obtain ⟨u, hu, ru⟩ := RelO.some_of (v := v) (o := mA "value") (by rw [← l]; exact hr "value")
  have J : PySem.W.InstAt s1.heap a oe C (some od) := ⟨ha, hz.1, by unfold PySem.W.notCls; rw [hd] <;> rfl, by rw [hz.2]; exact ho⟩
  exact HandSPX.exc_get I1.kIn J T.ga T.gg T.exC (PySem.W.findObj_own T.hdC T.noN rfl (by rw [hl, hu])) (handed_of ru) ⟨v, H1, I1.tok _, ru, q⟩
end
end L2


namespace Gd
open PySem PySem.Spec PyProof.Rows L2
/-- an except clause: its class, the slot of its name, what its suite reads -/
structure Cl where
  c : Value
  i : Option Nat
  ts : Addr → Value → Option Addr → TS
/-- behind the suite of a clause with a name the name is gone -/
def gone (D : Ends) (i : Nat) : Ends :=
  { nx := fun σ H => D.nx (σ.set i none) H, rt := D.rt, bk := fun σ H => D.bk (σ.set i none) H, ct := fun σ H => D.ct (σ.set i none) H }
/-- what the suite of a clause is asked -/
def atCl (q : Cl) (D : Ends) (a : Addr) (cls : Value) (d : Option Addr) (σ : L2.St) (H : Hp) : Prop :=
  match q.i with
  | some i => q.ts a cls d (gone D i) (σ.set i (some (.ref a))) H
  | none => q.ts a cls d D σ H
/-- what the clauses wish of an exception; where none of the told ones takes it, that can't be -/
def wCl (K : PySem.W.Frag) (D : Ends) : List Cl → WX
  | [] => fun _ _ _ _ => False
  | q :: r => fun cls d σ H => ∃ b, PySem.W.exmOne K cls q.c = some b ∧ (b = true → ∀ a, H a = none → atCl q D a cls d σ H) ∧ (b = false → wCl K D r cls d σ H)
inductive HdG (X : Cx) : List ExceptHandler → List Cl → Prop
  | stop (hds : List ExceptHandler) : HdG X hds []
  | as {x n : Str} {i : Nat} {c : Value} {ts : Addr → Value → Option Addr → TS} {b₀ : Stmt} {suite : List Stmt} {np ps : Pos} {hds : List ExceptHandler} {l : List Cl} (hi : X.N[i]? = some n) (hl : X.env.kindOf n = some .local) (hc : Names X x c)
      (hsu : ∀ (a : Addr) (oe : Obj) (cls : Value) (d : Option Addr) (pn : List (Addr × Obj)), Zc cls d oe → (∃ vs, oe.data = .fields vs) → PSs (X.suite a ((a, oe) :: pn)) (b₀ :: suite) (ts a cls d)) (r : HdG X hds l) :
      HdG X (.ExceptHandler (some (.Name x np)) (some n) (b₀ :: suite) ps :: hds) (⟨c, some i, ts⟩ :: l)
  | bare {x : Str} {c : Value} {ts : Addr → Value → Option Addr → TS} {b₀ : Stmt} {suite : List Stmt} {np ps : Pos} {hds : List ExceptHandler} {l : List Cl} (hc : Names X x c)
      (hsu : ∀ (a : Addr) (oe : Obj) (cls : Value) (d : Option Addr) (pn : List (Addr × Obj)), Zc cls d oe → (∃ vs, oe.data = .fields vs) → PSs (X.suite a ((a, oe) :: pn)) (b₀ :: suite) (ts a cls d)) (r : HdG X hds l) :
      HdG X (.ExceptHandler (some (.Name x np)) none (b₀ :: suite) ps :: hds) (⟨c, none, ts⟩ :: l)
section
variable {X : Cx} {body : List Stmt} {h₀ : ExceptHandler} {hds : List ExceptHandler} {l : List Cl} {pos : Pos} {tb : WX → TS}
theorem ps_tryG (hs : X.stack = X.env :: X.outer) (hf : X.env.frame = some X.env.locals) (hN : X.N.Nodup)
    (hb : ∀ (W : WX) (pn : List (Addr × Obj)) (xe : Value → Shared → Prop), Takes (X.tr pn xe) W → PassesOwn (model X.prog X.w) X.A X.env xe → PSs (X.tr pn xe) body (tb W))
    (hh : HdG X (h₀ :: hds) l) : PS X (.Try body (h₀ :: hds) [] [] pos) (fun D σ H => tb (wCl X.K D l) D σ H) := by
  refine ⟨fun pins s σ H D I h => ?_⟩
  have ok := I.ok
  have hfr : X.A.frames = some (X.env :: X.outer) := ok.frames.trans (congrArg some hs)
  refine wpAny_Try_except (wpAny_mono ((hb (wCl X.K D l) (X.pn ++ pins) _ ?caught PassesOwn.looking).run [] s σ H D (I.toTry _) h) ?norm fun _ _ z => z)
  case norm =>
    intro f s1 hsp
    match f, hsp with
    | .next, ⟨σ', H', J, q⟩ => exact wpAny_execs_nil ⟨σ', H', J.ofTry ok, q⟩
    | .brk, ⟨σ', H', J, q⟩ => exact ⟨σ', H', J.ofTry ok, q⟩
    | .cont, ⟨σ', H', J, q⟩ => exact ⟨σ', H', J.ofTry ok, q⟩
    | .ret u, ⟨v, σ', H', J, r, q⟩ => exact ⟨v, σ', H', J.ofTry ok, r, q⟩
  case caught =>
    intro u s' xx
    obtain ⟨a, B, sI, pins', σ', H', cls, d, rfl, J', nb, up, sky, na, os, ag, w⟩ := xx
    have J : Inv X pins σ' H' sI := J'.ofTry ok
    rw [show (X.tr (X.pn ++ pins) _).stack = X.env :: X.outer from hs] at sky
    show wpAny _ X.A (noteFrame (.ref a) X.env) _ _ _
    refine Sky.land Zc.steady hfr hf sky fun h3 fl3 up3 => ?_
    have J3 : Inv X pins σ' H' { s' with heap := h3 } := J.landed nb fl3.1 (up.trans up3) os ag
    obtain ⟨oe3, vs3, he3, hz3, hd3⟩ := fl3.there
    have nfr : a ∉ frs (X.env :: X.outer) := fun hm => by
      obtain ⟨_, o, e, hn⟩ := fl3.2.2.1.mem hm
      rw [he3] at e
      cases e
      exact hn _ hd3
    have nL : a ≠ X.env.locals := fun z => nfr (List.mem_filterMap.mpr ⟨X.env, List.mem_cons_self, by rw [hf, z]⟩)
    have nF : a ∉ X.fs := fun hm => nfr (let ⟨e, he, q⟩ := List.mem_filterMap.mp hm; List.mem_filterMap.mpr ⟨e, List.mem_cons_of_mem _ he, q⟩)
    have S3 := J3.suite he3 hd3 na nL nF
    have LT : PySem.W.Looks (model X.prog X.w) h3 (typeOf (.ref a)) cls := fun A Q E s k q => wpAny_typeOf_ref (k _ _ he3) (by rw [hz3.1]; exact q)
    have test : ∀ {x : Str} {c : Value} {np : Pos} {Q E : Value → Shared → Prop}, Names X x c → Q c { s' with heap := h3 } → wpAny (model X.prog X.w) (X.A.mark (some (.ref a))) (eval (.Name x np) X.env) Q E { s' with heap := h3 } := by
      rintro x c np Q E ⟨hg, hdb, hm | ⟨hm, hv, hn⟩⟩ q
      · exact ld_glob (X := X.suite a ((a, oe3) :: (X.pn ++ pins))) S3 hg hm q hdb
      · exact ld_blt (X := X.suite a ((a, oe3) :: (X.pn ++ pins))) S3 hg hm hv q hn hdb
    suffices go : ∀ {hs : List ExceptHandler} {cl : List Cl}, HdG X hs cl → wCl X.K D cl cls d σ' H' → wpAny (model X.prog X.w) X.A (handleBy (.ref a) X.env hs) (SP X pins D) X.xe { s' with heap := h3 } from go hh w
    intro hs' cl k
    induction k with
    | stop => exact fun w => w.elim
    | @as x n i c ts b₀ suite np ps hds l hi hl hc hsu r ih =>
      rintro ⟨b, hb1, yes, no⟩
      have hb2 := PySem.W.exm_one (M := model X.prog X.w) J3.kIn LT hb1
      refine wpAny_handleBy_cons (codeAny_handlers_test (test hc (hb2.here ?_))) (fun q => nomatch q)
      cases b with
      | false => exact ih (no rfl)
      | true =>
        refine codeAny_handlers_suite_as (HandSPX.lands_againZ fl3 fun h4 fl4 up4 => ?_)
        have J4 : Inv X pins σ' H' { s' with heap := h4 } := J.landed nb fl4.1 ((up.trans up3).trans up4) os ag
        obtain ⟨oe4, vs4, he4, hz4, hd4⟩ := fl4.there
        refine store_ok (X := X.suite a ((a, oe4) :: (X.pn ++ pins))) (v := .ref a) (J4.suite he4 hd4 na nL nF) hN hi (.inl hl) rfl (fun s5 S5 => ?_) (.inr hl)
        refine wpAny_mono ((hsu a oe4 cls d (X.pn ++ pins) hz4 ⟨_, hd4⟩).run [] s5 _ H' (gone D i) S5 (yes rfl a na)) (fun f s6 hsp => ?_) fun _ _ z => z.elim
        have fin : ∀ {σ6 : L2.St} {H6 : Hp} {Q : Shared → Prop}, Inv (X.suite a ((a, oe4) :: (X.pn ++ pins))) [] σ6 H6 s6 → (∀ s7, Inv X pins (σ6.set i none) H6 s7 → Q s7) →
          wpAny (model X.prog X.w) X.A (do bindName X.env n .none; unbindBehindTheSuite X.env n ps) (fun _ s7 => Q s7) X.xe s6 := fun S6 hq => gone_ok (S6.unsuite ok) hN hi hl hq
        match f, hsp with
        | .next, ⟨σ6, H6, S6, q6⟩ => exact fin S6 fun s7 J7 => ⟨_, _, J7, q6⟩
        | .brk, ⟨σ6, H6, S6, q6⟩ => exact fin S6 fun s7 J7 => ⟨_, _, J7, q6⟩
        | .cont, ⟨σ6, H6, S6, q6⟩ => exact fin S6 fun s7 J7 => ⟨_, _, J7, q6⟩
        | .ret u, ⟨v6, σ6, H6, S6, r6, q6⟩ => exact fin S6 fun s7 J7 => ⟨_, _, _, J7, r6, q6⟩
    | @bare x c ts b₀ suite np ps hds l hc hsu r ih =>
      rintro ⟨b, hb1, yes, no⟩
      have hb2 := PySem.W.exm_one (M := model X.prog X.w) J3.kIn LT hb1
      refine wpAny_handleBy_cons (codeAny_handlers_test (test hc (hb2.here ?_))) (fun q => nomatch q)
      cases b with
      | false => exact ih (no rfl)
      | true =>
        refine codeAny_handlers_suite (HandSPX.lands_againZ fl3 fun h4 fl4 up4 => ?_)
        have J4 : Inv X pins σ' H' { s' with heap := h4 } := J.landed nb fl4.1 ((up.trans up3).trans up4) os ag
        obtain ⟨oe4, vs4, he4, hz4, hd4⟩ := fl4.there
        refine wpAny_mono ((hsu a oe4 cls d (X.pn ++ pins) hz4 ⟨_, hd4⟩).run [] _ _ H' D (J4.suite he4 hd4 na nL nF) (yes rfl a na)) (fun f s6 hsp => ?_) fun _ _ z => z.elim
        match f, hsp with
        | .next, ⟨σ6, H6, S6, q6⟩ => exact ⟨_, _, S6.unsuite ok, q6⟩
        | .brk, ⟨σ6, H6, S6, q6⟩ => exact ⟨_, _, S6.unsuite ok, q6⟩
        | .cont, ⟨σ6, H6, S6, q6⟩ => exact ⟨_, _, S6.unsuite ok, q6⟩
        | .ret u, ⟨v6, σ6, H6, S6, r6, q6⟩ => exact ⟨_, _, _, S6.unsuite ok, r6, q6⟩
end
end Gd

namespace Gd
open PySem PySem.Spec PyProof.Rows L2
/-- a call of a def: the written arguments, then the defaults; what may be let out, at the slots -/
def tCallG (sp : Sp) (dvs : List V) (E : L2.St → XK) (t : TA) : TE := fun σ H Q => t σ H fun vs H1 => sp (vs ++ dvs) H1 Q (E σ)
/-- .. with keywords -/
def tCallH (n m : Nat) (sp : Sp) (gV : List V → List V → List V) (E : L2.St → XK) (t tk : TA) : TE := fun σ H Q => t σ H fun vs H1 => tk σ H1 fun zs H2 => vs.length = n ∧ zs.length = m ∧ sp (gV vs zs) H2 Q (E σ)
section
variable {X : Cx} {CX : CXT} {k n : Nat} {f : Addr} {fd : FuncData} {ps ks : List Str} {sp : Sp} {dvs : List V} {ds : List Value} {E : L2.St → XK} {x : Str} {p pos : Pos} {e : Expr} {es : List Expr} {t tk : TA} {kws : List Keyword}
  {g : List Value → List Value → List Value} {gV : List V → List V → List V}
theorem passN {σ : L2.St} : PassesAt CX0 X σ E0 := fun _ _ _ _ _ _ h => h.elim
theorem passM {σ : L2.St} : PassesAt (L2.CX X.prog X.w) X σ E0 := fun _ _ _ _ _ _ h => by
  obtain ⟨_, _, _, _, _, _, _, _, _, _, _, _, z⟩ := h
  exact z.elim
theorem endC {pins : List (Addr × Obj)} {σ : L2.St} {H : Hp} {s s' : Shared} {Q : VK} {E1 : XK} {r : Result} (hx : PassesAt CX X σ E1) (I : Inv X pins σ H s) (hq : CR CX X.stack X.prog X.w H s Q E1 r s') :
    match (motive := Result → Prop) r with
    | .ok (.ret v) => EP X pins σ Q v s'
    | .ok _ => False
    | .error e => X.xe e s' := by
  match r, hq with
  | .error e, hq => exact hx pins H s e s' I hq
  | .ok (.ret u), hq => exact I.after hq
  | .ok .next, hq => exact False.elim hq
  | .ok .brk, hq => exact False.elim hq
  | .ok .cont, hq => exact False.elim hq
theorem runC {pins : List (Addr × Obj)} {σ : L2.St} {H : Hp} {s : Shared} {Q : VK} {us : List Value} {vs : List V} (F : FnG X.prog X.w X.K X.mg X.base CX k f fd ps sp) (hc : Clean X.A) (hr : Room k X.A)
    (hb : Binds X.K fd ps ds) (hd : Vals dvs ds) (hx : PassesAt CX X σ (E σ)) (I : Inv X pins σ H s) (r : Vals vs us) (h : sp (vs ++ dvs) H Q (E σ)) :
    wpAny (model X.prog X.w) X.A (call (.ref f) us) (EP X pins σ Q) X.xe s := by
  have r2 := r.append hd
  have hl : (us ++ ds).length = ps.length := r2.length ▸ F.len _ _ _ _ h
  refine wpAny_call (codeAny_mono (F.run X.A X.stack s H ⟨us, []⟩ (us ++ ds) (vs ++ dvs) Q (E σ) hc hr I.env0 (hb s us I.kIn hl) r2 h) ?_)
  intro r s' hq
  have z := endC hx I hq
  match r, z with
  | .error e, z => exact z
  | .ok (.ret u), z => exact z
  | .ok .next, z => exact False.elim z
  | .ok .brk, z => exact False.elim z
  | .ok .cont, z => exact False.elim z
theorem runH {pins : List (Addr × Obj)} {σ : L2.St} {H : Hp} {s : Shared} {Q : VK} {us ws : List Value} {vs zs : List V} (F : FnG X.prog X.w X.K X.mg X.base CX k f fd ps sp) (hc : Clean X.A) (hr : Room k X.A)
    (hb : KBn X.K fd ps n ks g gV) (hx : PassesAt CX X σ (E σ)) (I : Inv X pins σ H s) (r : Vals vs us) (rz : Vals zs ws) (l1 : vs.length = n) (l2 : zs.length = ks.length) (h : sp (gV vs zs) H Q (E σ)) :
    wpAny (model X.prog X.w) X.A (call (.ref f) us (ks.zip ws)) (EP X pins σ Q) X.xe s := by
  refine wpAny_call (codeAny_mono (F.run X.A X.stack s H ⟨us, ks.zip ws⟩ (g us ws) (gV vs zs) Q (E σ) hc hr I.env0 (hb.to s us ws I.kIn (r.length.symm.trans l1) (rz.length.symm.trans l2)) (hb.rel r rz) h) ?_)
  intro r s' hq
  have z := endC hx I hq
  match r, z with
  | .error e, z => exact z
  | .ok (.ret u), z => exact z
  | .ok .next, z => exact False.elim z
  | .ok .brk, z => exact False.elim z
  | .ok .cont, z => exact False.elim z
/-- f(e, ..) -/
theorem pe_c (F : FnG X.prog X.w X.K X.mg X.base CX k f fd ps sp) (hc : Clean X.A) (hr : Room k X.A) (hg : Gl X x) (hm : X.mg x = some (.ref f)) (hk : PySem.W.keepIn X.K (.ref f) = true)
    (hb : Binds X.K fd ps ds) (hd : Vals dvs ds) (hx : ∀ σ, PassesAt CX X σ (E σ)) (ha : PA X (e :: es) t) (hdb : (x == ("__debug__" : Str)) = false := by decide)
    (he : starEach (e :: es) X.env = (false, eval e X.env) :: starEach es X.env := by rfl) (hpl : (backTo pos (starEach es X.env)).any (·.1) = false := by rfl) :
    PE X (.Call (.Name x p) (e :: es) [] pos) (tCallG sp dvs E t) := by
  refine ⟨fun pins s σ H Q I h => wpAny_Call_Name_kw (ld_glob I hg hm ?_ hdb)⟩
  exact PySem.W.callWith_K (h₀ := X.base) I.ok.mod.kin hk (thn (ha.run pos pins s σ H _ I h) fun us s1 ⟨vs, H1, I1, r, q⟩ => ⟨I1.kIn, runC F hc hr hb hd (hx σ) I1 r q⟩) he hpl
/-- f() -/
theorem pe_c0 (F : FnG X.prog X.w X.K X.mg X.base CX k f fd ps sp) (hc : Clean X.A) (hr : Room k X.A) (hg : Gl X x) (hm : X.mg x = some (.ref f)) (hk : PySem.W.keepIn X.K (.ref f) = true)
    (hb : Binds X.K fd ps ds) (hd : Vals dvs ds) (hx : ∀ σ, PassesAt CX X σ (E σ)) (hdb : (x == ("__debug__" : Str)) = false := by decide) :
    PE X (.Call (.Name x p) [] [] pos) (tCallG sp dvs E tNil) := by
  refine ⟨fun pins s σ H Q I h => wpAny_Call_Name_kw (ld_glob I hg hm ?_ hdb)⟩
  exact PySem.W.callWith_K0 I.kIn hk (runC (us := []) F hc hr hb hd (hx σ) I .nil h)
/-- f(e, .., k = v, ..) -/
theorem pe_h (F : FnG X.prog X.w X.K X.mg X.base CX k f fd ps sp) (hc : Clean X.A) (hr : Room k X.A) (hg : Gl X x) (hm : X.mg x = some (.ref f)) (hk : PySem.W.keepIn X.K (.ref f) = true)
    (hb : KBn X.K fd ps n ks g gV) (hx : ∀ σ, PassesAt CX X σ (E σ)) (ha : PA X (e :: es) t) (hkw : PK X kws tk)
    (hall : (backToKw pos (keywordEach kws X.env)).all (·.1.isSome) = true := by rfl) (hks : (backToKw pos (keywordEach kws X.env)).filterMap (·.1) = ks := by rfl) (hdb : (x == ("__debug__" : Str)) = false := by decide)
    (he : starEach (e :: es) X.env = (false, eval e X.env) :: starEach es X.env := by rfl)
    (hpl : ((backTo pos (starEach (e :: es) X.env)).any (·.1) || (backToKw pos (keywordEach kws X.env)).any (·.1.isNone)) = false := by rfl) :
    PE X (.Call (.Name x p) (e :: es) kws pos) (tCallH n ks.length sp gV E t tk) := by
  refine ⟨fun pins s σ H Q I h => wpAny_Call_Name_kw (ld_glob I hg hm ?_ hdb)⟩
  refine PySem.W.callWith_KW (h₀ := X.base) I.ok.mod.kin hk hall (thn (ha.run pos pins s σ H _ I h) fun us s1 ⟨vs, H1, I1, r, q⟩ => ?_) hpl he
  refine thn (hkw.run pos pins s1 σ H1 _ I1 q) fun ws s2 ⟨zs, H2, I2, rz, l1, l2, q2⟩ => ⟨I2.kIn, ?_⟩
  rw [hks]
  exact runH F hc hr hb (hx σ) I2 r rz l1 l2 q2
/-- f(k = v, ..) -/
theorem pe_h0 (F : FnG X.prog X.w X.K X.mg X.base CX k f fd ps sp) (hc : Clean X.A) (hr : Room k X.A) (hg : Gl X x) (hm : X.mg x = some (.ref f)) (hk : PySem.W.keepIn X.K (.ref f) = true)
    (hb : KBn X.K fd ps 0 ks g gV) (hx : ∀ σ, PassesAt CX X σ (E σ)) (hkw : PK X kws tk)
    (hall : (backToKw pos (keywordEach kws X.env)).all (·.1.isSome) = true := by rfl) (hks : (backToKw pos (keywordEach kws X.env)).filterMap (·.1) = ks := by rfl) (hdb : (x == ("__debug__" : Str)) = false := by decide)
    (hpl : ((backTo pos (starEach [] X.env)).any (·.1) || (backToKw pos (keywordEach kws X.env)).any (·.1.isNone)) = false := by rfl) :
    PE X (.Call (.Name x p) [] kws pos) (tCallH 0 ks.length sp gV E tNil tk) := by
  refine ⟨fun pins s σ H Q I h => wpAny_Call_Name_kw (ld_glob I hg hm ?_ hdb)⟩
  refine PySem.W.callWith_KW0 (h₀ := X.base) I.ok.mod.kin hk hall (thn (hkw.run pos pins s σ H _ I h) fun ws s2 ⟨zs, H2, I2, rz, l1, l2, q2⟩ => ⟨I2.kIn, ?_⟩) hpl
  rw [hks]
  exact runH (us := []) F hc hr hb (hx σ) I2 .nil rz l1 l2 q2
end
end Gd

namespace Gd
open PySem PySem.Spec PyProof.Rows L2
/-! ### data as it stands in the heap, dicts among it -/
def kD : Key → PyData
  | .inl i => .int i
  | .inr x => .str x
mutual
inductive Da (K : PySem.W.Frag) (H : Hp) : V → PyData → Prop
  | non : Da K H .non .none
  | bl (b : Bool) : Da K H (.bl b) (.bool b)
  | int (i : Int) : Da K H (.int i) (.int i)
  | str (x : Str) : Da K H (.str x) (.str x)
  | lst {a : Addr} {xs : List V} {ds : List PyData} : H a = some (.lst xs) → DaL K H xs ds → Da K H (.ref a) (.list ds)
  | tup {a : Addr} {xs : List V} {ds : List PyData} : SqT K H a xs → DaL K H xs ds → Da K H (.ref a) (.tuple ds)
  | dct {a : Addr} {kvs : List (Key × V)} {ds : List PyData} : H a = some (.dK kvs) → DaL K H (kvs.map (·.2)) ds → Da K H (.ref a) (.dict ((kvs.map fun p => kD p.1).zip ds))
inductive DaL (K : PySem.W.Frag) (H : Hp) : List V → List PyData → Prop
  | nil : DaL K H [] []
  | cons {v : V} {vs : List V} {d : PyData} {ds : List PyData} : Da K H v d → DaL K H vs ds → DaL K H (v :: vs) (d :: ds)
end
section
variable {K : PySem.W.Frag} {H H' : Hp}
theorem DaL.length : ∀ {vs : List V} {ds : List PyData}, DaL K H vs ds → ds.length = vs.length
  | _, _, .nil => rfl
  | _, _, .cons _ r => by rw [List.length_cons, List.length_cons, r.length]
theorem sameT {a : Addr} {xs : List V} (e : Same H H') (h : SqT K H a xs) : SqT K H' a xs := by
  rcases h with (h | ⟨o, h⟩) | h
  · exact .inl (.inl (e _ _ h))
  · exact .inl (.inr ⟨o, e _ _ h⟩)
  · exact .inr h
mutual
theorem Da.same (e : Same H H') : ∀ {v : V} {d : PyData}, Da K H v d → Da K H' v d
  | _, _, .non => .non
  | _, _, .bl b => .bl b
  | _, _, .int i => .int i
  | _, _, .str x => .str x
  | _, _, .lst h r => .lst (e _ _ h) (DaL.same e r)
  | _, _, .tup h r => .tup (sameT e h) (DaL.same e r)
  | _, _, .dct h r => .dct (e _ _ h) (DaL.same e r)
theorem DaL.same (e : Same H H') : ∀ {vs : List V} {ds : List PyData}, DaL K H vs ds → DaL K H' vs ds
  | _, _, .nil => .nil
  | _, _, .cons h r => .cons (Da.same e h) (DaL.same e r)
end
theorem DaL.append : ∀ {vs ws : List V} {ds es : List PyData}, DaL K H vs ds → DaL K H ws es → DaL K H (vs ++ ws) (ds ++ es)
  | _, _, _, _, .nil, r => r
  | _, _, _, _, .cons h t, r => .cons h (DaL.append t r)
theorem DaL.strs : ∀ l : List Str, DaL K H (l.map V.str) (l.map PyData.str)
  | [] => .nil
  | x :: l => .cons (.str x) (DaL.strs l)
theorem DaL.ints : ∀ l : List Int, DaL K H (l.map V.int) (l.map PyData.int)
  | [] => .nil
  | x :: l => .cons (.int x) (DaL.ints l)
theorem DaL.bls : ∀ l : List Bool, DaL K H (l.map V.bl) (l.map PyData.bool)
  | [] => .nil
  | x :: l => .cons (.bl x) (DaL.bls l)
end
/-! ### what stands there is read -/
section
variable {X : Cx} {pins : List (Addr × Obj)} {σ : L2.St} {H : Hp} {s : Shared}
abbrev Free (as : List Addr) : Prop := sysModules ∉ as
theorem free_cons {a : Addr} {as : List Addr} (h : a ≠ sysModules) (r : Free as) : Free (a :: as) := fun m =>
  (List.mem_cons.mp m).elim (fun e => h e.symm) r
theorem free_app {as bs : List Addr} (h : Free as) (r : Free bs) : Free (as ++ bs) := fun m => (List.mem_append.mp m).elim h r
theorem notSys (I : Inv X pins σ H s) (hS : SysIn X.base) {a : Addr} {o : HO} (h : H a = some o) : a ≠ sysModules := by
  rintro rfl
  obtain ⟨ob, hb⟩ := hS
  rw [(I.bs _ _ hb).2] at h
  exact nomatch h
theorem key_reads : ∀ (kvs : List (Key × V)) (vs : List (Key × Value)) (es : List DictEntry), KV kvs vs → Pairs (mixKind X.prog X.w) es vs →
    (∃ as, ReadsAll s.heap (es.map (·.key)) (kvs.map fun p => kD p.1) as ∧ Free as) ∧ Vals (kvs.map (·.2)) (es.map (·.val))
  | _, _, _, .nil, .nil => ⟨⟨[], .nil, List.not_mem_nil⟩, .nil⟩
  | _, _, _, .cons ⟨ek, rv⟩ r, .cons hk hv p => by
    obtain ⟨⟨as, h1, h2⟩, h3⟩ := key_reads _ _ _ r p
    refine ⟨?_, .cons (by show RelV _ (DictEntry.val _); rw [hv]; exact rv) h3⟩
    rw [← ek] at hk
    rcases keyIs_shape hk with ⟨i, t, e1, e2⟩ | ⟨y, t, e1, e2⟩
    · refine ⟨[] ++ as, ?_, h2⟩
      refine .cons ?_ h1
      show Reads _ (DictEntry.key _) (kD _) []
      rw [e1, e2]
      exact .int i t
    · refine ⟨[] ++ as, ?_, h2⟩
      refine .cons ?_ h1
      show Reads _ (DictEntry.key _) (kD _) []
      rw [e1, e2]
      exact .str y t
theorem zip_fst : ∀ (ks ds : List PyData), ks.length = ds.length → (ks.zip ds).map (·.1) = ks
  | [], _, _ => rfl
  | _ :: _, [], h => nomatch h
  | k :: ks, d :: ds, h => by
    show k :: (ks.zip ds).map (·.1) = k :: ks
    rw [zip_fst ks ds (Nat.succ.inj h)]
theorem zip_snd : ∀ (ks ds : List PyData), ks.length = ds.length → (ks.zip ds).map (·.2) = ds
  | [], [], _ => rfl
  | [], _ :: _, h => nomatch h
  | _ :: _, [], h => nomatch h
  | k :: ks, d :: ds, h => by
    show d :: (ks.zip ds).map (·.2) = d :: ds
    rw [zip_snd ks ds (Nat.succ.inj h)]
mutual
theorem Da.reads (I : Inv X pins σ H s) (hS : SysIn X.base) : ∀ {v : V} {d : PyData} {u : Value}, Da X.K H v d → RelV v u → ∃ as, Reads s.heap u d as ∧ Free as
  | _, _, _, .non, r => by
    cases r
    exact ⟨_, .none, List.not_mem_nil⟩
  | _, _, _, .bl b, r => by
    cases r
    exact ⟨_, .bool b, List.not_mem_nil⟩
  | _, _, _, .int i, ⟨t, r⟩ => by
    cases r
    exact ⟨_, .int i t, List.not_mem_nil⟩
  | _, _, _, .str x, ⟨t, r⟩ => by
    cases r
    exact ⟨_, .str x t, List.not_mem_nil⟩
  | _, _, _, .lst h q, r => by
    cases r
    obtain ⟨_, its, n, rv, ho⟩ := I.hok _ _ h
    obtain ⟨as, h1, h2⟩ := DaL.reads I hS q rv
    exact ⟨_, .list ho rfl rfl h1, free_cons (notSys I hS h) h2⟩
  | _, _, _, .tup h q, r => by
    cases r
    obtain ⟨its, rv, ⟨o, ho, hc, n, hd⟩, _⟩ := I.tuple h
    obtain ⟨as, h1, h2⟩ := DaL.reads I hS q rv
    exact ⟨_, .tuple ho hc hd h1, h2⟩
  | _, _, _, .dct (kvs := kvs) (ds := ds) h q, r => by
    cases r
    obtain ⟨_, hns, vs, rk, o, es, ep, ho, hex, hd, _, hp, _⟩ := I.hok _ _ h
    obtain ⟨⟨as, k1, k2⟩, rv⟩ := key_reads (s := s) kvs vs es.toList rk hp
    obtain ⟨bs, v1, v2⟩ := DaL.reads I hS q rv
    have hl : (kvs.map fun p => kD p.1).length = ds.length := by
      rw [q.length, List.length_map, List.length_map]
    have k1' : ReadsAll s.heap (es.toList.map (·.key)) (((kvs.map fun p => kD p.1).zip ds).map (·.1)) as := by
      rw [zip_fst _ _ hl]
      exact k1
    have v1' : ReadsAll s.heap (es.toList.map (·.val)) (((kvs.map fun p => kD p.1).zip ds).map (·.2)) bs := by
      rw [zip_snd _ _ hl]
      exact v1
    exact ⟨_, .dict ho hex.1 hd k1' v1', free_app (free_cons (notSys I hS h) k2) v2⟩
theorem DaL.reads (I : Inv X pins σ H s) (hS : SysIn X.base) : ∀ {vs : List V} {ds : List PyData} {us : List Value}, DaL X.K H vs ds → Vals vs us → ∃ as, ReadsAll s.heap us ds as ∧ Free as
  | _, _, _, .nil, .nil => ⟨_, .nil, List.not_mem_nil⟩
  | _, _, _, .cons h q, .cons r rs => by
    obtain ⟨as, h1, h2⟩ := Da.reads I hS h r
    obtain ⟨bs, h3, h4⟩ := DaL.reads I hS q rs
    exact ⟨_, .cons h1 h3, free_app h2 h4⟩
end
end
/-! ### the room that a written form takes -/
mutual
/-- more than its written form has signs -/
def wid : PyData → Nat
  | .none => 4
  | .bool _ => 5
  | .int i => i.natAbs.log2 + 3
  | .str x => 10 * x.length + 2
  | .list xs => widL xs + 2
  | .tuple xs => widL xs + 3
  | .dict kvs => widK kvs + 2
def widL : List PyData → Nat
  | [] => 0
  | x :: xs => wid x + 2 + widL xs
def widK : List (PyData × PyData) → Nat
  | [] => 0
  | (k, v) :: r => wid k + wid v + 4 + widK r
end
mutual
/-- it can be written: the signs of its texts are signs, its numbers are not too great -/
def Ok1 : PyData → Prop
  | .none => True
  | .bool _ => True
  | .int i => i.natAbs.log2 < 1920
  | .str x => ∀ c ∈ x.cps.toList, c < 16 ^ 8
  | .list xs => OkL xs
  | .tuple xs => OkL xs
  | .dict kvs => OkK kvs
def OkL : List PyData → Prop
  | [] => True
  | x :: xs => Ok1 x ∧ OkL xs
def OkK : List (PyData × PyData) → Prop
  | [] => True
  | (k, v) :: r => Ok1 k ∧ Ok1 v ∧ OkK r
end

mutual
theorem ok_show : ∀ d : PyData, Ok1 d → d.showable = true
  | .none, _ => rfl
  | .bool _, _ => rfl
  | .int _, h => decide_eq_true h
  | .str _, _ => rfl
  | .list xs, h => ok_showL xs h
  | .tuple xs, h => ok_showL xs h
  | .dict kvs, h => ok_showK kvs h
theorem ok_showL : ∀ xs : List PyData, OkL xs → PyData.showableAll xs = true
  | [], _ => rfl
  | x :: xs, h => by
    show (PyData.showable x && PyData.showableAll xs) = true
    rw [ok_show x h.1, ok_showL xs h.2]
    rfl
theorem ok_showK : ∀ xs : List (PyData × PyData), OkK xs → PyData.showableKv xs = true
  | [], _ => rfl
  | (k, v) :: xs, h => by
    show (PyData.showable k && PyData.showable v && PyData.showableKv xs) = true
    rw [ok_show k h.1, ok_show v h.2.1, ok_showK xs h.2.2]
    rfl
end
theorem textFrom_le : ∀ (ts : List Str) (k : Nat) (acc : Str), (textFrom k acc ts).length ≤ acc.length + (ts.map fun t => t.length + 2).sum
  | [], _, acc => Nat.le_add_right _ _
  | t :: r, k, acc => by
    have ih := textFrom_le r (k + 1) (acc ++ (if k > 0 then ", " else "" : String) ++ t)
    rw [strLen_append, strLen_append] at ih
    have e : (((if k > 0 then ", " else "" : String) : Str)).length ≤ 2 := by split <;> decide +kernel
    rw [List.map_cons, List.sum_cons]
    show (textFrom (k + 1) (acc ++ (if k > 0 then ", " else "" : String) ++ t) r).length ≤ _
    omega
theorem listText_le (ts : List Str) : (listText ts).length ≤ 2 + (ts.map fun t => t.length + 2).sum := by
  have h := textFrom_le ts 0 "["
  have e1 : (("[" : String) : Str).length = 1 := by decide +kernel
  have e2 : (("]" : String) : Str).length = 1 := by decide +kernel
  unfold listText
  rw [strLen_append]
  omega
theorem piled_map : ∀ ts : List Str, piled ts = (ts.map fun t => t.length + 2).sum
  | [] => rfl
  | t :: r => by
    rw [piled_cons, piled_map r, List.map_cons, List.sum_cons]
theorem join_le (ts : List Str) : (Str.join ", " ts).length ≤ (ts.map fun t => t.length + 2).sum := by
  by_cases h : ts = []
  · subst h
    decide +kernel
  · have := join_length_add ts h
    rw [piled_map] at this
    omega
theorem tupleText_le (ts : List Str) : (tupleText ts).length ≤ 3 + (ts.map fun t => t.length + 2).sum := by
  have e3 : (((if ts.length == 1 then ",)" else ")" : String) : Str)).length ≤ 2 := by split <;> decide +kernel
  have e1 : (("(" : String) : Str).length = 1 := by decide +kernel
  have h := join_le ts
  unfold tupleText
  rw [strLen_append, strLen_append]
  omega
theorem dictText_le (ts : List Str) : (dictText ts).length ≤ 2 + (ts.map fun t => t.length + 2).sum := by
  have e1 : (("{" : String) : Str).length = 1 := by decide +kernel
  have e2 : (("}" : String) : Str).length = 1 := by decide +kernel
  have h := join_le ts
  unfold dictText
  rw [strLen_append, strLen_append]
  omega
mutual
theorem wid_le : ∀ d : PyData, Ok1 d → d.shown.length ≤ wid d
  | .none, _ => by show (("None" : String) : Str).length ≤ 4; decide +kernel
  | .bool b, _ => by cases b <;> (show Str.length _ ≤ 5) <;> decide +kernel
  | .int i, _ => by
    have h := int_text_length_le (a := i) (k := i.natAbs.log2 + 1) (Nat.succ_pos _) (Nat.lt_succ_self _)
    show (Str.ofString (toString i)).length ≤ i.natAbs.log2 + 3
    have e : (Str.ofString (toString i)).length = (toString i).length := PySem.ofString_length _
    omega
  | .str x, h => StrLaws.reprText_len x h
  | .list xs, h => by
    have h1 := widL_le xs h
    have h2 := listText_le (PyData.shownAll xs)
    show (listText (PyData.shownAll xs)).length ≤ widL xs + 2
    omega
  | .tuple xs, h => by
    have h1 := widL_le xs h
    have h2 := tupleText_le (PyData.shownAll xs)
    show (tupleText (PyData.shownAll xs)).length ≤ widL xs + 3
    omega
  | .dict xs, h => by
    have h1 := widK_le xs h
    have h2 := dictText_le (PyData.shownKv xs)
    show (dictText (PyData.shownKv xs)).length ≤ widK xs + 2
    omega
theorem widL_le : ∀ xs : List PyData, OkL xs → ((PyData.shownAll xs).map fun t => t.length + 2).sum ≤ widL xs
  | [], _ => Nat.le_refl _
  | x :: xs, h => by
    have h1 := wid_le x h.1
    have h2 := widL_le xs h.2
    show (x.shown.length + 2) + ((PyData.shownAll xs).map fun t => t.length + 2).sum ≤ wid x + 2 + widL xs
    omega
theorem widK_le : ∀ xs : List (PyData × PyData), OkK xs → ((PyData.shownKv xs).map fun t => t.length + 2).sum ≤ widK xs
  | [], _ => Nat.le_refl _
  | (k, v) :: xs, h => by
    have h1 := wid_le k h.1
    have h2 := wid_le v h.2.1
    have h3 := widK_le xs h.2.2
    have e2 : ((": " : String) : Str).length = 2 := by decide +kernel
    show ((k.shown ++ ": " ++ v.shown).length + 2) + ((PyData.shownKv xs).map fun t => t.length + 2).sum ≤ wid k + wid v + 4 + widK xs
    rw [strLen_append, strLen_append]
    omega
end
/-- repr of data: the text, all else as it stood -/
theorem call_repr {X : Cx} (hc : Clean X.A) (hS : SysIn X.base) (hu : X.A.units + 100 < cLine) : CallR X (.builtin "repr") (fun xs H Q => ∃ x d, xs = [x] ∧ Da X.K H x d ∧ Ok1 d ∧ wid d ≤ sizeLine ∧ d.depth ≤ 64 ∧ Q (.str d.shown) H) := by
  intro pins s σ H xs us Q I r h
  obtain ⟨x, d, rfl, hd, ok, hz, hdp, q⟩ := h
  obtain ⟨u, rfl, ru⟩ := vals1 r
  have hz' : d.shown.length ≤ sizeLine := Nat.le_trans (wid_le d ok) hz
  obtain ⟨as, hr, hf⟩ := Da.reads I hS hd ru
  have fin : ∀ (t tk : Tok) (h' : Heap), (∀ b o, s.heap.get? b = some o → h'.get? b = some o) → EP X pins σ Q (.str d.shown t) { s with heap := h', toks := tk } :=
    fun t tk h' k => ⟨.str d.shown, H, I.kept k, ⟨t, rfl⟩, q⟩
  cases hd with
  | non =>
    cases ru
    exact PySem.P.repr_of_none (fin _ _ s.heap fun _ _ e => e)
  | bl b =>
    cases ru
    exact PySem.P.repr_of_bool (fin _ _ s.heap fun _ _ e => e)
  | int i =>
    obtain ⟨t, rfl⟩ := ru
    exact PySem.P.repr_of_int ok (fin _ _ s.heap fun _ _ e => e)
  | str y =>
    obtain ⟨t, rfl⟩ := ru
    exact PySem.P.repr_of_str (fin _ _ s.heap fun _ _ e => e) hz'
  | lst h1 h2 =>
    cases ru
    exact repr_of_reads' hr (ok_show _ ok) (fun _ => hf) hc (by omega) (fun _ _ e => e) (fun h' u tk k => fin u tk h' k) hz'
  | tup h1 h2 =>
    cases ru
    exact repr_of_reads' hr (ok_show _ ok) (fun _ => hf) hc (by omega) (fun _ _ e => e) (fun h' u tk k => fin u tk h' k) hz'
  | dct h1 h2 =>
    cases ru
    exact repr_of_reads' hr (ok_show _ ok) (fun _ => hf) hc (by omega) (fun _ _ e => e) (fun h' u tk k => fin u tk h' k) hz'
end Gd

namespace Gd
open PySem PySem.Spec PyProof.Rows L2
/-! ### a def as its callers see it -/
structure Df (P : Program) (w : World) (K : PySem.W.Frag) (mg : Str → Option Value) (base : Heap) (CX : CXT) (k : Nat) (x : Str) (f : Addr) (fd : FuncData) (ps : List Str) (sp : Sp) : Prop where
  G : FnG P w K mg base CX k f fd ps sp
  m : mg x = some (.ref f)
  kp : PySem.W.keepIn K (.ref f) = true
  b : Binds K fd ps []
theorem room100 {k : Nat} {A : Around} (r : Room k A) : A.units + 100 < cLine := by
  have := r.un
  omega
section
variable {X : Cx} {CX : CXT} {k n : Nat} {f : Addr} {fd : FuncData} {ps ks : List Str} {sp : Sp} {E : L2.St → XK} {x : Str} {p pos : Pos} {e : Expr} {es : List Expr} {t tk : TA} {kws : List Keyword}
  {g : List Value → List Value → List Value} {gV : List V → List V → List V}
theorem pe_k {v : V} {x : Str} {pos : Pos} (hg : Gl X x) (h : ∃ u, X.mg x = some u ∧ RelV v u) (hd : (x == ("__debug__" : Str)) = false := by decide) : PE X (.Name x pos) (tC v) :=
  let ⟨_, h1, h2⟩ := h
  pe_glob hg h1 h2 hd
theorem pe_d (D : Df X.prog X.w X.K X.mg X.base CX k x f fd ps sp) (hc : Clean X.A) (hr : Room k X.A) (hg : Gl X x) (hx : ∀ σ, PassesAt CX X σ (E σ)) (ha : PA X (e :: es) t) (hdb : (x == ("__debug__" : Str)) = false := by decide)
    (he : starEach (e :: es) X.env = (false, eval e X.env) :: starEach es X.env := by rfl) (hpl : (backTo pos (starEach es X.env)).any (·.1) = false := by rfl) :
    PE X (.Call (.Name x p) (e :: es) [] pos) (tCallG sp [] E t) := pe_c D.G hc hr hg D.m D.kp D.b .nil hx ha hdb he hpl
theorem pe_d0 (D : Df X.prog X.w X.K X.mg X.base CX k x f fd ps sp) (hc : Clean X.A) (hr : Room k X.A) (hg : Gl X x) (hx : ∀ σ, PassesAt CX X σ (E σ)) (hdb : (x == ("__debug__" : Str)) = false := by decide) :
    PE X (.Call (.Name x p) [] [] pos) (tCallG sp [] E tNil) := pe_c0 D.G hc hr hg D.m D.kp D.b .nil hx hdb
/-- with defaults -/
structure Dd (P : Program) (w : World) (K : PySem.W.Frag) (mg : Str → Option Value) (base : Heap) (CX : CXT) (k : Nat) (x : Str) (f : Addr) (fd : FuncData) (ps : List Str) (dvs : List V) (sp : Sp) : Prop where
  G : FnG P w K mg base CX k f fd ps sp
  m : mg x = some (.ref f)
  kp : PySem.W.keepIn K (.ref f) = true
  b : ∃ ds, Vals dvs ds ∧ Binds K fd ps ds
theorem pe_dd {dvs : List V} (D : Dd X.prog X.w X.K X.mg X.base CX k x f fd ps dvs sp) (hc : Clean X.A) (hr : Room k X.A) (hg : Gl X x) (hx : ∀ σ, PassesAt CX X σ (E σ)) (ha : PA X (e :: es) t) (hdb : (x == ("__debug__" : Str)) = false := by decide)
    (he : starEach (e :: es) X.env = (false, eval e X.env) :: starEach es X.env := by rfl) (hpl : (backTo pos (starEach es X.env)).any (·.1) = false := by rfl) :
    PE X (.Call (.Name x p) (e :: es) [] pos) (tCallG sp dvs E t) :=
  let ⟨_, hd, hb⟩ := D.b
  pe_c D.G hc hr hg D.m D.kp hb hd hx ha hdb he hpl
/-- called with keywords -/
structure Dk (P : Program) (w : World) (K : PySem.W.Frag) (mg : Str → Option Value) (base : Heap) (CX : CXT) (k : Nat) (x : Str) (f : Addr) (fd : FuncData) (ps : List Str) (sp : Sp) (n : Nat) (ks : List Str) (gV : List V → List V → List V) : Prop where
  G : FnG P w K mg base CX k f fd ps sp
  m : mg x = some (.ref f)
  kp : PySem.W.keepIn K (.ref f) = true
  b : ∃ g, KBn K fd ps n ks g gV
theorem pe_dk (D : Dk X.prog X.w X.K X.mg X.base CX k x f fd ps sp n ks gV) (hc : Clean X.A) (hr : Room k X.A) (hg : Gl X x) (hx : ∀ σ, PassesAt CX X σ (E σ)) (ha : PA X (e :: es) t) (hkw : PK X kws tk)
    (hall : (backToKw pos (keywordEach kws X.env)).all (·.1.isSome) = true := by rfl) (hks : (backToKw pos (keywordEach kws X.env)).filterMap (·.1) = ks := by rfl) (hdb : (x == ("__debug__" : Str)) = false := by decide)
    (he : starEach (e :: es) X.env = (false, eval e X.env) :: starEach es X.env := by rfl)
    (hpl : ((backTo pos (starEach (e :: es) X.env)).any (·.1) || (backToKw pos (keywordEach kws X.env)).any (·.1.isNone)) = false := by rfl) :
    PE X (.Call (.Name x p) (e :: es) kws pos) (tCallH n ks.length sp gV E t tk) :=
  let ⟨_, hb⟩ := D.b
  pe_h D.G hc hr hg D.m D.kp hb hx ha hkw hall hks hdb he hpl
theorem pe_dk0 (D : Dk X.prog X.w X.K X.mg X.base CX k x f fd ps sp 0 ks gV) (hc : Clean X.A) (hr : Room k X.A) (hg : Gl X x) (hx : ∀ σ, PassesAt CX X σ (E σ)) (hkw : PK X kws tk)
    (hall : (backToKw pos (keywordEach kws X.env)).all (·.1.isSome) = true := by rfl) (hks : (backToKw pos (keywordEach kws X.env)).filterMap (·.1) = ks := by rfl) (hdb : (x == ("__debug__" : Str)) = false := by decide)
    (hpl : ((backTo pos (starEach [] X.env)).any (·.1) || (backToKw pos (keywordEach kws X.env)).any (·.1.isNone)) = false := by rfl) :
    PE X (.Call (.Name x p) [] kws pos) (tCallH 0 ks.length sp gV E tNil tk) :=
  let ⟨_, hb⟩ := D.b
  pe_h0 D.G hc hr hg D.m D.kp hb hx hkw hall hks hdb hpl
end
/-! ### is True, is not False -/
section
variable {X : Cx}
theorem rel_bl {x : V} {u : Value} {b : Bool} (r : RelV x u) (h : x ≠ .bl b) : u ≠ Value.bool b := by
  intro e
  subst e
  cases x with
  | bl c =>
    have : Value.bool b = Value.bool c := r
    cases this
    exact h rfl
  | non => exact nomatch (r : Value.bool b = Value.none)
  | int _ => obtain ⟨_, q⟩ := r; exact nomatch q
  | str _ => obtain ⟨_, q⟩ := r; exact nomatch q
  | byt _ => obtain ⟨_, q⟩ := r; exact nomatch q
  | flt _ => obtain ⟨_, q⟩ := r; exact nomatch q
  | ref a => exact nomatch (r : Value.bool b = Value.ref a)
  | ty n => exact nomatch (r : Value.bool b = Value.type n)
theorem plain_bl {x : V} {u : Value} {b : Bool} (r : RelV x u) : plainIs u (Value.bool b) = true := by
  cases x with
  | bl c => cases (show u = Value.bool c from r); rfl
  | non => cases (show u = Value.none from r); rfl
  | int _ => obtain ⟨_, q⟩ := r; subst q; rfl
  | str _ => obtain ⟨_, q⟩ := r; subst q; rfl
  | byt _ => obtain ⟨_, q⟩ := r; subst q; rfl
  | flt _ => obtain ⟨_, q⟩ := r; subst q; rfl
  | ref a => cases (show u = Value.ref a from r); rfl
  | ty n => cases (show u = Value.type n from r); rfl
theorem op_isB : OpR X (compareOp .Is) (fun x y H Q => ∃ b, y = .bl b ∧ Q (.bl (decide (x = .bl b))) H) := by
  intro pins s σ H x y v u Q I rx ry h
  obtain ⟨b, rfl, q⟩ := h
  cases (show u = Value.bool b from ry)
  by_cases e : x = .bl b
  · subst e
    cases (show v = Value.bool b from rx)
    exact wpAny_is_self rfl ⟨.bl true, H, I, rfl, by simpa using q⟩
  · exact wpAny_is_other (plain_bl rx) (rel_bl rx e) ⟨.bl false, H, I, rfl, by simpa [e] using q⟩
theorem op_notB : OpR X (compareOp .IsNot) (fun x y H Q => ∃ b, y = .bl b ∧ Q (.bl (!decide (x = .bl b))) H) := by
  intro pins s σ H x y v u Q I rx ry h
  obtain ⟨b, rfl, q⟩ := h
  cases (show u = Value.bool b from ry)
  by_cases e : x = .bl b
  · subst e
    cases (show v = Value.bool b from rx)
    exact wpAny_isNot_self rfl ⟨.bl false, H, I, rfl, by simpa using q⟩
  · exact wpAny_isNot_other (plain_bl rx) (rel_bl rx e) ⟨.bl true, H, I, rfl, by simpa [e] using q⟩
/-! ### s * n -/
def repS (x : Str) (n : Int) : Str := ⟨(List.replicate n.toNat x.cps).foldl (· ++ ·) #[]⟩
theorem fold_app (c : Array Nat) : ∀ (n : Nat) (a : Array Nat), ((List.replicate n c).foldl (· ++ ·) a).toList = a.toList ++ (List.replicate n c.toList).flatten
  | 0, a => by simp
  | n + 1, a => by
    rw [List.replicate_succ, List.foldl_cons, fold_app c n (a ++ c), List.replicate_succ, List.flatten_cons, Array.toList_append, List.append_assoc]
theorem repS_list (x : Str) (n : Int) : (repS x n).cps.toList = (List.replicate n.toNat x.cps.toList).flatten := by
  show ((List.replicate n.toNat x.cps).foldl (· ++ ·) #[]).toList = _
  rw [fold_app]
  rfl
theorem op_repS : OpR X (binaryOp .Mult) (fun x y H Q => ∃ z n, x = .str z ∧ y = .int n ∧ 1 < n ∧ n < 1000000 ∧ z.length ≠ 0 ∧ z.length * n.toNat ≤ sizeLine ∧ Q (.str (repS z n)) H) := by
  intro pins s σ H x y v u Q I rx ry h
  obtain ⟨z, n, rfl, rfl, h1, h2, h0, hz, q⟩ := h
  obtain ⟨t, rfl⟩ := rx
  obtain ⟨t', rfl⟩ := ry
  have e1 : (n == 1 || z.length == 0) = false := by
    rw [Bool.or_eq_false_iff]
    exact ⟨beq_eq_false_iff_ne.mpr (by omega), beq_eq_false_iff_ne.mpr h0⟩
  have hb : ¬ (z.length : Int) > (2 ^ 63 - 1) / n := by
    intro c
    have hs := hz
    rw [sizeLine_eq] at hs
    have h3 : (z.length : Int) * n ≤ 16777216 := by
      have h4 : ((z.length * n.toNat : Nat) : Int) ≤ 16777216 := Int.ofNat_le.mpr hs
      rw [Int.natCast_mul, Int.toNat_of_nonneg (by omega)] at h4
      exact h4
    have h5 : (z.length : Int) ≤ 16777216 := by
      have h6 : (1 : Int) ≤ z.length := by omega
      have h7 : (z.length : Int) * 1 ≤ (z.length : Int) * n := Int.mul_le_mul_of_nonneg_left (by omega) (by omega)
      omega
    have h8 : (2 ^ 63 - 1 : Int) / n ≥ (2 ^ 63 - 1) / 1000000 := by
      have : (2 ^ 63 - 1 : Int) / 1000000 * n ≤ (2 ^ 63 - 1) := by
        have h9 : (2 ^ 63 - 1 : Int) / 1000000 = 9223372036854 := by decide
        rw [h9]
        omega
      exact (Int.le_ediv_iff_mul_le (by omega)).mpr this
    have h10 : (2 ^ 63 - 1 : Int) / 1000000 = 9223372036854 := by decide
    omega
  refine PySem.P.mul_str (by rw [Bool.or_eq_false_iff]; exact ⟨decide_eq_false (by omega), decide_eq_false (by omega)⟩) (fun _ _ => hb) (fun _ _ => ?_) ?_
  · unfold Builtin.Str.tooLong
    exact decide_eq_false (by omega)
  · rw [if_neg (by omega), if_neg (by rw [e1]; exact Bool.false_ne_true)]
    have hl : (repS z n).length ≤ sizeLine := by
      have e : (repS z n).length = z.length * n.toNat := by
        show (repS z n).cps.size = _
        rw [← Array.length_toList, repS_list, List.length_flatten, List.map_replicate, List.sum_replicate_nat]
        show n.toNat * z.cps.toList.length = _
        rw [Array.length_toList, Nat.mul_comm]
        rfl
      omega
    exact ⟨hl, ⟨.str (repS z n), H, I.tok _, ⟨_, rfl⟩, q⟩⟩
end
end Gd

namespace Gd
open PySem PySem.Spec PyProof.Rows L2
/-! ### the kind of a value -/
inductive Kind where
  | non | bl | int | str | lst | tup | dct | odd
  deriving DecidableEq
def Kind.name : Kind → String
  | .non => "NoneType"
  | .bl => "bool"
  | .int => "int"
  | .str => "str"
  | .lst => "list"
  | .tup => "tuple"
  | .dct => "dict"
  | .odd => "?"
def kindO : Option HO → Kind
  | some (.lst _) => .lst
  | some (.tup _) => .tup
  | some (.dK _) => .dct
  | _ => .odd
def kind (H : Hp) : V → Kind
  | .non => .non
  | .bl _ => .bl
  | .int _ => .int
  | .str _ => .str
  | .ref a => kindO (H a)
  | _ => .odd
abbrev Pv (H : Hp) (v : V) : Prop := kind H v ≠ .odd
/-- isinstance of such a value -/
def inst (n : String) (k : Kind) : Bool := k.name == n || (n == "int" && k == .bl)
theorem kind_ty {K : PySem.W.Frag} {H : Hp} {v : V} (h : Pv H v) : TyX K H v (.type (kind H v).name) := by
  cases v with
  | non => exact .base .non
  | bl b => exact .base (.bl b)
  | int i => exact .base (.int i)
  | str x => exact .base (.str x)
  | byt b => exact absurd rfl h
  | flt b => exact absurd rfl h
  | ty n => exact absurd rfl h
  | ref a =>
    change kindO (H a) ≠ .odd at h
    show TyX K H (.ref a) (.type (kindO (H a)).name)
    cases e : H a with
    | none => rw [e] at h; exact absurd rfl h
    | some o =>
      rw [e] at h
      cases o with
      | lst xs => exact .base (.lst e)
      | tup xs => exact .base (.tup e)
      | dK kvs => exact .base (.dK e)
      | _ => exact absurd rfl h
abbrev Cn (n : String) : Prop := n = "int" ∨ n = "str" ∨ n = "bool" ∨ n = "list" ∨ n = "tuple" ∨ n = "dict"
theorem kit_kind {K : PySem.W.Frag} {H : Hp} {v : V} (h : Pv H v) {n : String} (hn : Cn n) : PySem.W.kitOne K (.type (kind H v).name) (.type n) = some (inst n (kind H v)) := by
  apply kit_ty
  revert h
  unfold Pv
  generalize kind H v = k
  intro h
  rcases hn with rfl | rfl | rfl | rfl | rfl | rfl <;> cases k <;> first | exact absurd rfl h | decide +kernel
section
variable {X : Cx}
theorem call_isk : CallR X (.builtin "isinstance") (fun xs H Q => ∃ x n, xs = [x, .ty n] ∧ Cn n ∧ Pv H x ∧ Q (.bl (inst n (kind H x))) H) := by
  intro pins s σ H xs us Q I r h
  obtain ⟨x, n, rfl, hn, hv, q⟩ := h
  exact call_isi pins s σ H _ us Q I r ⟨x, .ty n, _, _, _, rfl, .ty n, kind_ty hv, kit_kind hv hn, q⟩
/-- (list, tuple) and its like -/
theorem call_isk2 : CallR X (.builtin "isinstance") (fun xs H Q => ∃ x t n m, xs = [x, .ref t] ∧ H t = some (.tup [.ty n, .ty m]) ∧ Cn n ∧ Cn m ∧ Pv H x ∧ Q (.bl (inst n (kind H x) || inst m (kind H x))) H) := by
  intro pins s σ H xs us Q I r h
  obtain ⟨x, t, n, m, rfl, ht, hn, hm, hv, q⟩ := h
  refine call_isiT pins s σ H _ us Q I r ⟨x, t, [.ty n, .ty m], _, [.type n, .type m], _, rfl, ht, .cons (.ty n) (.cons (.ty m) .nil), kind_ty hv, ?_, q⟩
  refine kitAny_cons (kit_kind hv hn) (fun e1 => ?_) (fun e1 => ?_)
  · rw [e1, Bool.false_or]
    exact kitAny_cons (kit_kind hv hm) (fun e2 => by rw [e2]; exact kitAny_nil) fun e2 => e2
  · rw [e1]
    rfl
end
/-- an int other than True and False -/
def isInt : V → Bool
  | .int _ => true
  | _ => false
def isStr : V → Bool
  | .str _ => true
  | _ => false
theorem kind_ref {H : Hp} {a : Addr} : kind H (.ref a) = .lst ∨ kind H (.ref a) = .tup ∨ kind H (.ref a) = .dct ∨ kind H (.ref a) = .odd := by
  show kindO (H a) = _ ∨ kindO (H a) = _ ∨ kindO (H a) = _ ∨ kindO (H a) = _
  cases H a with
  | none => exact .inr (.inr (.inr rfl))
  | some o =>
    cases o <;> first | exact .inl rfl | exact .inr (.inl rfl) | exact .inr (.inr (.inl rfl)) | exact .inr (.inr (.inr rfl))
theorem isInt_kind (H : Hp) (v : V) : (inst "int" (kind H v) && !inst "bool" (kind H v)) = isInt v := by
  cases v with
  | ref a =>
    show _ = false
    rcases kind_ref (H := H) (a := a) with e | e | e | e <;> rw [e] <;> decide +kernel
  | _ => rfl
theorem isStr_kind (H : Hp) (v : V) : inst "str" (kind H v) = isStr v := by
  cases v with
  | ref a =>
    show _ = false
    rcases kind_ref (H := H) (a := a) with e | e | e | e <;> rw [e] <;> decide +kernel
  | _ => rfl
theorem kind_same {H H' : Hp} (e : Same H H') {v : V} (h : Pv H v) : kind H' v = kind H v := by
  cases v with
  | ref a =>
    change kindO (H a) ≠ .odd at h
    show kindO (H' a) = kindO (H a)
    cases q : H a with
    | none => rw [q] at h; exact absurd rfl h
    | some o => rw [e a o q]
  | _ => rfl
theorem Pv.same {H H' : Hp} (e : Same H H') {v : V} (h : Pv H v) : Pv H' v := by
  unfold Pv
  rw [kind_same e h]
  exact h
theorem isStr_iff {v : V} (h : isStr v = true) : ∃ x, v = .str x := by
  cases v <;> first | exact ⟨_, rfl⟩ | exact absurd h Bool.false_ne_true
theorem isInt_iff {v : V} (h : isInt v = true) : ∃ x, v = .int x := by
  cases v <;> first | exact ⟨_, rfl⟩ | exact absurd h Bool.false_ne_true
end Gd

namespace Gd
open PySem L2
/-! ### the law's pool of digits -/
/-- it stands at p -/
def BoxAt (H : Hp) (p : Addr) : Prop := ∃ a b c : Int, H p = some (.lst [.int a, .int b, .int c]) ∧ 0 ≤ b ∧ b < 2147483647
/-- it may have turned, nothing else has -/
def Turned (H H' : Hp) (p : Addr) : Prop := BoxAt H' p ∧ ∀ q, q ≠ p → H' q = H q
theorem Turned.refl {H : Hp} {p : Addr} (b : BoxAt H p) : Turned H H p := ⟨b, fun _ _ => rfl⟩
theorem Turned.trans {H H1 H2 : Hp} {p : Addr} (a : Turned H H1 p) (b : Turned H1 H2 p) : Turned H H2 p := ⟨b.1, fun q hq => (b.2 q hq).trans (a.2 q hq)⟩
theorem Turned.box {H H' : Hp} {p : Addr} (t : Turned H H' p) : BoxAt H' p := t.1
theorem Turned.at {H H' : Hp} {p q : Addr} {o : HO} (t : Turned H H' p) (hq : q ≠ p) (h : H q = some o) : H' q = some o := (t.2 q hq).trans h
theorem turned_upd {H : Hp} {p : Addr} {a b c : Int} (h0 : 0 ≤ b) (h1 : b < 2147483647) : Turned H (upd H p (.lst [.int a, .int b, .int c])) p :=
  ⟨⟨a, b, c, upd_same, h0, h1⟩, fun q hq => upd_ne hq⟩
theorem BoxAt.some {H : Hp} {p : Addr} (b : BoxAt H p) : ∃ o, H p = some o := let ⟨_, _, _, h, _⟩ := b; ⟨_, h⟩
theorem BoxAt.upd {H : Hp} {p q : Addr} {o : HO} (b : BoxAt H p) (hq : H q = none) : BoxAt (upd H q o) p := by
  obtain ⟨x, y, z, h, r⟩ := b
  exact ⟨x, y, z, by rw [upd_ne (ne_of_none h hq)]; exact h, r⟩
def spScr (K : PySem.W.Frag) : Sp := fun vs H Q _ => ∃ (a : Addr) (ns : List Int) (k : Int), vs = [.ref a, .int k] ∧ SqL K H a (ns.map V.int) ∧ 0 ≤ k ∧ k < 1000 ∧ ∀ z, Q (.int z) H
def spBox : Sp := fun vs H Q _ => ∃ z : Int, vs = [.int z] ∧ ∀ (p : Addr) (o : HO), H p = none → BoxAt (upd H p o) p → Q (.ref p) (upd H p o)
def spTake : Sp := fun vs H Q _ => ∃ (p : Addr) (n : Int), vs = [.ref p, .int n] ∧ BoxAt H p ∧ 0 < n ∧ n < 1000000 ∧ ∀ (d : Int) (H' : Hp), 0 ≤ d → d < n → Turned H H' p → Q (.int d) H'
/-- an item of the script -/
theorem at_script {ns : List Int} {k : Int} (h0 : 0 ≤ k) (h1 : k < ns.length) : ∃ z, atI (ns.map V.int) k = some (.int z) := by
  obtain ⟨j, rfl⟩ := Int.eq_ofNat_of_zero_le h0
  have hj : j < ns.length := by omega
  refine ⟨ns[j], atI_nat ?_⟩
  rw [List.getElem?_map, List.getElem?_eq_getElem hj]
  rfl
theorem mod_pos {i j : Int} (h : 0 < j) : 0 ≤ i % j ∧ i % j < j := ⟨Int.emod_nonneg _ (by omega), Int.emod_lt_of_pos _ h⟩
end Gd

namespace Gd
open PySem L2
theorem iteB {c : Bool} {A B : Prop} (h1 : c = true → A) (h2 : c = false → B) : if c = true then A else B := by
  cases c with
  | true => exact iteT (h1 rfl)
  | false => exact iteF (h2 rfl)
/-- what a comprehension over J asks, its list at D -/
def LcW (J : It) (g : TG) (tt : TT) (te : TE) (vs : List Nat) (σ : L2.St) (H1 : Hp) (D : Addr) (Qd : Hp → Prop) : Prop :=
  ∃ W : Nat → Nat → Hp → Prop, (∃ m, W 0 m (upd H1 D (.lst []))) ∧ ∀ i m H, W i m H →
    (J.stop i H ∧ Qd H) ∨ (J.go i H ∧ ∃ Nx : Hp → Prop, (∀ H', Nx H' → ∃ m', m' < m ∧ W (i + 1) m' H') ∧ ∀ x H', J.yld i H x H' →
      g x (wipe σ vs) H' fun σ2 H2 => wipe σ2 vs = wipe σ vs ∧ tt σ2 H2 fun b H3 => if b = true then te σ2 H3 fun y H4 => ∃ acc, H4 D = some (.lst acc) ∧ acc.length < sizeLine ∧ Nx (upd H4 D (.lst (acc ++ [y]))) else Nx H3)
theorem wipe1 (σ : L2.St) (j : Nat) (v : Option V) : wipe ((wipe σ [j]).set j v) [j] = wipe σ [j] := by
  show ((σ.set j none).set j v).set j none = σ.set j none
  rw [List.set_set, List.set_set]
theorem take_snoc {α : Type} {l : List α} {i : Nat} {x : α} (h : l[i]? = some x) : l.take (i + 1) = l.take i ++ [x] := by
  rw [List.take_succ, h]
  rfl
section
variable {K : PySem.W.Frag} {tt : TT} {te : TE} {j : Nat} {σ : L2.St} {H1 : Hp} {D : Addr} {Qd : Hp → Prop}
/-- over a text, all else as it stood -/
theorem lc_text {z : Str} (f : Nat → V) (p : Nat → Bool) (hz : z.length < sizeLine)
    (ht : ∀ c acc (Q : Bool → Hp → Prop), c ∈ z.cps.toList → Q (p c) (upd H1 D (.lst acc)) → tt ((wipe σ [j]).set j (some (.str ⟨#[c]⟩))) (upd H1 D (.lst acc)) Q)
    (he : ∀ c acc (Q : VK), c ∈ z.cps.toList → p c = true → Q (f c) (upd H1 D (.lst acc)) → te ((wipe σ [j]).set j (some (.str ⟨#[c]⟩))) (upd H1 D (.lst acc)) Q)
    (hd : Qd (upd H1 D (.lst ((z.cps.toList.filter p).map f)))) : LcW (Its z) (gName j) tt te [j] σ H1 D Qd := by
  have hl : z.cps.toList.length = z.cps.size := Array.length_toList
  refine lc_it walk_str (fun i H => H = upd H1 D (.lst (((z.cps.toList.take i).filter p).map f))) rfl (fun _ _ _ _ => trivial) ?_ ?_
  · rintro i x H H' hi e ⟨e', c, hc, rfl⟩
    subst e'
    have hc' : z.cps.toList[i]? = some c := by rw [Array.getElem?_toList]; exact hc
    have hm : c ∈ z.cps.toList := List.mem_of_getElem? hc'
    show gName j _ (wipe σ [j]) H' _
    refine ⟨wipe1 _ _ _, ?_⟩
    rw [e]
    refine ht c _ _ hm ?_
    have es := take_snoc hc'
    refine iteB (fun b => ?_) (fun b => ?_)
    · refine he c _ _ hm b ⟨_, upd_same, ?_, ?_⟩
      · rw [List.length_map]
        refine Nat.lt_of_le_of_lt (List.length_filter_le _ _) ?_
        rw [List.length_take]
        have : z.length = z.cps.size := rfl
        omega
      · rw [upd_upd, es, List.filter_append, List.map_append]
        have e1 : [c].filter p = [c] := by rw [List.filter_cons, if_pos b]; rfl
        rw [e1]
        rfl
    · rw [es, List.filter_append, List.map_append]
      have e1 : [c].filter p = [] := by rw [List.filter_cons, if_neg (by rw [b]; exact Bool.false_ne_true)]; rfl
      rw [e1]
      show upd H1 D _ = _
      rw [List.map_nil, List.append_nil]
  · intro H e
    subst e
    rw [← hl, List.take_length]
    exact hd
end
/-- order of single signs -/
theorem lt_sign (a b : Nat) : decide (([a] : List Nat) < [b]) = decide (a < b) := by
  by_cases h : a < b
  · rw [decide_eq_true h]
    exact decide_eq_true (List.Lex.rel h)
  · rw [decide_eq_false h]
    refine decide_eq_false fun z => ?_
    cases z with
    | rel h' => exact h h'
    | cons h' => cases h'
end Gd

namespace Gd
open PySem L2
/-! ### plain texts of a size -/
structure Tx (n : Nat) (x : Str) : Prop where
  len : x.length ≤ n
  asc : ∀ c ∈ x.cps.toList, c < 128
theorem len_list (x : Str) : x.length = x.cps.toList.length := (Array.length_toList).symm
theorem Tx.mono {n m : Nat} {x : Str} (t : Tx n x) (h : n ≤ m) : Tx m x := ⟨Nat.le_trans t.len h, t.asc⟩
theorem app_list (x y : Str) : (x ++ y).cps.toList = x.cps.toList ++ y.cps.toList := Array.toList_append
theorem Tx.app {n m : Nat} {x y : Str} (t : Tx n x) (u : Tx m y) : Tx (n + m) (x ++ y) := by
  refine ⟨?_, fun c hc => ?_⟩
  · have := t.len
    have := u.len
    rw [len_list, app_list, List.length_append, ← len_list, ← len_list]
    omega
  · rw [app_list] at hc
    rcases List.mem_append.mp hc with h | h
    · exact t.asc c h
    · exact u.asc c h
theorem cut_mem {z : Str} {lo hi : Option Int} {c : Nat} (h : c ∈ (cutS z lo hi).cps.toList) : c ∈ z.cps.toList := by
  have h' : c ∈ (z.cps.toList.drop (HT.sIx z.length 0 lo)).take (HT.sIx z.length z.length hi - HT.sIx z.length 0 lo) := h
  exact List.mem_of_mem_drop (List.mem_of_mem_take h')
theorem Tx.cut {n : Nat} {z : Str} (t : Tx n z) (lo hi : Option Int) : Tx n (cutS z lo hi) := ⟨Nat.le_trans (cutS_length z lo hi) t.len, fun c hc => t.asc c (cut_mem hc)⟩
theorem Tx.sign {n : Nat} {z : Str} (t : Tx n z) {c : Nat} (h : c ∈ z.cps.toList) : Tx 1 ⟨#[c]⟩ := ⟨Nat.le_refl _, fun d hd => by
  have : d = c := by simpa using hd
  rw [this]
  exact t.asc c h⟩
/-- a written one: by decide +kernel -/
theorem Tx.of {n : Nat} {x : Str} (h : (decide (x.length ≤ n) && x.cps.toList.all fun c => decide (c < 128)) = true) : Tx n x := by
  rw [Bool.and_eq_true, decide_eq_true_eq, List.all_eq_true] at h
  exact ⟨h.1, fun c hc => of_decide_eq_true (h.2 c hc)⟩
theorem Tx.big {n : Nat} {x : Str} (t : Tx n x) : ∀ c ∈ x.cps.toList, c < 16 ^ 8 := fun c hc => Nat.lt_trans (t.asc c hc) (by decide)
theorem atI_mem {α : Type} {l : List α} {i : Int} {v : α} (h : atI l i = some v) : v ∈ l := by
  unfold atI at h
  cases e : ixN l.length i with
  | none => rw [e] at h; exact nomatch h
  | some j =>
    rw [e] at h
    exact List.mem_of_getElem? h
/-- an item that all of them are like -/
theorem atI_all {α : Type} {l : List α} {p : α → Prop} (h : ∀ v ∈ l, p v) {d : Int} (h0 : 0 ≤ d) (h1 : d < l.length) : ∃ v, atI l d = some v ∧ p v := by
  obtain ⟨j, rfl⟩ := Int.eq_ofNat_of_zero_le h0
  have hj : j < l.length := by omega
  exact ⟨l[j], atI_nat (List.getElem?_eq_getElem hj), h _ (List.getElem_mem hj)⟩
/-- a sign of a text -/
theorem atI_sign {n : Nat} {z : Str} (t : Tx n z) {d : Int} (h0 : 0 ≤ d) (h1 : d < z.length) : ∃ c, atI z.cps.toList d = some c ∧ Tx 1 ⟨#[c]⟩ ∧ c ∈ z.cps.toList := by
  obtain ⟨c, h, hm⟩ := atI_all (l := z.cps.toList) (p := fun c => c ∈ z.cps.toList) (fun _ h => h) h0 (by rw [← len_list]; exact h1)
  exact ⟨c, h, t.sign hm, hm⟩
/-! ### parts and equality of texts -/
theorem str_ext {x y : Str} (h : x.cps.toList = y.cps.toList) : x = y := by
  obtain ⟨a⟩ := x
  obtain ⟨b⟩ := y
  exact congrArg Str.mk (Array.toList_inj.mp h)
theorem str_eq (x y : Str) : decide (V.str x = V.str y) = decide (x.cps.toList = y.cps.toList) :=
  decide_eq_decide.mpr ⟨fun z => by rw [V.str.injEq] at z; rw [z], fun z => by rw [str_ext z]⟩
theorem cut_take (x : Str) (k : Nat) : (cutS x none (some (k : Int))).cps.toList = x.cps.toList.take k := by
  show (x.cps.toList.drop (HT.sIx x.length 0 none)).take (HT.sIx x.length x.length (some (k : Int)) - HT.sIx x.length 0 none) = _
  rw [HT.sIx_none, HT.sIx_nat, List.drop_zero, Nat.sub_zero, len_list]
  rcases Nat.le_total k x.cps.toList.length with h | h
  · rw [Nat.min_eq_left h]
  · rw [Nat.min_eq_right h, List.take_length, List.take_of_length_le h]
theorem cut_drop (x : Str) (k : Nat) : (cutS x (some (k : Int)) none).cps.toList = x.cps.toList.drop k := by
  show (x.cps.toList.drop (HT.sIx x.length 0 (some (k : Int)))).take (HT.sIx x.length x.length none - HT.sIx x.length 0 (some (k : Int))) = _
  rw [HT.sIx_none, HT.sIx_nat, len_list]
  rcases Nat.le_total k x.cps.toList.length with h | h
  · rw [Nat.min_eq_left h, List.take_of_length_le (by rw [List.length_drop]; exact Nat.le_refl _)]
  · rw [Nat.min_eq_right h, Nat.sub_self, List.take_zero, List.drop_of_length_le h]
/-! ### joined -/
theorem join_str (sep : Str) (l : List Str) : Txt.join sep l = Str.join sep l := eq_of_beq (PyProof.Rows.join_plain_closes sep l)
theorem join_len (sep : Str) : ∀ l : List Str, (Str.join sep l).length ≤ (l.map (·.length)).sum + l.length * sep.length
  | [] => Nat.zero_le _
  | [x] => by
    show x.length ≤ _
    simp
  | x :: y :: r => by
    have ih := join_len sep (y :: r)
    show (x ++ sep ++ Str.join sep (y :: r)).length ≤ _
    rw [len_list, app_list, app_list, List.length_append, List.length_append, ← len_list, ← len_list, ← len_list, List.map_cons, List.sum_cons, List.length_cons, Nat.succ_mul]
    omega
theorem join_mem (sep : Str) {c : Nat} : ∀ {l : List Str}, c ∈ (Str.join sep l).cps.toList → c ∈ sep.cps.toList ∨ ∃ y ∈ l, c ∈ y.cps.toList
  | [], h => nomatch (show c ∈ ([] : List Nat) from h)
  | [x], h => .inr ⟨x, List.mem_cons_self, h⟩
  | x :: y :: r, h => by
    have h' : c ∈ (x ++ sep ++ Str.join sep (y :: r)).cps.toList := h
    rw [app_list, app_list, List.mem_append, List.mem_append] at h'
    rcases h' with (h | h) | h
    · exact .inr ⟨x, List.mem_cons_self, h⟩
    · exact .inl h
    · rcases join_mem sep h with h | ⟨z, hz, h⟩
      · exact .inl h
      · exact .inr ⟨z, List.mem_cons_of_mem _ hz, h⟩
theorem join_empty_len : ∀ l : List Str, (Str.join "" l).length = (l.map (·.length)).sum
  | [] => rfl
  | [x] => by
    show x.length = _
    simp
  | x :: y :: r => by
    have ih := join_empty_len (y :: r)
    show (x ++ "" ++ Str.join "" (y :: r)).length = _
    have e : (("" : String) : Str).cps.toList = [] := by decide +kernel
    rw [len_list, app_list, app_list, e, List.append_nil, List.length_append, ← len_list, ← len_list, List.map_cons, List.sum_cons, ih]
theorem sum_le {l : List Nat} {n : Nat} (h : ∀ x ∈ l, x ≤ n) : l.sum ≤ l.length * n := by
  induction l with
  | nil => exact Nat.zero_le _
  | cons a l ih =>
    have := ih fun x hx => h x (List.mem_cons_of_mem _ hx)
    have := h a List.mem_cons_self
    rw [List.sum_cons, List.length_cons, Nat.succ_mul]
    omega
theorem Tx.join {n m k : Nat} {sep : Str} {l : List Str} (s : Tx m sep) (h : ∀ y ∈ l, Tx n y) (hl : l.length ≤ k) : Tx (k * n + k * m) (Txt.join sep l) := by
  rw [join_str]
  refine ⟨?_, fun c hc => ?_⟩
  · have h1 := join_len sep l
    have h2 : (l.map (·.length)).sum ≤ l.length * n := by
      have := sum_le (l := l.map (·.length)) (n := n) fun x hx => by
        obtain ⟨y, hy, rfl⟩ := List.mem_map.mp hx
        exact (h y hy).len
      rw [List.length_map] at this
      exact this
    have h3 : l.length * n ≤ k * n := Nat.mul_le_mul_right _ hl
    have h4 : l.length * sep.length ≤ k * m := Nat.mul_le_mul hl s.len
    omega
  · rcases join_mem sep hc with h' | ⟨y, hy, h'⟩
    · exact s.asc c h'
    · exact (h y hy).asc c h'
/-! ### all but the pool is kept -/
def Kept (H H' : Hp) (p : Addr) : Prop := BoxAt H' p ∧ ∀ q o, q ≠ p → H q = some o → H' q = some o
theorem Kept.refl {H : Hp} {p : Addr} (b : BoxAt H p) : Kept H H p := ⟨b, fun _ _ _ h => h⟩
theorem Kept.trans {H H1 H2 : Hp} {p : Addr} (a : Kept H H1 p) (b : Kept H1 H2 p) : Kept H H2 p := ⟨b.1, fun q o hq h => b.2 q o hq (a.2 q o hq h)⟩
theorem Kept.box {H H' : Hp} {p : Addr} (k : Kept H H' p) : BoxAt H' p := k.1
theorem Turned.kept {H H' : Hp} {p : Addr} (t : Turned H H' p) : Kept H H' p := ⟨t.1, fun q o hq h => t.at hq h⟩
theorem Kept.new {H H' : Hp} {p l : Addr} {o : HO} (k : Kept H H' p) (h : H' l = none) : Kept H (upd H' l o) p :=
  ⟨k.1.upd h, fun q u hq hu => by rw [upd_ne (ne_of_none (k.2 q u hq hu) h)]; exact k.2 q u hq hu⟩
theorem Kept.turn {H H1 H2 : Hp} {p : Addr} (k : Kept H H1 p) (t : Turned H1 H2 p) : Kept H H2 p := k.trans t.kept
theorem Kept.same {H H1 H2 : Hp} {p : Addr} (k : Kept H H1 p) (s : Same H1 H2) : Kept H H2 p := by
  obtain ⟨⟨a, b, c, h, r⟩, f⟩ := k
  exact ⟨⟨a, b, c, s _ _ h, r⟩, fun q o hq hh => s _ _ (f q o hq hh)⟩
/-- fresh behind is fresh ahead -/
theorem Kept.free {H H' : Hp} {p q : Addr} (k : Kept H H' p) (hb : BoxAt H p) (h : H' q = none) : H q = none := by
  cases e : H q with
  | none => rfl
  | some o =>
    by_cases hq : q = p
    · subst hq
      obtain ⟨_, hh⟩ := k.1.some
      rw [hh] at h
      exact nomatch h
    · rw [k.2 q o hq e] at h
      exact nomatch h
theorem Kept.ne {H : Hp} {p q : Addr} (b : BoxAt H p) (h : H q = none) : q ≠ p := by
  rintro rfl
  obtain ⟨_, hh⟩ := b.some
  rw [hh] at h
  exact nomatch h
theorem Kept.put {H H' : Hp} {p D : Addr} {o : HO} (k : Kept H H' p) (hb : BoxAt H p) (h : H D = none) : Kept H (upd H' D o) p := by
  have hne : D ≠ p := Kept.ne hb h
  obtain ⟨⟨a, b, c, hh, r⟩, f⟩ := k
  exact ⟨⟨a, b, c, by rw [upd_ne hne.symm]; exact hh, r⟩, fun q u hq hu => by rw [upd_ne (ne_of_none hu h)]; exact f q u hq hu⟩
/-- no test: the turn gives -/
theorem yes_go {σ : L2.St} {H : Hp} {A B : Hp → Prop} (h : A H) : tYes σ H (fun b H' => if b = true then A H' else B H') := by
  show if true = true then A H else B H
  exact iteT h
/-! a word between a statement and what follows -/
def tMid (t u : TS) : TS := fun D σ H => ∃ M : L2.St → Hp → Prop, t { D with nx := M } σ H ∧ ∀ σ' H', M σ' H' → u D σ' H'
theorem pss_mid {X : Cx} {st : Stmt} {rest : List Stmt} {t u : TS} (h1 : PS X st t) (h2 : PSs X rest u) : PSs X (st :: rest) (tMid t u) := by
  refine ⟨fun pins s σ H D I ⟨M, hm, hu⟩ => ?_⟩
  refine wpAny_execs_cons (thn (h1.run pins s σ H { D with nx := M } I hm) fun f s1 q => ?_)
  match f, q with
  | .next, ⟨σ', H', I', q⟩ => exact h2.run pins s1 σ' H' D I' (hu σ' H' q)
  | .ret _, q => exact q
  | .brk, q => exact q
  | .cont, q => exact q
end Gd

namespace Gd
open PySem L2
/-- a list of signs == [] -/
theorem signs_nil {K : PySem.W.Frag} {H : Hp} {D D2 : Addr} {bs : List Nat} (h1 : H D = some (.lst (bs.map fun c => V.str ⟨#[c]⟩))) (h2 : H D2 = some (.lst [])) (asc : ∀ c ∈ bs, c < 128) {Q : VK} (q : Q (.bl bs.isEmpty) H) : rEqD K (.ref D) (.ref D2) H Q := by
  have dp : ∀ l : List Nat, DpAll K H (l.map fun c => V.str ⟨#[c]⟩) (l.map fun c => PyData.str ⟨#[c]⟩) := by
    intro l
    induction l with
    | nil => exact .nil
    | cons c l ih => exact .cons (.str _) ih
  have shp : ∀ l : List Nat, (∀ c ∈ l, c < 128) → SeqAt.shaped (.list (l.map fun c => PyData.str ⟨#[c]⟩)) = true := by
    intro l hl
    unfold SeqAt.shaped
    have h1 : ∀ l : List Nat, (∀ c ∈ l, c < 128) → PyData.canLayAll0 (l.map fun c => PyData.str ⟨#[c]⟩) = true := by
      intro l
      induction l with
      | nil => exact fun _ => rfl
      | cons c l ih =>
        intro h
        show (PyData.canLay0 (.str ⟨#[c]⟩) && PyData.canLayAll0 (l.map fun c => PyData.str ⟨#[c]⟩)) = true
        rw [ih fun x hx => h x (List.mem_cons_of_mem _ hx), Bool.and_true]
        show (#[c] : Array Nat).all (· < 0x110000) = true
        have := h c List.mem_cons_self
        simp
        omega
    have h2 : ∀ l : List Nat, PyData.depthAll (l.map fun c => PyData.str ⟨#[c]⟩) = 0 := by
      intro l
      induction l with
      | nil => rfl
      | cons c l ih =>
        show max 0 (PyData.depthAll (l.map fun c => PyData.str ⟨#[c]⟩)) = 0
        rw [ih]
        rfl
    rw [Bool.and_eq_true]
    refine ⟨h1 l hl, decide_eq_true ?_⟩
    show PyData.depthAll (l.map fun c => PyData.str ⟨#[c]⟩) + 1 ≤ 64
    rw [h2]
    decide
  refine ⟨.list (bs.map fun c => PyData.str ⟨#[c]⟩), .list [], .lst (SqL.of h1) (dp bs), .lst (SqL.of h2) .nil, shp bs asc, by decide, ?_⟩
  have eqv : PyData.eqv (.list (bs.map fun c => PyData.str ⟨#[c]⟩)) (.list []) = bs.isEmpty := by
    cases bs <;> rfl
  rw [eqv]
  exact q
/-! ### small letters -/
def low (c : Nat) : Bool := decide (97 ≤ c) && decide (c ≤ 122)
theorem low_fst (c : Nat) : (!decide ((({ cps := #[c] } : Str)).cps.toList < (("a" : String) : Str).cps.toList)) = decide (97 ≤ c) := by
  show (!decide (([c] : List Nat) < [97])) = _
  rw [lt_sign, ← decide_not]
  exact decide_eq_decide.mpr (by omega)
theorem low_snd (c : Nat) : (!decide ((("z" : String) : Str).cps.toList < (({ cps := #[c] } : Str)).cps.toList)) = decide (c ≤ 122) := by
  show (!decide (([122] : List Nat) < [c])) = _
  rw [lt_sign, ← decide_not]
  exact decide_eq_decide.mpr (by omega)
end Gd

namespace Gd
open PySem PySem.Spec PyProof.Rows L2
theorem repS_same {z : Str} {n : Int} (h : n = 1 ∨ z.length = 0) : repS z n = z := by
  refine str_ext ?_
  rw [repS_list]
  rcases h with rfl | h
  · show (List.replicate 1 z.cps.toList).flatten = _
    simp
  · have e : z.cps.toList = [] := by
      rw [← List.length_eq_zero_iff, ← len_list]
      exact h
    rw [e]
    simp
theorem Tx.reps {m : Nat} {x : Str} (t : Tx m x) (n : Int) : Tx (n.toNat * m) (repS x n) := by
  refine ⟨?_, fun c hc => ?_⟩
  · rw [len_list, repS_list, List.length_flatten, List.map_replicate]
    have h1 := sum_le (l := List.replicate n.toNat x.cps.toList.length) (n := m) fun k hk => by
      rw [(List.mem_replicate.mp hk).2, ← len_list]
      exact t.len
    rw [List.length_replicate] at h1
    exact h1
  · rw [repS_list] at hc
    obtain ⟨l, hl, hc⟩ := List.mem_flatten.mp hc
    rw [(List.mem_replicate.mp hl).2] at hc
    exact t.asc c hc
section
variable {X : Cx}
theorem op_repA : OpR X (binaryOp .Mult) (fun x y H Q => ∃ z n, x = .str z ∧ y = .int n ∧ 1 ≤ n ∧ n < 1000000 ∧ z.length * n.toNat ≤ sizeLine ∧ Q (.str (repS z n)) H) := by
  intro pins s σ H x y v u Q I rx ry h
  obtain ⟨z, n, rfl, rfl, h1, h2, hz, q⟩ := h
  by_cases hs : n = 1 ∨ z.length = 0
  · rw [repS_same hs] at q
    obtain ⟨t, rfl⟩ := rx
    obtain ⟨t', rfl⟩ := ry
    have e1 : (n == 1 || z.length == 0) = true := by
      rw [Bool.or_eq_true]
      rcases hs with h | h
      · exact .inl (beq_iff_eq.mpr h)
      · exact .inr (beq_iff_eq.mpr h)
    have hb : ¬ (z.length : Int) > (2 ^ 63 - 1) / n := by
      intro c
      have hs := hz
      rw [sizeLine_eq] at hs
      have h3 : (z.length : Int) * n ≤ 16777216 := by
        have h4 : ((z.length * n.toNat : Nat) : Int) ≤ 16777216 := Int.ofNat_le.mpr hs
        rw [Int.natCast_mul, Int.toNat_of_nonneg (by omega)] at h4
        exact h4
      have h5 : (z.length : Int) ≤ 16777216 := by
        have h6 : (0 : Int) ≤ z.length := by omega
        have h7 : (z.length : Int) * 1 ≤ (z.length : Int) * n := Int.mul_le_mul_of_nonneg_left (by omega) (by omega)
        omega
      have h8 : (2 ^ 63 - 1 : Int) / n ≥ (2 ^ 63 - 1) / 1000000 := by
        have : (2 ^ 63 - 1 : Int) / 1000000 * n ≤ (2 ^ 63 - 1) := by
          have h9 : (2 ^ 63 - 1 : Int) / 1000000 = 9223372036854 := by decide
          rw [h9]
          omega
        exact (Int.le_ediv_iff_mul_le (by omega)).mpr this
      have h10 : (2 ^ 63 - 1 : Int) / 1000000 = 9223372036854 := by decide
      omega
    refine PySem.P.mul_str (by rw [Bool.or_eq_false_iff]; exact ⟨decide_eq_false (by omega), decide_eq_false (by omega)⟩) (fun _ _ => hb) (fun _ _ => ?_) ?_
    · unfold Builtin.Str.tooLong
      exact decide_eq_false (by omega)
    · rw [if_neg (by omega), if_pos e1]
      first
        | exact ⟨.str z, H, I, ⟨t, rfl⟩, q⟩
        | (unfold Made.post; exact ⟨.str z, H, I, ⟨t, rfl⟩, q⟩)
  · refine op_repS pins s σ H _ _ v u Q I rx ry ⟨z, n, rfl, rfl, ?_, h2, fun z => hs (.inr z), hz, q⟩
    have : n ≠ 1 := fun z => hs (.inl z)
    omega
end
end Gd

namespace Gd
open PySem L2
/-! ### what has come since -/
def newer (H H' : Hp) : Hp := fun a => match H a with
  | none => H' a
  | some _ => none
section
variable {H H' H'' : Hp} {a : Addr} {o : HO}
theorem newer_at (h : H a = none) (h' : H' a = some o) : newer H H' a = some o := by
  unfold newer
  rw [h]
  exact h'
theorem newer_of (h : newer H H' a = some o) : H a = none ∧ H' a = some o := by
  unfold newer at h
  cases e : H a with
  | none => rw [e] at h; exact ⟨rfl, h⟩
  | some u => rw [e] at h; exact nomatch h
theorem newer_same : Same (newer H H') H' := fun _ _ h => (newer_of h).2
theorem newer_go (k : ∀ b u, H b = none → H' b = some u → H'' b = some u) : Same (newer H H') (newer H H'') := fun b u h => newer_at (newer_of h).1 (k b u (newer_of h).1 (newer_of h).2)
end
/-! ### data of a depth -/
def Wd : Nat → Nat
  | 0 => 40000
  | n + 1 => 4 * Wd n + 1000
def Item (K : PySem.W.Frag) (G : Hp) (n : Nat) (v : V) : Prop := ∃ d, Da K G v d ∧ Ok1 d ∧ wid d ≤ Wd n ∧ d.depth ≤ n
section
variable {K : PySem.W.Frag} {G G' : Hp} {n : Nat}
theorem Item.same {v : V} (s : Same G G') : Item K G n v → Item K G' n v
  | ⟨d, h, r⟩ => ⟨d, h.same s, r⟩
theorem wd_pos : ∀ n, 1000 ≤ Wd n
  | 0 => by decide
  | n + 1 => by
    show 1000 ≤ 4 * Wd n + 1000
    omega
theorem Item.up {v : V} : Item K G n v → Item K G (n + 1) v
  | ⟨d, h, o, w, p⟩ => ⟨d, h, o, by
    show wid d ≤ 4 * Wd n + 1000
    omega, by omega⟩
theorem items : ∀ {ys : List V}, (∀ y ∈ ys, Item K G n y) → ∃ ds, DaL K G ys ds ∧ OkL ds ∧ widL ds ≤ ys.length * (Wd n + 2) ∧ PyData.depthAll ds ≤ n
  | [], _ => ⟨[], .nil, trivial, Nat.zero_le _, Nat.zero_le _⟩
  | y :: ys, h => by
    obtain ⟨d, h1, h2, h3, h4⟩ := h y List.mem_cons_self
    obtain ⟨ds, g1, g2, g3, g4⟩ := items (ys := ys) fun x hx => h x (List.mem_cons_of_mem _ hx)
    refine ⟨d :: ds, .cons h1 g1, ⟨h2, g2⟩, ?_, ?_⟩
    · show wid d + 2 + widL ds ≤ (ys.length + 1) * (Wd n + 2)
      rw [Nat.succ_mul]
      omega
    · show max d.depth (PyData.depthAll ds) ≤ n
      omega
theorem three {ys : List V} (hl : ys.length ≤ 3) : ys.length * (Wd n + 2) ≤ 3 * (Wd n + 2) := Nat.mul_le_mul_right _ hl
theorem item_lst {a : Addr} {ys : List V} (h : G a = some (.lst ys)) (hl : ys.length ≤ 3) (hy : ∀ y ∈ ys, Item K G n y) : Item K G (n + 1) (.ref a) := by
  obtain ⟨ds, g1, g2, g3, g4⟩ := items hy
  have := three (n := n) hl
  exact ⟨.list ds, .lst h g1, g2, by show widL ds + 2 ≤ 4 * Wd n + 1000; have := wd_pos n; omega, by show PyData.depthAll ds + 1 ≤ n + 1; omega⟩
theorem item_tup {a : Addr} {ys : List V} (h : G a = some (.tup ys)) (hl : ys.length ≤ 3) (hy : ∀ y ∈ ys, Item K G n y) : Item K G (n + 1) (.ref a) := by
  obtain ⟨ds, g1, g2, g3, g4⟩ := items hy
  have := three (n := n) hl
  exact ⟨.tuple ds, .tup (SqT.of h) g1, g2, by show widL ds + 3 ≤ 4 * Wd n + 1000; have := wd_pos n; omega, by show PyData.depthAll ds + 1 ≤ n + 1; omega⟩
/-- a small key -/
def SmK : Key → Prop
  | .inl _ => False
  | .inr x => Tx 5 x
theorem pairs : ∀ {kvs : List (Key × V)}, (∀ kv ∈ kvs, SmK kv.1 ∧ Item K G n kv.2) →
    ∃ ds, DaL K G (kvs.map (·.2)) ds ∧ OkK ((kvs.map fun p => kD p.1).zip ds) ∧ widK ((kvs.map fun p => kD p.1).zip ds) ≤ kvs.length * (Wd n + 60) ∧ PyData.depthKv ((kvs.map fun p => kD p.1).zip ds) ≤ n
  | [], _ => ⟨[], .nil, trivial, Nat.zero_le _, Nat.zero_le _⟩
  | kv :: kvs, h => by
    obtain ⟨hk, d, h1, h2, h3, h4⟩ := h kv List.mem_cons_self
    obtain ⟨ds, g1, g2, g3, g4⟩ := pairs (kvs := kvs) fun x hx => h x (List.mem_cons_of_mem _ hx)
    obtain ⟨k, v⟩ := kv
    cases k with
    | inl i => exact hk.elim
    | inr x =>
      have tx : Tx 5 x := hk
      have := tx.len
      refine ⟨d :: ds, .cons h1 g1, ⟨tx.big, h2, g2⟩, ?_, ?_⟩
      · show (10 * x.length + 2) + wid d + 4 + widK ((kvs.map fun p => kD p.1).zip ds) ≤ (kvs.length + 1) * (Wd n + 60)
        have e : (kvs.length + 1) * (Wd n + 60) = kvs.length * (Wd n + 60) + (Wd n + 60) := Nat.succ_mul _ _
        omega
      · show max (max 0 d.depth) (PyData.depthKv ((kvs.map fun p => kD p.1).zip ds)) ≤ n
        omega
theorem item_dct {a : Addr} {kvs : List (Key × V)} (h : G a = some (.dK kvs)) (hl : kvs.length ≤ 3) (hy : ∀ kv ∈ kvs, SmK kv.1 ∧ Item K G n kv.2) : Item K G (n + 1) (.ref a) := by
  obtain ⟨ds, g1, g2, g3, g4⟩ := pairs hy
  have : kvs.length * (Wd n + 60) ≤ 3 * (Wd n + 60) := Nat.mul_le_mul_right _ hl
  exact ⟨.dict _, .dct h g1, g2, by show widK _ + 2 ≤ 4 * Wd n + 1000; have := wd_pos n; omega, by show PyData.depthKv _ + 1 ≤ n + 1; omega⟩
end
theorem put_all {P : Key → Prop} {R : V → Prop} {acc : List (Key × V)} {k : Key} {v : V} (h : ∀ kv ∈ acc, P kv.1 ∧ R kv.2) (hk : P k) (hv : R v) : ∀ kv ∈ putK acc k v, P kv.1 ∧ R kv.2 := by
  intro kv hm
  unfold putK at hm
  split at hm
  · obtain ⟨u, hu, rfl⟩ := List.mem_map.mp hm
    split
    · exact ⟨(h u hu).1, hv⟩
    · exact h u hu
  · rcases List.mem_append.mp hm with e | e
    · exact h kv e
    · have : kv = (k, v) := by simpa using e
      rw [this]
      exact ⟨hk, hv⟩
theorem merge_all {P : Key → Prop} {R : V → Prop} : ∀ {more acc : List (Key × V)}, (∀ kv ∈ acc, P kv.1 ∧ R kv.2) → (∀ kv ∈ more, P kv.1 ∧ R kv.2) → ∀ kv ∈ mergeK acc more, P kv.1 ∧ R kv.2
  | [], acc, h, _ => h
  | m :: r, acc, h, hm => by
    show ∀ kv ∈ mergeK (putK acc m.1 m.2) r, _
    have := hm m List.mem_cons_self
    exact merge_all (put_all h this.1 this.2) fun x hx => hm x (List.mem_cons_of_mem _ hx)
theorem key_small {i : Nat} (h : i < 4) : Tx 5 (((toString ((i : Nat) : Int) : String)) : Str) := by
  have : i = 0 ∨ i = 1 ∨ i = 2 ∨ i = 3 := by omega
  rcases this with rfl | rfl | rfl | rfl <;> exact .of (by decide +kernel)
end Gd

/-! matrices in the heap: lists or tuples of lists or tuples -/
namespace KM
open PySem PySem.Spec PyProof.Rows L2 Gd Zn
/-- a list (true) or a tuple (false) -/
def so (b : Bool) (xs : List V) : HO := if b then .lst xs else .tup xs
theorem so_sq {K : PySem.W.Frag} {H : Hp} {b : Bool} {p : Addr} {xs : List V} (h : H p = some (so b xs)) : SqV K H b p xs := by
  cases b
  · exact SqT.of h
  · exact SqL.of h
theorem so_any {K : PySem.W.Frag} {H : Hp} {b : Bool} {p : Addr} {xs : List V} (h : H p = some (so b xs)) : SqL K H p xs ∨ SqT K H p xs := by
  cases b
  · exact .inr (SqT.of h)
  · exact .inl (SqL.of h)
theorem so_kind {H : Hp} {b : Bool} {p : Addr} {xs : List V} (h : H p = some (so b xs)) : Pv H (.ref p) ∧ (inst "list" (kind H (.ref p)) || inst "tuple" (kind H (.ref p))) = true := by
  cases b
  · have e : kind H (.ref p) = .tup := by show kindO (H p) = _; rw [h]; rfl
    rw [Pv, e]
    exact ⟨by decide, by decide⟩
  · have e : kind H (.ref p) = .lst := by show kindO (H p) = _; rw [h]; rfl
    rw [Pv, e]
    exact ⟨by decide, by decide⟩
/-- what is walked -/
def ItV (K : PySem.W.Frag) (b : Bool) (a : Addr) : It := if b then Itl K a else Itt K a
def iSq (K : PySem.W.Frag) (te : TE) : TI := fun σ H R => te σ H fun x H1 => ∃ b a xs, x = V.ref a ∧ SqV K H1 b a xs ∧ R (ItV K b a) H1
theorem pi_sq {X : Cx} {tg e : Expr} {te : TE} (he : PE X e te) : PI X tg e (iSq X.K te) := by
  refine ⟨fun pins s σ H R I h => thn (he.run pins s σ H _ I h) fun v s1 ⟨x, H1, I1, r1, b, a, xs, ex, hq, q⟩ => ?_⟩
  subst ex
  obtain rfl : v = Value.ref a := r1
  have fp : ∀ c ∈ [s1.heap.objs.size], FpOk X pins H1 c := fun c hc => by
    obtain rfl : c = s1.heap.objs.size := by simpa using hc
    exact I1.fpOk (Nat.le_refl _) (I1.hok.fresh (Nat.le_refl _))
  cases b with
  | false =>
    obtain ⟨its, rv, pl, hz⟩ := I1.tuple hq
    exact wpAny_pyIter_tuple (show s1.heap.IsTuple a its.toArray from pl) ⟨_, [_], _, _, H1, rfl, I1.kept (t' := s1.toks) fun b o e => Heap.get?_push_of_some _ e, turn_tuple a _, ⟨_, Heap.get?_push_size _ rfl, rfl, rfl⟩, fp, q⟩
  | true =>
    obtain ⟨its, rv, pl, hz⟩ := I1.list hq
    exact wpAny_pyIter_list pl.isList ⟨_, [_], _, _, H1, rfl, I1.kept (t' := s1.toks) fun b o e => Heap.get?_push_of_some _ e, turn_list a _, ⟨_, Heap.get?_push_size _ rfl, rfl, rfl⟩, fp, q⟩
theorem walk_sq {K : PySem.W.Frag} {b : Bool} {a : Addr} {xs : List V} : Walk (ItV K b a) xs.length (fun H => SqV K H b a xs) (YAt xs) := by
  cases b
  · exact walk_tup
  · exact walk_list
/-- rows at their places -/
inductive RwAt (H : Hp) : Bs → List (List V) → Prop
  | nil : RwAt H [] []
  | cons {q : Bool × Addr} {xs : List V} {bs : Bs} {xss : List (List V)} : H q.2 = some (so q.1 xs) → RwAt H bs xss → RwAt H (q :: bs) (xs :: xss)
theorem RwAt.same {H H' : Hp} (s : Same H H') {bs : Bs} {xss : List (List V)} (h : RwAt H bs xss) : RwAt H' bs xss := by
  induction h with
  | nil => exact .nil
  | cons a _ ih => exact .cons (s _ _ a) ih
theorem RwAt.len {H : Hp} {bs : Bs} {xss : List (List V)} (h : RwAt H bs xss) : bs.length = xss.length := by
  induction h with
  | nil => rfl
  | cons _ _ ih => rw [List.length_cons, List.length_cons, ih]
theorem RwAt.rws {K : PySem.W.Frag} {H : Hp} {bs : Bs} {xss : List (List V)} (h : RwAt H bs xss) : Rws K H bs xss := by
  induction h with
  | nil => exact .nil
  | cons a _ ih => exact .cons (so_sq a) ih
theorem RwAt.get {H : Hp} {bs : Bs} {xss : List (List V)} (h : RwAt H bs xss) : ∀ {i : Nat} {x : V}, (bs.map fun q => V.ref q.2)[i]? = some x → ∃ b p xs, x = .ref p ∧ xss[i]? = some xs ∧ H p = some (so b xs) := by
  induction h with
  | nil => exact fun e => by simp at e
  | @cons q xs bs xss a _ ih =>
    intro i x e
    cases i with
    | zero =>
      cases e
      exact ⟨q.1, q.2, xs, rfl, rfl, a⟩
    | succ i => exact ih e
/-- a matrix -/
def MAt (H : Hp) (x : V) (xss : List (List V)) : Prop := ∃ b p bs, x = V.ref p ∧ H p = some (so b (bs.map fun q => V.ref q.2)) ∧ RwAt H bs xss
theorem MAt.same {H H' : Hp} {x : V} {xss : List (List V)} (s : Same H H') : MAt H x xss → MAt H' x xss
  | ⟨b, p, bs, e, h, r⟩ => ⟨b, p, bs, e, s _ _ h, r.same s⟩
theorem MAt.on {H H' : Hp} {x : V} {xss : List (List V)} (h : MAt H x xss) (s : Same H H') : MAt H' x xss := h.same s
/-- n rows of n items -/
def Sqr (n : Nat) (xss : List (List V)) : Prop := xss.length = n ∧ ∀ xs ∈ xss, xs.length = n
/-- lists at their places -/
inductive LsAt (H : Hp) : List Addr → List (List V) → Prop
  | nil : LsAt H [] []
  | cons {p : Addr} {xs : List V} {ps : List Addr} {xss : List (List V)} : H p = some (.lst xs) → LsAt H ps xss → LsAt H (p :: ps) (xs :: xss)
theorem LsAt.same {H H' : Hp} (s : Same H H') {ps : List Addr} {xss : List (List V)} (h : LsAt H ps xss) : LsAt H' ps xss := by
  induction h with
  | nil => exact .nil
  | cons a _ ih => exact .cons (s _ _ a) ih
theorem LsAt.on {H H' : Hp} {ps : List Addr} {xss : List (List V)} (h : LsAt H ps xss) (s : ∀ p ∈ ps, H' p = H p) : LsAt H' ps xss := by
  induction h with
  | nil => exact .nil
  | cons a _ ih => exact .cons ((s _ List.mem_cons_self).trans a) (ih fun p hp => s p (List.mem_cons_of_mem _ hp))
theorem LsAt.len {H : Hp} {ps : List Addr} {xss : List (List V)} (h : LsAt H ps xss) : ps.length = xss.length := by
  induction h with
  | nil => rfl
  | cons _ _ ih => rw [List.length_cons, List.length_cons, ih]
theorem LsAt.snoc {H : Hp} {ps : List Addr} {xss : List (List V)} {p : Addr} {xs : List V} (h : LsAt H ps xss) (hp : H p = some (.lst xs)) : LsAt H (ps ++ [p]) (xss ++ [xs]) := by
  induction h with
  | nil => exact .cons hp .nil
  | cons a _ ih => exact .cons a ih
theorem LsAt.rw {H : Hp} {ps : List Addr} {xss : List (List V)} (h : LsAt H ps xss) : RwAt H (ps.map fun p => (true, p)) xss := by
  induction h with
  | nil => exact .nil
  | cons a _ ih => exact .cons a ih
theorem LsAt.get {H : Hp} {ps : List Addr} {xss : List (List V)} (h : LsAt H ps xss) : ∀ {i : Nat} {p : Addr}, ps[i]? = some p → ∃ xs, xss[i]? = some xs ∧ H p = some (.lst xs) := by
  induction h with
  | nil => exact fun e => by simp at e
  | @cons p xs ps xss a _ ih =>
    intro i x e
    cases i with
    | zero =>
      cases e
      exact ⟨xs, rfl, a⟩
    | succ i => exact ih e
/-- a list of new lists, being made at D in what was H0 -/
structure Bld (H0 : Hp) (D : Addr) (xss : List (List V)) (H : Hp) : Prop where
  ex : ∃ ps, H D = some (.lst (ps.map V.ref)) ∧ LsAt H ps xss ∧ (∀ p ∈ ps, H0 p = none ∧ p ≠ D) ∧ ps.Nodup
  same : Same H0 H
  free : H0 D = none
theorem Bld.nil {H0 : Hp} {D : Addr} (h : H0 D = none) : Bld H0 D [] (upd H0 D (.lst [])) :=
  ⟨⟨[], upd_same, .nil, fun p hp => absurd hp List.not_mem_nil, List.nodup_nil⟩, fun b u hu => by rw [upd_ne (ne_of_none hu h)]; exact hu, h⟩
theorem Bld.ext {H0 H H' : Hp} {D : Addr} {xss : List (List V)} (b : Bld H0 D xss H) (s : Same H H') : Bld H0 D xss H' := by
  obtain ⟨ps, h1, h2, h3, h4⟩ := b.ex
  exact ⟨⟨ps, s _ _ h1, h2.same s, h3, h4⟩, b.same.trans s, b.free⟩
/-- one list more, new behind H -/
theorem Bld.add {H0 H H' : Hp} {D q : Addr} {xss : List (List V)} {xs : List V} (b : Bld H0 D xss H) (hq : H q = none) (s : Same H H') (h : H' q = some (.lst xs)) (hz : xss.length < sizeLine) :
    ∃ acc, H' D = some (.lst acc) ∧ acc.length < sizeLine ∧ Bld H0 D (xss ++ [xs]) (upd H' D (.lst (acc ++ [V.ref q]))) := by
  obtain ⟨ps, h1, h2, h3, h4⟩ := b.ex
  have qD : q ≠ D := fun e => by rw [e, h1] at hq; exact nomatch hq
  have hps : ∀ p ∈ ps, p ≠ D := fun p hp => (h3 p hp).2
  refine ⟨ps.map V.ref, s _ _ h1, by rw [List.length_map, h2.len]; exact hz, ⟨⟨ps ++ [q], by rw [List.map_append]; exact upd_same, ?_, fun p hp => ?_, ?_⟩, fun c u hu => ?_, b.free⟩⟩
  · exact ((h2.same s).on fun p hp => upd_ne (hps p hp)).snoc ((upd_ne qD).trans h)
  · rcases List.mem_append.mp hp with hp | hp
    · exact h3 p hp
    · obtain rfl : p = q := by simpa using hp
      refine ⟨?_, qD⟩
      cases e : H0 p with
      | none => rfl
      | some u => rw [b.same _ _ e] at hq; exact nomatch hq
  · refine List.nodup_append.mpr ⟨h4, by simp, fun a ha c hc e => ?_⟩
    obtain rfl : c = q := by simpa using hc
    subst e
    obtain ⟨i, hi⟩ := List.getElem?_of_mem ha
    obtain ⟨ys, _, hy⟩ := h2.get hi
    rw [hy] at hq
    exact nomatch hq
  · have : c ≠ D := fun e => by rw [e, b.free] at hu; exact nomatch hu
    rw [upd_ne this]
    exact s _ _ (b.same _ _ hu)
/-- a list of new lists -/
def NewM (H H' : Hp) (x : V) (xss : List (List V)) : Prop := ∃ D, x = V.ref D ∧ Bld H D xss H'
theorem NewM.same {H H' : Hp} {x : V} {xss : List (List V)} : NewM H H' x xss → Same H H'
  | ⟨_, _, b⟩ => b.same
theorem NewM.mat {H H' : Hp} {x : V} {xss : List (List V)} : NewM H H' x xss → MAt H' x xss
  | ⟨D, e, b⟩ => by
    obtain ⟨ps, h1, h2, _, _⟩ := b.ex
    exact ⟨true, D, ps.map fun p => (true, p), e, by rw [List.map_map]; exact h1, h2.rw⟩
/-- values into a new list -/
structure Vls (H0 : Hp) (D : Addr) (ys : List V) (H : Hp) : Prop where
  at_ : H D = some (.lst ys)
  same : Same H0 H
  free : H0 D = none
theorem Vls.nil {H0 : Hp} {D : Addr} (h : H0 D = none) : Vls H0 D [] (upd H0 D (.lst [])) := ⟨upd_same, fun b u hu => by rw [upd_ne (ne_of_none hu h)]; exact hu, h⟩
theorem Vls.ext {H0 H H' : Hp} {D : Addr} {ys : List V} (b : Vls H0 D ys H) (s : Same H H') : Vls H0 D ys H' := ⟨s _ _ b.at_, b.same.trans s, b.free⟩
theorem Vls.add {H0 H : Hp} {D : Addr} {ys : List V} {y : V} (b : Vls H0 D ys H) (hz : ys.length < sizeLine) : ∃ acc, H D = some (.lst acc) ∧ acc.length < sizeLine ∧ Vls H0 D (ys ++ [y]) (upd H D (.lst (acc ++ [y]))) :=
  ⟨ys, b.at_, hz, upd_same, fun c u hu => by
    have : c ≠ D := fun e => by rw [e, b.free] at hu; exact nomatch hu
    rw [upd_ne this]
    exact b.same _ _ hu, b.free⟩
theorem upd_new {H : Hp} {q : Addr} {o : HO} (h : H q = none) : Same H (upd H q o) := fun b u hu => by
  rw [upd_ne (ne_of_none hu h)]
  exact hu
theorem take_succ {α : Type} {l : List α} {i : Nat} {x : α} (h : l[i]? = some x) : l.take (i + 1) = l.take i ++ [x] := by
  rw [List.take_add_one, h]
  rfl

/-- a walk in a comprehension, whatever is asked of each turn -/
theorem out_it {J : It} {n : Nat} {G : Hp → Prop} {Y : Nat → Hp → V → Hp → Prop} (w : Walk J n G Y) {B : V → Hp → (Hp → Prop) → Prop} {H0 : Hp} {Qd : Hp → Prop} (Pv : Nat → Hp → Prop) (h0 : Pv 0 H0) (hG : ∀ i H, i ≤ n → Pv i H → G H)
    (hs : ∀ i x H H', i < n → Pv i H → Y i H x H' → B x H' (Pv (i + 1))) (hd : ∀ H, Pv n H → Qd H) :
    ∃ W : Nat → Nat → Hp → Prop, (∃ m, W 0 m H0) ∧ ∀ i m H, W i m H → (J.stop i H ∧ Qd H) ∨ (J.go i H ∧ ∃ Nx : Hp → Prop, (∀ H', Nx H' → ∃ m', m' < m ∧ W (i + 1) m' H') ∧ ∀ x H', J.yld i H x H' → B x H' Nx) := by
  refine ⟨fun i m H => m + i = n ∧ Pv i H, ⟨n, rfl, h0⟩, ?_⟩
  rintro i m H ⟨e, p⟩
  have q := hG i H (by omega) p
  by_cases hlt : (i < n)
  · exact .inr ⟨w.goes i H hlt q, Pv (i + 1), fun H' p' => ⟨m - 1, by omega, by omega, p'⟩, fun x H' y => hs i x H H' hlt p (w.yields i H x H' hlt q y)⟩
  · obtain rfl : i = n := by omega
    exact .inl ⟨w.stops H q, hd H p⟩
theorem pi_zipPK {K : PySem.W.Frag} {X : Cx} (h : X.K = K) {tg e e2 : Expr} {ta : TA} {p pos : Pos} (hg : Gl X "zip") (hm : X.mg "zip" = none) (ha : PA X [e, e2] ta)
    (hs : starEach [e, e2] X.env = (false, eval e X.env) :: starEach [e2] X.env := by rfl) (hpl : (backTo pos (starEach [e2] X.env)).any (·.1) = false := by rfl) : PI X tg (.Call (.Name "zip" p) [e, e2] [] pos) (iZipP K ta) := by
  subst h
  exact pi_zipP hg hm ha hs hpl
/-! ### rules within a comprehension, the written part named -/
def rLen (K : PySem.W.Frag) : List V → Hp → VK → Prop := fun xs H Q => ∃ p ys, xs = [V.ref p] ∧ (SqL K H p ys ∨ SqT K H p ys) ∧ Q (.int ys.length) H
def rListOf (K : PySem.W.Frag) : List V → Hp → VK → Prop := fun xs H Q => ∃ p ys, xs = [V.ref p] ∧ (SqL K H p ys ∨ SqT K H p ys) ∧ ∀ l, H l = none → Q (.ref l) (upd H l (.lst ys))
def rTupOf (K : PySem.W.Frag) : List V → Hp → VK → Prop := fun xs H Q => ∃ p ys, xs = [V.ref p] ∧ ((SqL K H p ys ∧ ∀ l, H l = none → Q (.ref l) (upd H l (.tup ys))) ∨ (SqT K H p ys ∧ Q (.ref p) H))
section
variable {K : PySem.W.Frag} {X : Cx} (h : X.K = K)
include h
theorem call_lenK : CallR X (.builtin "len") (rLen K) := by subst h; exact call_len_seq
theorem call_listK : CallR X (.type "list") (rListOf K) := by subst h; exact call_list_of
theorem call_tupleK : CallR X (.type "tuple") (rTupOf K) := by subst h; exact call_tuple_of
theorem cr_minK (hc : X.calm = true) : CallR X (.builtin "min") (rMin K) := by subst h; exact cr_min hc
theorem ix_listK : IxR X (rIxL K) := by subst h; exact ix_list
theorem pg_tupK {es : List Expr} {k : Nat} {pos : Pos} {t : TGs} {n : Nat} (hc : X.calm = true) (hs : PGs X es t) (hn : (assignEach es X.env).length = n := by rfl) (hst : (assignEach es X.env).findIdx? (·.1) = none := by rfl) : PG X (.Tuple es k pos) (gTup K n t) := by
  subst h
  exact pg_tup hc hs hn hst
theorem pi_listK {tg l : Expr} {tl : TE} (hl : PE X l tl) : PI X tg l (iList K tl) := by subst h; exact pi_list hl
theorem pi_sqK {tg l : Expr} {tl : TE} (hl : PE X l tl) : PI X tg l (iSq K tl) := by subst h; exact pi_sq hl
end
end KM

namespace KM
open PySem L2 Gd Zn
def top (i : Nat) : Stmt := PySem.Challenge.pw_formatrepair_k35_products_and_shapes.main.body.getD i (.Pass ⟨0, 0, 0, 0⟩)
/-- what the walk asks of the names that no def of the text stands behind -/
structure Txt (mg : Str → Option Value) (base : Heap) : Prop where
  sys : SysIn base
  g_NEVER : ∃ u, mg "NEVER" = some u ∧ RelV (.int 3) u
  g_SOME : ∃ u, mg "SOME" = some u ∧ RelV (.int 1) u
  g_FREE : ∃ u, mg "FREE" = some u ∧ RelV (.int 0) u
  z_isinstance : mg "isinstance" = none
  z_int : mg "int" = none
  z_bool : mg "bool" = none
  z_list : mg "list" = none
  z_tuple : mg "tuple" = none
  z_len : mg "len" = none
  z_all : mg "all" = none
  z_max : mg "max" = none
  z_min : mg "min" = none
  z_range : mg "range" = none
  z_repr : mg "repr" = none
  z_zip : mg "zip" = none
def spIsInt : Sp := fun vs H Q _ => ∃ v, vs = [v] ∧ Pv H v ∧ Q (.bl (isInt v)) H
def spIsList : Sp := fun vs H Q _ => ∃ b p xs, vs = [V.ref p] ∧ H p = some (so b xs) ∧ ∀ H', Same H H' → Q (.bl true) H'
def spIsIndex : Sp := fun vs H Q _ => ∃ i n : Int, vs = [.int i, .int n] ∧ 0 ≤ i ∧ i < n ∧ Q (.bl true) H
/-- an integer of at least 0, or None -/
def Cost (v : V) : Prop := v = .non ∨ ∃ i : Int, v = .int i ∧ 0 ≤ i
def spIsCost : Sp := fun vs H Q _ => ∃ v, vs = [v] ∧ Cost v ∧ Q (.bl true) H
/-- the sum of two costs -/
def plusC : V → V → V
  | .int i, .int j => .int (i + j)
  | _, _ => .non
def spSum : Sp := fun vs H Q _ => ∃ v u, vs = [v, u] ∧ Cost v ∧ Cost u ∧ Q (plusC v u) H
/-- the shape's item -/
def itemC : V → V
  | .int i => .int (if 0 < i then 1 else 0)
  | _ => .int 3
def spItem : Sp := fun vs H Q _ => ∃ v, vs = [v] ∧ Cost v ∧ Q (itemC v) H
section
variable {P : Program} {w : World} {K : PySem.W.Frag} {mg : Str → Option Value} {base : Heap}
abbrev s_law_cell : Stmt := top 31
theorem sc_law_cell : FnScope ["_law_script", "_law_k"] ["_law_script", "_law_k"] (defScope s_law_cell) := ⟨rfl, rfl, rfl, by decide +kernel, rfl, by decide +kernel, by decide +kernel⟩
theorem ok_cell {f : Addr} {fd : FuncData} (F : Fun K "_law_cell" "_law_cell" s_law_cell f fd) (T : Txt mg base) : FnG P w K mg base CX0 1 f fd ["_law_script", "_law_k"] (spScr K) := by
  refine okG F sc_law_cell (fun vs H Q E h => ?_) (fun cdv A outer s H vs Q E hc hr h => ?_)
  · obtain ⟨p, ns, k, rfl, _⟩ := h
    rfl
  obtain ⟨p, ns, k, rfl, hs, k0, k1, q⟩ := h
  refine ⟨_, (pss_cons (ps_if (pt_cmpR op_lt (pv 1) (pe_callB call_len_seq (by rfl) T.z_len (by decide +kernel) (pa_cons (pv 0) pa_nil)) (nomark _))
  (pss_one (ps_ret (pe_ix ix_list (pv 0) (pv 1) (fun _ _ => rfl)))) pss_nil)
 (pss_one (ps_ret (pe_op op_add (pe_op op_mul pe_int (pv 1)) pe_int)))), ?_⟩
  refine ⟨_, rfl, _, rfl, p, _, rfl, .inl hs, _, _, rfl, rfl, _, rfl, ?_⟩
  refine ite2 (fun c => ?_) (fun c => ?_)
  · have c1 := of_decide_eq_true c
    rw [List.length_map] at c1
    obtain ⟨z, hz⟩ := at_script k0 c1
    exact ⟨_, rfl, _, rfl, p, _, _, _, rfl, rfl, hs, hz, q z⟩
  · exact ⟨_, rfl, _, _, rfl, rfl, .inl ⟨by decide, by decide⟩, _, _, rfl, rfl, q _⟩
abbrev s_law_box : Stmt := top 32
theorem sc_law_box : FnScope ["_law_cell_here"] ["_law_cell_here"] (defScope s_law_box) := ⟨rfl, rfl, rfl, by decide +kernel, rfl, by decide +kernel, by decide +kernel⟩
theorem ok_box {f : Addr} {fd : FuncData} (F : Fun K "_law_box" "_law_box" s_law_box f fd) (T : Txt mg base) : FnG P w K mg base CX0 1 f fd ["_law_cell_here"] spBox := by
  refine okG F sc_law_box (fun vs H Q E h => ?_) (fun cdv A outer s H vs Q E hc hr h => ?_)
  · obtain ⟨z, rfl, _⟩ := h
    rfl
  obtain ⟨z, rfl, q⟩ := h
  refine ⟨_, (pss_one (ps_ret (pe_lst (pa_cons (pe_callB (call_max2 rfl) (by rfl) T.z_max (by decide +kernel) (pa_cons pe_int (pa_cons (pe_op op_sub (pv 0) (pe_op op_pow pe_int pe_int)) pa_nil))) (pa_cons (pe_op op_mod (pv 0) pe_int) (pa_cons pe_int pa_nil)))))), ?_⟩
  refine ⟨_, rfl, _, _, rfl, rfl, ⟨by decide, by decide, by decide⟩, _, _, rfl, rfl, _, _, rfl, _, rfl, _, _, rfl, rfl, (by show (0 : Int) < 2147483629; decide), ?_⟩
  refine ⟨(by show 3 ≤ sizeLine; decide), fun p hp => q p _ hp ⟨_, _, _, upd_same, ?_⟩⟩
  have := mod_pos (i := z) (j := 2147483629) (by decide)
  omega
abbrev s_law_take : Stmt := top 33
theorem sc_law_take : FnScope ["_law_box_here", "_law_size", "_law_digit", "_law_mixed"] ["_law_box_here", "_law_size"] (defScope s_law_take) := ⟨rfl, rfl, rfl, by decide +kernel, rfl, by decide +kernel, by decide +kernel⟩
theorem ok_take {f : Addr} {fd : FuncData} (F : Fun K "_law_take" "_law_take" s_law_take f fd) : FnG P w K mg base CX0 1 f fd ["_law_box_here", "_law_size"] spTake := by
  refine okG F sc_law_take (fun vs H Q E h => ?_) (fun cdv A outer s H vs Q E hc hr h => ?_)
  · obtain ⟨p, n, rfl, _⟩ := h
    rfl
  obtain ⟨p, n, rfl, ⟨a, b, c, hp, b0, b1⟩, n0, n1, k⟩ := h
  refine ⟨_, (pss_cons (ps_if (pt_cmpR op_gt (pe_ix ix_list (pv 0) pe_int (fun _ _ => rfl)) pe_int (nomark _))
  (pss_cons (ps_set (i := 2) sc_law_take.nd rfl (Or.inl rfl) (pe_op op_mod (pe_ix ix_list (pv 0) pe_int (fun _ _ => rfl)) (pv 1)))
 (pss_cons (ps_asg (pe_op op_fdivW (pe_ix ix_list (pv 0) pe_int (fun _ _ => rfl)) (pv 1)) (pg_sub (pv 0) pe_int set_list))
 (pss_one (ps_ret (pv 2))))) pss_nil)
 (pss_cons (ps_asg (pe_op op_add (pe_ix ix_list (pv 0) pe_int (fun _ _ => rfl)) pe_int) (pg_sub (pv 0) pe_int set_list))
 (pss_cons (ps_set (i := 3) sc_law_take.nd rfl (Or.inl rfl) (pe_op op_mod (pe_op op_add (pe_op op_add (pe_op op_mul (pe_ix ix_list (pv 0) pe_int (fun _ _ => rfl)) pe_int) (pe_op op_mul pe_int (pe_ix ix_list (pv 0) pe_int (fun _ _ => rfl)))) pe_int) pe_int))
 (pss_cons (ps_asg (pe_op op_mod (pe_op op_add (pe_op op_pow (pv 3) pe_int) (pe_op op_mul pe_int (pe_ix ix_list (pv 0) pe_int (fun _ _ => rfl)))) pe_int) (pg_sub (pv 0) pe_int set_list))
 (pss_one (ps_ret (pe_op op_mod (pe_op op_fdivW (pe_ix ix_list (pv 0) pe_int (fun _ _ => rfl)) pe_int) (pv 1)))))))), ?_⟩
  refine ⟨_, rfl, p, _, _, _, rfl, rfl, SqL.of hp, atI_nat (j := 0) rfl, _, _, rfl, rfl, _, rfl, ?_⟩
  refine ite2 (fun ha => ?_) (fun ha => ?_)
  · refine ⟨_, rfl, p, _, _, _, rfl, rfl, SqL.of hp, atI_nat (j := 0) rfl, _, rfl, _, _, rfl, rfl, n0, ?_⟩
    refine ⟨_, rfl, p, _, _, _, rfl, rfl, SqL.of hp, atI_nat (j := 0) rfl, _, rfl, _, _, rfl, rfl, wide_div (b := 20) n0 (by omega) (by decide) (by decide), ?_⟩
    refine ⟨_, rfl, p, _, _, 0, rfl, rfl, hp, rfl, _, rfl, ?_⟩
    exact k _ _ (mod_pos n0).1 (mod_pos n0).2 (turned_upd b0 b1)
  · refine ⟨_, rfl, p, _, _, _, rfl, rfl, SqL.of hp, atI_nat (j := 2) rfl, _, _, rfl, rfl, ?_⟩
    refine ⟨_, rfl, p, _, _, 2, rfl, rfl, hp, rfl, ?_⟩
    have h1 : ∀ {z : V}, (upd H p (.lst ([V.int a, .int b, .int c].set 2 z))) p = some (.lst [.int a, .int b, z]) := upd_same
    refine ⟨_, rfl, p, _, _, _, rfl, rfl, SqL.of h1, atI_nat (j := 1) rfl, _, _, rfl, rfl, .inr ⟨by decide, by decide⟩, ?_⟩
    refine ⟨_, rfl, p, _, _, _, rfl, rfl, SqL.of h1, atI_nat (j := 2) rfl, _, _, rfl, rfl, .inl ⟨by decide, by decide⟩, _, _, rfl, rfl, _, _, rfl, rfl, _, _, rfl, rfl, (by show (0 : Int) < 2147483647; decide), ?_⟩
    have m0 := mod_pos (i := b * 48271 + 69621 * (c + 1) + 89) (j := 2147483647) (by decide)
    refine ⟨_, rfl, _, _, rfl, rfl, ⟨by decide, by decide, ?_⟩, ?_⟩
    · show ((b * 48271 + 69621 * (c + 1) + 89) % 2147483647).natAbs < 2 ^ 64
      omega
    refine ⟨_, rfl, p, _, _, _, rfl, rfl, SqL.of h1, atI_nat (j := 2) rfl, _, _, rfl, rfl, .inl ⟨by decide, by decide⟩, _, _, rfl, rfl, _, _, rfl, rfl, (by show (0 : Int) < 2147483647; decide), ?_⟩
    refine ⟨_, rfl, p, _, _, 1, rfl, rfl, h1, rfl, ?_⟩
    refine ⟨_, rfl, p, _, _, _, rfl, rfl, SqL.of upd_same, atI_nat (j := 1) rfl, _, _, rfl, rfl, wide_div (b := 5) (by decide) (by decide) (by decide) (by decide), _, rfl, _, _, rfl, rfl, n0, ?_⟩
    refine k _ _ (mod_pos n0).1 (mod_pos n0).2 ?_
    rw [upd_upd]
    exact turned_upd (mod_pos (by decide)).1 (mod_pos (by decide)).2
abbrev sis_integer : Stmt := top 4
theorem scis_integer : FnScope ["value"] ["value"] (defScope sis_integer) := ⟨rfl, rfl, rfl, by decide +kernel, rfl, by decide +kernel, by decide +kernel⟩
theorem ok_isint {f : Addr} {fd : FuncData} (F : Fun K "is_integer" "is_integer" sis_integer f fd) (T : Txt mg base) : FnG P w K mg base CX0 1 f fd ["value"] spIsInt := by
  refine okG F scis_integer (fun vs H Q E h => ?_) (fun cdv A outer s H vs Q E hc hr h => ?_)
  · obtain ⟨v, rfl, _⟩ := h
    rfl
  obtain ⟨v, rfl, hv, q⟩ := h
  refine ⟨_, (pss_one (ps_ret (pe_and (pe_callB call_isk (by rfl) T.z_isinstance (by decide +kernel) (pa_cons (pv 0) (pa_cons (pe_bltn (v := .ty "int") (by rfl) T.z_int (by decide +kernel) rfl) pa_nil))) (pe_one (pe_not (pe_callB call_isk (by rfl) T.z_isinstance (by decide +kernel) (pa_cons (pv 0) (pa_cons (pe_bltn (v := .ty "bool") (by rfl) T.z_bool (by decide +kernel) rfl) pa_nil)))))))), ?_⟩
  refine ⟨_, rfl, v, _, rfl, .inl rfl, hv, _, rfl, ?_⟩
  refine ite2 (fun c => ?_) (fun c => ?_)
  · refine ⟨_, rfl, v, _, rfl, .inr (.inr (.inl rfl)), hv, _, rfl, ?_⟩
    have e := isInt_kind H v
    rw [c, Bool.true_and] at e
    show Q (.bl (!inst "bool" (kind H v))) H
    rw [e]
    exact q
  · have e := isInt_kind H v
    rw [Bool.eq_false_iff.mpr c, Bool.false_and] at e
    show Q (.bl false) H
    rw [e]
    exact q
abbrev sis_list : Stmt := top 5
theorem scis_list : FnScope ["value"] ["value"] (defScope sis_list) := ⟨rfl, rfl, rfl, by decide +kernel, rfl, by decide +kernel, by decide +kernel⟩
theorem ok_islist {f : Addr} {fd : FuncData} (F : Fun K "is_list" "is_list" sis_list f fd) (T : Txt mg base) : FnG P w K mg base CX0 1 f fd ["value"] spIsList := by
  refine okG F scis_list (fun vs H Q E h => ?_) (fun cdv A outer s H vs Q E hc hr h => ?_)
  · obtain ⟨b, p, xs, rfl, _⟩ := h
    rfl
  obtain ⟨b, p, xs, rfl, hb, q⟩ := h
  refine ⟨_, (pss_one (ps_ret (pe_callB call_isk2 (by rfl) T.z_isinstance (by decide +kernel) (pa_cons (pv 0) (pa_cons (pe_tup (pa_cons (pe_bltn (v := .ty "list") (by rfl) T.z_list (by decide +kernel) rfl) (pa_cons (pe_bltn (v := .ty "tuple") (by rfl) T.z_tuple (by decide +kernel) rfl) pa_nil))) pa_nil))))), ?_⟩
  refine ⟨_, rfl, by show 2 ≤ sizeLine; decide, fun t ht => ?_⟩
  have s1 : Same H (upd H t (.tup [.ty "list", .ty "tuple"])) := upd_new ht
  obtain ⟨k1, k2⟩ := so_kind (s1 _ _ hb)
  refine ⟨.ref p, t, "list", "tuple", rfl, upd_same, .inr (.inr (.inr (.inl rfl))), .inr (.inr (.inr (.inr (.inl rfl)))), k1, ?_⟩
  rw [k2]
  exact q _ s1
abbrev sis_index : Stmt := top 6
theorem scis_index : FnScope ["value", "size"] ["value", "size"] (defScope sis_index) := ⟨rfl, rfl, rfl, by decide +kernel, rfl, by decide +kernel, by decide +kernel⟩
theorem ok_isindex {f f1 : Addr} {fd fd1 : FuncData} (F : Fun K "is_index" "is_index" sis_index f fd) (T : Txt mg base)
    (D_is_integer : Df P w K mg base CX0 1 "is_integer" f1 fd1 ["value"] spIsInt) : FnG P w K mg base CX0 2 f fd ["value", "size"] spIsIndex := by
  refine okG F scis_index (fun vs H Q E h => ?_) (fun cdv A outer s H vs Q E hc hr h => ?_)
  · obtain ⟨i, n, rfl, _⟩ := h
    rfl
  obtain ⟨i, n, rfl, h0, h1, q⟩ := h
  refine ⟨_, (pss_one (ps_ret (pe_and (pe_d D_is_integer hc (hr.mono (by decide)) (by rfl) (fun _ => passN) (pa_cons (pv 0) pa_nil)) (pe_one (pe_chain op_le op_lt pe_int (pv 0) (pv 1)))))), ?_⟩
  refine ⟨_, rfl, .int i, rfl, (fun z => nomatch z), _, rfl, iteT ?_⟩
  refine ⟨_, rfl, _, _, rfl, rfl, _, rfl, ?_⟩
  rw [decide_eq_true h0]
  refine iteT ⟨_, rfl, _, _, rfl, rfl, ?_⟩
  show Q (.bl (decide (i < n))) H
  rw [decide_eq_true h1]
  exact q
abbrev sis_cost : Stmt := top 9
theorem scis_cost : FnScope ["value"] ["value"] (defScope sis_cost) := ⟨rfl, rfl, rfl, by decide +kernel, rfl, by decide +kernel, by decide +kernel⟩
theorem ok_iscost {f f1 : Addr} {fd fd1 : FuncData} (F : Fun K "is_cost" "is_cost" sis_cost f fd) (T : Txt mg base)
    (D_is_integer : Df P w K mg base CX0 1 "is_integer" f1 fd1 ["value"] spIsInt) : FnG P w K mg base CX0 2 f fd ["value"] spIsCost := by
  refine okG F scis_cost (fun vs H Q E h => ?_) (fun cdv A outer s H vs Q E hc hr h => ?_)
  · obtain ⟨v, rfl, _⟩ := h
    rfl
  obtain ⟨v, rfl, hv, q⟩ := h
  refine ⟨_, (pss_one (ps_ret (pe_or (pe_cmpR op_isN (pv 0) pe_non (nomark _)) (pe_one (pe_and (pe_d D_is_integer hc (hr.mono (by decide)) (by rfl) (fun _ => passN) (pa_cons (pv 0) pa_nil)) (pe_one (pe_cmpR op_ge (pv 0) pe_int (nomark _)))))))), ?_⟩
  refine ⟨_, rfl, rfl, _, rfl, ?_⟩
  rcases hv with rfl | ⟨i, rfl, h0⟩
  · exact iteT q
  · refine iteF ⟨_, rfl, .int i, rfl, (fun z => nomatch z), _, rfl, iteT ⟨_, rfl, _, _, rfl, rfl, ?_⟩⟩
    show Q (.bl (decide (0 ≤ i))) H
    rw [decide_eq_true h0]
    exact q
abbrev scost_sum : Stmt := top 10
theorem sccost_sum : FnScope ["cost", "other"] ["cost", "other"] (defScope scost_sum) := ⟨rfl, rfl, rfl, by decide +kernel, rfl, by decide +kernel, by decide +kernel⟩
theorem ok_costsum {f : Addr} {fd : FuncData} (F : Fun K "cost_sum" "cost_sum" scost_sum f fd) (T : Txt mg base) : FnG P w K mg base CX0 1 f fd ["cost", "other"] spSum := by
  refine okG F sccost_sum (fun vs H Q E h => ?_) (fun cdv A outer s H vs Q E hc hr h => ?_)
  · obtain ⟨v, u, rfl, _⟩ := h
    rfl
  obtain ⟨v, u, rfl, hv, hu, q⟩ := h
  refine ⟨_, (pss_cons (ps_if (PW.pt (pw_or (pt_cmpR op_isN (pv 0) pe_non (nomark _)) (pw_or1 (pt_cmpR op_isN (pv 1) pe_non (nomark _)))))
  (pss_one (ps_ret pe_non)) pss_nil)
 (pss_one (ps_ret (pe_op op_add (pv 0) (pv 1))))), ?_⟩
  refine ⟨_, rfl, rfl, _, rfl, ?_⟩
  rcases hv with rfl | ⟨i, rfl, _⟩
  · exact iteT q
  · refine iteF ⟨_, rfl, rfl, _, rfl, ?_⟩
    rcases hu with rfl | ⟨j, rfl, _⟩
    · exact iteT q
    · exact iteF ⟨_, rfl, _, rfl, _, _, rfl, rfl, q⟩
abbrev sshape_item : Stmt := top 24
theorem scshape_item : FnScope ["cost"] ["cost"] (defScope sshape_item) := ⟨rfl, rfl, rfl, by decide +kernel, rfl, by decide +kernel, by decide +kernel⟩
theorem ok_shapeitem {f : Addr} {fd : FuncData} (F : Fun K "shape_item" "shape_item" sshape_item f fd) (T : Txt mg base) : FnG P w K mg base CX0 1 f fd ["cost"] spItem := by
  refine okG F scshape_item (fun vs H Q E h => ?_) (fun cdv A outer s H vs Q E hc hr h => ?_)
  · obtain ⟨v, rfl, _⟩ := h
    rfl
  obtain ⟨v, rfl, hv, q⟩ := h
  refine ⟨_, (pss_cons (ps_if (pt_cmpR op_isN (pv 0) pe_non (nomark _))
  (pss_one (ps_ret (pe_k (by rfl) T.g_NEVER))) pss_nil)
 (pss_one (ps_ret (pe_ifExp (pt_cmpR op_gt (pv 0) pe_int (nomark _)) (pe_k (by rfl) T.g_SOME) (pe_k (by rfl) T.g_FREE))))), ?_⟩
  refine ⟨_, rfl, rfl, _, rfl, ?_⟩
  rcases hv with rfl | ⟨i, rfl, _⟩
  · exact iteT q
  · refine iteF ⟨_, rfl, _, _, rfl, rfl, _, rfl, ?_⟩
    have e : itemC (.int i) = .int (if 0 < i then 1 else 0) := rfl
    rw [e] at q
    by_cases c : (0 < i)
    · rw [if_pos c] at q
      rw [decide_eq_true c]
      exact iteT q
    · rw [if_neg c] at q
      rw [decide_eq_false c]
      exact iteF q
end
end KM

namespace KM
open PySem L2 Gd Zn
def spGrid : Sp := fun vs H Q _ => ∃ x xss, ∃ n : Nat, vs = [x, V.int (xss : List (List V)).length, V.int n] ∧ MAt H x xss ∧ xss.length ≤ 12 ∧ (∀ xs ∈ xss, xs.length = n) ∧ ∀ H', Same H H' → Q (.bl true) H'
def spSquare : Sp := fun vs H Q _ => ∃ x xss n, vs = [x] ∧ MAt H x xss ∧ Sqr n xss ∧ n ≤ 12 ∧ ∀ H', Same H H' → Q (.bl true) H'
def spIs (It : V → Prop) : Sp := fun vs H Q _ => ∃ x xss n, vs = [x] ∧ MAt H x xss ∧ Sqr n xss ∧ n ≤ 12 ∧ (∀ xs ∈ xss, ∀ v ∈ xs, It v) ∧ ∀ H', Same H H' → Q (.bl true) H'
def spReq (It : V → Prop) : Sp := fun vs H Q _ => ∃ x xss n, vs = [x] ∧ MAt H x xss ∧ Sqr n xss ∧ n ≤ 12 ∧ (∀ xs ∈ xss, ∀ v ∈ xs, It v) ∧ ∀ H', Same H H' → Q .non H'
/-- an item of a shape -/
def ShI (v : V) : Prop := ∃ i : Int, v = .int i ∧ 0 ≤ i ∧ i < 4
def spSize : Sp := fun vs H Q _ => ∃ x y xss yss, vs = [x, y] ∧ MAt H x xss ∧ MAt H y yss ∧ xss.length = yss.length ∧ Q .non H
section
variable {P : Program} {w : World} {K : PySem.W.Frag} {mg : Str → Option Value} {base : Heap}
abbrev sis_grid : Stmt := top 7
theorem scis_grid : FnScope ["value", "height", "width", "row"] ["value", "height", "width"] (defScope sis_grid) := ⟨rfl, rfl, rfl, by decide +kernel, rfl, by decide +kernel, by decide +kernel⟩
theorem ok_grid {f f1 : Addr} {fd fd1 : FuncData} (F : Fun K "is_grid" "is_grid" sis_grid f fd) (T : Txt mg base)
    (D_is_list : Df P w K mg base CX0 1 "is_list" f1 fd1 ["value"] spIsList) : FnG P w K mg base CX0 2 f fd ["value", "height", "width"] spGrid := by
  refine okG F scis_grid (fun vs H Q E h => ?_) (fun cdv A outer s H vs Q E hc hr h => ?_)
  · obtain ⟨x, xss, n, rfl, _⟩ := h
    rfl
  obtain ⟨x, xss, n, rfl, hm, hz, hn, q⟩ := h
  refine ⟨_, (pss_cons (ps_if (PW.pt (pw_or (pt_not (pt_val (pe_d D_is_list hc (hr.mono (by decide)) (by rfl) (fun _ => passN) (pa_cons (pv 0) pa_nil)))) (pw_or1 (pt_cmpR op_ne (pe_callB call_len_seq (by rfl) T.z_len (by decide +kernel) (pa_cons (pv 0) pa_nil)) (pv 1) (nomark _)))))
  (pss_one (ps_ret pe_bl)) pss_nil)
 (pss_one (ps_ret (pe_callB (cr_all rfl) (by rfl) T.z_all (by decide +kernel) (pa_cons (pe_lc (own := [("row", 3)]) (g := gName 3) rfl scis_grid.nd (pi_sq (pv 0)) (blkOk_by (N := ["value", "height", "width", "row"]) (sc := defScope sis_grid) (by decide +kernel)) (fun _ _ _ _ _ => pg_name (i := 3) scis_grid.nd rfl (Or.inl rfl)) (fun _ _ _ _ _ => pts_nil) (fun _ _ _ _ _ => (pe_and (pe_d D_is_list hc (hr.mono (by decide)) (by rfl) (fun _ => passN) (pa_cons (pv 3) pa_nil)) (pe_one (pe_cmpR op_eq (pe_callB (call_lenK (K := K) rfl) (by rfl) T.z_len (by decide +kernel) (pa_cons (pv 3) pa_nil)) (pv 2) (nomark _)))))) pa_nil))))), ?_⟩
  obtain ⟨b, p, bs, rfl, hp, hr2⟩ := hm
  have hl := hr2.len
  have s12 : 12 < sizeLine := by decide
  refine ⟨_, rfl, b, p, _, rfl, hp, fun H1 s1 => ⟨_, rfl, iteF ?_⟩⟩
  refine ⟨_, rfl, p, _, rfl, so_any (s1 _ _ hp), _, rfl, rfl, _, rfl, ?_⟩
  rw [List.length_map, hl]
  refine iteB (fun c => absurd c (by simp)) fun _ => ?_
  refine ⟨_, rfl, b, p, _, rfl, so_sq (s1 _ _ hp), fun D hD => ?_⟩
  refine lc_it walk_sq (fun i H' => Vls H1 D ((xss.take i).map fun _ => V.bl true) H') (Vls.nil hD) (fun i H' _ v => so_sq (v.same _ _ (s1 _ _ hp))) ?_ ?_
  · rintro i x H2 _ hi v ⟨rfl, hx⟩
    obtain ⟨b', p', xs, rfl, hxs, hat⟩ := hr2.get hx
    have hat2 := v.same _ _ (s1 _ _ hat)
    refine ⟨rfl, yes_go ?_⟩
    refine ⟨_, rfl, b', p', _, rfl, hat2, fun H3 s3 => ⟨_, rfl, iteT ?_⟩⟩
    refine ⟨_, rfl, p', _, rfl, so_any (s3 _ _ hat2), _, rfl, rfl, ?_⟩
    rw [hn xs (List.mem_of_getElem? hxs), take_succ hxs, List.map_append]
    have := (v.ext s3).add (y := V.bl true) (by rw [List.length_map, List.length_take]; omega)
    simpa using this
  · intro H2 v
    rw [List.length_map, hl, List.take_length] at v
    refine ⟨D, xss.map fun _ => true, rfl, SqL.of (by rw [List.map_map]; exact v.at_), ?_⟩
    have : (xss.map fun _ => true).all id = true := by simp
    first
      | (rw [this]; exact q _ (s1.trans v.same))
      | (simp; exact q _ (s1.trans v.same))
abbrev sis_square : Stmt := top 16
theorem scis_square : FnScope ["value"] ["value"] (defScope sis_square) := ⟨rfl, rfl, rfl, by decide +kernel, rfl, by decide +kernel, by decide +kernel⟩
theorem ok_square {f f1 f2 : Addr} {fd fd1 fd2 : FuncData} (F : Fun K "is_square" "is_square" sis_square f fd) (T : Txt mg base)
    (D_is_list : Df P w K mg base CX0 1 "is_list" f1 fd1 ["value"] spIsList) (D_is_grid : Df P w K mg base CX0 2 "is_grid" f2 fd2 ["value", "height", "width"] spGrid) : FnG P w K mg base CX0 3 f fd ["value"] spSquare := by
  refine okG F scis_square (fun vs H Q E h => ?_) (fun cdv A outer s H vs Q E hc hr h => ?_)
  · obtain ⟨x, xss, n, rfl, _⟩ := h
    rfl
  obtain ⟨x, xss, n, rfl, hm, hn, hz, q⟩ := h
  refine ⟨_, (pss_one (ps_ret (pe_and (pe_d D_is_list hc (hr.mono (by decide)) (by rfl) (fun _ => passN) (pa_cons (pv 0) pa_nil)) (pe_one (pe_d D_is_grid hc (hr.mono (by decide)) (by rfl) (fun _ => passN) (pa_cons (pv 0) (pa_cons (pe_callB call_len_seq (by rfl) T.z_len (by decide +kernel) (pa_cons (pv 0) pa_nil)) (pa_cons (pe_callB call_len_seq (by rfl) T.z_len (by decide +kernel) (pa_cons (pv 0) pa_nil)) pa_nil)))))))), ?_⟩
  obtain ⟨b, p, bs, rfl, hp, hr2⟩ := id hm
  have hl := hr2.len
  refine ⟨_, rfl, b, p, _, rfl, hp, fun H1 s1 => ⟨_, rfl, iteT ?_⟩⟩
  refine ⟨_, rfl, _, rfl, p, _, rfl, so_any (s1 _ _ hp), _, rfl, p, _, rfl, so_any (s1 _ _ hp), ?_⟩
  refine ⟨.ref p, xss, n, by rw [List.length_map, hl, hn.1] <;> rfl, hm.same s1, by rw [hn.1]; exact hz, hn.2, fun H2 s2 => q H2 (s1.trans s2)⟩
abbrev srequire_same_size : Stmt := top 20
theorem screquire_same_size : FnScope ["one", "other"] ["one", "other"] (defScope srequire_same_size) := ⟨rfl, rfl, rfl, by decide +kernel, rfl, by decide +kernel, by decide +kernel⟩
theorem ok_size {f : Addr} {fd : FuncData} (F : Fun K "require_same_size" "require_same_size" srequire_same_size f fd) (T : Txt mg base) : FnG P w K mg base CX0 1 f fd ["one", "other"] spSize := by
  refine okG F screquire_same_size (fun vs H Q E h => ?_) (fun cdv A outer s H vs Q E hc hr h => ?_)
  · obtain ⟨x, y, xss, yss, rfl, _⟩ := h
    rfl
  obtain ⟨x, y, xss, yss, rfl, hm, hm2, e, q⟩ := h
  refine ⟨_, (pss_one (ps_if (pt_cmpR op_ne (pe_callB call_len_seq (by rfl) T.z_len (by decide +kernel) (pa_cons (pv 0) pa_nil)) (pe_callB call_len_seq (by rfl) T.z_len (by decide +kernel) (pa_cons (pv 1) pa_nil)) (nomark _))
  (pss_one ps_never) pss_nil)), ?_⟩
  obtain ⟨b, p, bs, rfl, hp, hr1⟩ := hm
  obtain ⟨b2, p2, bs2, rfl, hp2, hr2⟩ := hm2
  refine ⟨_, rfl, p, _, rfl, so_any hp, _, rfl, p2, _, rfl, so_any hp2, rfl, _, rfl, ?_⟩
  rw [List.length_map, List.length_map, hr1.len, hr2.len, e]
  exact iteB (fun c => absurd c (by simp)) fun _ => q
abbrev srequire_cost_matrix : Stmt := top 17
theorem screquire_cost_matrix : FnScope ["value", "row", "item"] ["value"] (defScope srequire_cost_matrix) := ⟨rfl, rfl, rfl, by decide +kernel, rfl, by decide +kernel, by decide +kernel⟩
theorem ok_reqC {f f1 f2 : Addr} {fd fd1 fd2 : FuncData} (F : Fun K "require_cost_matrix" "require_cost_matrix" srequire_cost_matrix f fd) (T : Txt mg base)
    (D_is_square : Df P w K mg base CX0 3 "is_square" f1 fd1 ["value"] spSquare) (D_is_cost : Df P w K mg base CX0 2 "is_cost" f2 fd2 ["value"] spIsCost) : FnG P w K mg base CX0 4 f fd ["value"] (spReq Cost) := by
  refine okG F screquire_cost_matrix (fun vs H Q E h => ?_) (fun cdv A outer s H vs Q E hc hr h => ?_)
  · obtain ⟨x, xss, n, rfl, _⟩ := h
    rfl
  obtain ⟨x, xss, n, rfl, hm, hn, hz, hi, q⟩ := h
  refine ⟨_, (pss_one (ps_if (PW.pt (pw_or (pt_not (pt_val (pe_d D_is_square hc (hr.mono (by decide)) (by rfl) (fun _ => passN) (pa_cons (pv 0) pa_nil)))) (pw_or1 (pt_not (pt_val (pe_callB (cr_all rfl) (by rfl) T.z_all (by decide +kernel) (pa_cons (pe_lc2 (own := [("row", 1), ("item", 2)]) (vs1 := [2]) (g := gName 1) (g1 := gName 2) rfl screquire_cost_matrix.nd (pi_sq (pv 0)) (blkOk_by (N := ["value", "row", "item"]) (sc := defScope srequire_cost_matrix) (by decide +kernel)) (by decide) (fun _ _ _ _ _ => pg_name (i := 1) screquire_cost_matrix.nd rfl (Or.inl rfl)) (fun _ _ _ _ _ => pts_nil) (fun _ _ _ _ _ => (pi_sqK (K := K) rfl (pv 1))) (fun _ _ _ _ _ => pg_name (i := 2) screquire_cost_matrix.nd rfl (Or.inl rfl)) (fun _ _ _ _ _ => pts_nil) (fun _ _ _ _ _ => (pe_d D_is_cost hc (hr.mono (by decide)) (by rfl) (fun _ => passN) (pa_cons (pv 2) pa_nil)))) pa_nil)))))))
  (pss_one ps_never) pss_nil)), ?_⟩
  obtain ⟨b, p, bs, rfl, hp, hr2⟩ := id hm
  refine ⟨_, rfl, .ref p, xss, n, rfl, hm, hn, hz, fun H1 s1 => ⟨_, rfl, iteF ?_⟩⟩
  refine ⟨_, rfl, b, p, _, rfl, so_sq (s1 _ _ hp), fun D hD => ?_⟩
  have hl := hr2.len
  have s144 : 1000 < sizeLine := by decide
  refine out_it walk_sq (fun i H' => ∃ k, Vls H1 D (List.replicate k (V.bl true)) H' ∧ k ≤ 12 * i) ⟨0, Vls.nil hD, Nat.le_refl _⟩ (fun i H' _ ⟨k, v, _⟩ => so_sq (v.same _ _ (s1 _ _ hp))) ?_ ?_
  · rintro i x H2 _ hlt ⟨k, v, hk⟩ ⟨rfl, hx⟩
    obtain ⟨b', p', xs, rfl, hxs, hat⟩ := hr2.get hx
    have mx := List.mem_of_getElem? hxs
    have hi12 : i < 12 := by
      have : (bs.map fun q => V.ref q.2).length = n := by rw [List.length_map, hl, hn.1]
      omega
    refine ⟨rfl, yes_go ⟨_, rfl, b', p', xs, rfl, so_sq (v.same _ _ (s1 _ _ hat)), ?_⟩⟩
    refine out_it walk_sq (fun j H' => ∃ k', Vls H1 D (List.replicate k' (V.bl true)) H' ∧ k' ≤ 12 * i + j) ⟨k, v, hk⟩ (fun j H' _ ⟨k', v', _⟩ => so_sq (v'.same _ _ (s1 _ _ hat))) ?_ ?_
    · rintro j y H3 _ hj ⟨k', v', hk'⟩ ⟨rfl, hy⟩
      have e12 := hn.2 xs mx
      refine ⟨rfl, yes_go ⟨_, rfl, y, rfl, hi xs mx y (List.mem_of_getElem? hy), ?_⟩⟩
      obtain ⟨acc, a1, a2, a3⟩ := v'.add (y := V.bl true) (by rw [List.length_replicate]; omega)
      exact ⟨acc, a1, a2, k' + 1, by rw [List.replicate_succ']; exact a3, by omega⟩
    · rintro H3 ⟨k', v', hk'⟩
      have e12 := hn.2 xs mx
      exact ⟨k', v', by omega⟩
  · rintro H2 ⟨k, v, _⟩
    refine ⟨D, List.replicate k true, rfl, SqL.of (by rw [List.map_replicate]; exact v.at_), ?_⟩
    have e : (List.replicate k true).all id = true := by
      induction k with
      | zero => rfl
      | succ k ih => simp
    have fin : Q .non H2 := q _ (s1.trans v.same)
    have e2 : (List.replicate k true).all (fun x => x) = true := by simp
    refine ⟨_, rfl, ?_⟩
    simp
    exact fin
abbrev sis_shape : Stmt := top 18
theorem scis_shape : FnScope ["value", "row", "item"] ["value"] (defScope sis_shape) := ⟨rfl, rfl, rfl, by decide +kernel, rfl, by decide +kernel, by decide +kernel⟩
theorem ok_isS {f f1 f2 : Addr} {fd fd1 fd2 : FuncData} (F : Fun K "is_shape" "is_shape" sis_shape f fd) (T : Txt mg base)
    (D_is_square : Df P w K mg base CX0 3 "is_square" f1 fd1 ["value"] spSquare) (D_is_index : Df P w K mg base CX0 2 "is_index" f2 fd2 ["value", "size"] spIsIndex) : FnG P w K mg base CX0 4 f fd ["value"] (spIs ShI) := by
  refine okG F scis_shape (fun vs H Q E h => ?_) (fun cdv A outer s H vs Q E hc hr h => ?_)
  · obtain ⟨x, xss, n, rfl, _⟩ := h
    rfl
  obtain ⟨x, xss, n, rfl, hm, hn, hz, hi, q⟩ := h
  refine ⟨_, (pss_one (ps_ret (pe_and (pe_d D_is_square hc (hr.mono (by decide)) (by rfl) (fun _ => passN) (pa_cons (pv 0) pa_nil)) (pe_one (pe_callB (cr_all rfl) (by rfl) T.z_all (by decide +kernel) (pa_cons (pe_lc2 (own := [("row", 1), ("item", 2)]) (vs1 := [2]) (g := gName 1) (g1 := gName 2) rfl scis_shape.nd (pi_sq (pv 0)) (blkOk_by (N := ["value", "row", "item"]) (sc := defScope sis_shape) (by decide +kernel)) (by decide) (fun _ _ _ _ _ => pg_name (i := 1) scis_shape.nd rfl (Or.inl rfl)) (fun _ _ _ _ _ => pts_nil) (fun _ _ _ _ _ => (pi_sqK (K := K) rfl (pv 1))) (fun _ _ _ _ _ => pg_name (i := 2) scis_shape.nd rfl (Or.inl rfl)) (fun _ _ _ _ _ => pts_nil) (fun _ _ _ _ _ => (pe_d D_is_index hc (hr.mono (by decide)) (by rfl) (fun _ => passN) (pa_cons (pv 2) (pa_cons (pe_op op_add (pe_k (by rfl) T.g_NEVER) pe_int) pa_nil))))) pa_nil)))))), ?_⟩
  obtain ⟨b, p, bs, rfl, hp, hr2⟩ := id hm
  refine ⟨_, rfl, .ref p, xss, n, rfl, hm, hn, hz, fun H1 s1 => ⟨_, rfl, iteT ?_⟩⟩
  refine ⟨_, rfl, b, p, _, rfl, so_sq (s1 _ _ hp), fun D hD => ?_⟩
  have hl := hr2.len
  have s144 : 1000 < sizeLine := by decide
  refine out_it walk_sq (fun i H' => ∃ k, Vls H1 D (List.replicate k (V.bl true)) H' ∧ k ≤ 12 * i) ⟨0, Vls.nil hD, Nat.le_refl _⟩ (fun i H' _ ⟨k, v, _⟩ => so_sq (v.same _ _ (s1 _ _ hp))) ?_ ?_
  · rintro i x H2 _ hlt ⟨k, v, hk⟩ ⟨rfl, hx⟩
    obtain ⟨b', p', xs, rfl, hxs, hat⟩ := hr2.get hx
    have mx := List.mem_of_getElem? hxs
    have hi12 : i < 12 := by
      have : (bs.map fun q => V.ref q.2).length = n := by rw [List.length_map, hl, hn.1]
      omega
    refine ⟨rfl, yes_go ⟨_, rfl, b', p', xs, rfl, so_sq (v.same _ _ (s1 _ _ hat)), ?_⟩⟩
    refine out_it walk_sq (fun j H' => ∃ k', Vls H1 D (List.replicate k' (V.bl true)) H' ∧ k' ≤ 12 * i + j) ⟨k, v, hk⟩ (fun j H' _ ⟨k', v', _⟩ => so_sq (v'.same _ _ (s1 _ _ hat))) ?_ ?_
    · rintro j y H3 _ hj ⟨k', v', hk'⟩ ⟨rfl, hy⟩
      have e12 := hn.2 xs mx
      obtain ⟨z, rfl, z0, z4⟩ := hi xs mx y (List.mem_of_getElem? hy)
      refine ⟨rfl, yes_go ⟨_, rfl, _, _, rfl, rfl, z, 4, rfl, z0, z4, ?_⟩⟩
      obtain ⟨acc, a1, a2, a3⟩ := v'.add (y := V.bl true) (by rw [List.length_replicate]; omega)
      exact ⟨acc, a1, a2, k' + 1, by rw [List.replicate_succ']; exact a3, by omega⟩
    · rintro H3 ⟨k', v', hk'⟩
      have e12 := hn.2 xs mx
      exact ⟨k', v', by omega⟩
  · rintro H2 ⟨k, v, _⟩
    refine ⟨D, List.replicate k true, rfl, SqL.of (by rw [List.map_replicate]; exact v.at_), ?_⟩
    have e : (List.replicate k true).all id = true := by
      induction k with
      | zero => rfl
      | succ k ih => simp
    rw [e]
    exact q _ (s1.trans v.same)
abbrev srequire_shape : Stmt := top 19
theorem screquire_shape : FnScope ["value"] ["value"] (defScope srequire_shape) := ⟨rfl, rfl, rfl, by decide +kernel, rfl, by decide +kernel, by decide +kernel⟩
theorem ok_reqS {f f1 : Addr} {fd fd1 : FuncData} (F : Fun K "require_shape" "require_shape" srequire_shape f fd) (T : Txt mg base)
    (D_is_shape : Df P w K mg base CX0 4 "is_shape" f1 fd1 ["value"] (spIs ShI)) : FnG P w K mg base CX0 5 f fd ["value"] (spReq ShI) := by
  refine okG F screquire_shape (fun vs H Q E h => ?_) (fun cdv A outer s H vs Q E hc hr h => ?_)
  · obtain ⟨x, xss, n, rfl, _⟩ := h
    rfl
  obtain ⟨x, xss, n, rfl, hm, hn, hz, hi, q⟩ := h
  refine ⟨_, (pss_one (ps_if (pt_not (pt_val (pe_d D_is_shape hc (hr.mono (by decide)) (by rfl) (fun _ => passN) (pa_cons (pv 0) pa_nil))))
  (pss_one ps_never) pss_nil)), ?_⟩
  exact ⟨_, rfl, x, xss, n, rfl, hm, hn, hz, hi, fun H1 s1 => ⟨_, rfl, iteB (fun c => absurd c (by decide)) (fun _ => q H1 s1)⟩⟩
end
end KM

namespace KM
open PySem L2 Gd Zn
theorem Col.eq {i : Nat} {xss : List (List V)} {vs : List V} (c : Col i xss vs) : vs = xss.map fun xs => xs.getD i .non := by
  induction c with
  | nil => rfl
  | cons e _ ih => rw [List.map_cons, ← ih, List.getD_eq_getElem?_getD, e] <;> rfl
theorem walk_zip {K : PySem.W.Frag} {bs : Bs} {xss : List (List V)} {n : Nat} (hn : ∀ xs ∈ xss, xs.length = n) (h0 : xss = [] → n = 0) : Walk (ItzN K bs) n (fun H => Rws K H bs xss) (fun i H v H' => ∃ T vs, v = .ref T ∧ H T = none ∧ H' = upd H T (.tup vs) ∧ Col i xss vs) := by
  refine ⟨fun i H hi r => ⟨xss, r, fun e => ?_, fun xs hx => by rw [hn xs hx]; exact hi⟩, fun H r => ?_, fun i H x H' hi r ⟨T, vs, e1, e2, e3, e4⟩ => ⟨T, vs, e1, e2, e3, e4 xss r⟩⟩
  · subst e
    cases r
    rw [h0 rfl] at hi
    exact Nat.not_lt_zero _ hi
  · cases r with
    | nil => exact .inl rfl
    | @cons q xs bs xss a r => exact .inr ⟨q, xs, rfl, a, by rw [hn xs List.mem_cons_self]; exact Nat.le_refl _⟩
/-- rows and columns exchanged -/
def trM (n : Nat) (xss : List (List V)) : List (List V) := (List.range n).map fun j => xss.map fun xs => xs.getD j .non
theorem trM_get {n i : Nat} {xss : List (List V)} (h : i < n) : (trM n xss)[i]? = some (xss.map fun xs => xs.getD i .non) := by
  unfold trM
  rw [List.getElem?_map, List.getElem?_range h]
  rfl
theorem trM_len {n : Nat} {xss : List (List V)} : (trM n xss).length = n := by
  unfold trM
  rw [List.length_map, List.length_range]
def spFlip : Sp := fun vs H Q _ => ∃ x xss n, vs = [x] ∧ MAt H x xss ∧ Sqr n xss ∧ n ≤ 12 ∧ ∀ v H', NewM H H' v (trM n xss) → Q v H'
/-- the integers among them -/
def intsOf : List V → List Int
  | [] => []
  | .int i :: l => i :: intsOf l
  | _ :: l => intsOf l
/-- the least, or None -/
def minL : List Int → V
  | [] => .non
  | a :: l => .int (l.foldl min a)
theorem fold_min : ∀ (l : List Int) (a : Int), l.foldl min a ∈ a :: l ∧ ∀ y ∈ a :: l, l.foldl min a ≤ y
  | [], a => ⟨List.mem_cons_self, fun y hy => by
      have : y = a := by simpa using hy
      rw [this]
      exact Int.le_refl _⟩
  | b :: l, a => by
    obtain ⟨h1, h2⟩ := fold_min l (min a b)
    refine ⟨?_, fun y hy => ?_⟩
    · show l.foldl min (min a b) ∈ a :: b :: l
      rcases List.mem_cons.mp h1 with e | e
      · rw [e]
        by_cases c : (a ≤ b)
        · rw [Int.min_eq_left c]; exact List.mem_cons_self
        · rw [Int.min_eq_right (by omega)]; exact List.mem_cons_of_mem _ List.mem_cons_self
      · exact List.mem_cons_of_mem _ (List.mem_cons_of_mem _ e)
    · show l.foldl min (min a b) ≤ y
      have m0 := h2 (min a b) List.mem_cons_self
      rcases List.mem_cons.mp hy with rfl | hy
      · exact Int.le_trans m0 (Int.min_le_left _ _)
      · rcases List.mem_cons.mp hy with rfl | hy
        · exact Int.le_trans m0 (Int.min_le_right _ _)
        · exact h2 y (List.mem_cons_of_mem _ hy)
theorem minL_is {ns : List Int} {m : Int} (h1 : m ∈ ns) (h2 : ∀ y ∈ ns, m ≤ y) : minL ns = .int m := by
  cases ns with
  | nil => exact absurd h1 List.not_mem_nil
  | cons a l =>
    obtain ⟨g1, g2⟩ := fold_min l a
    have := h2 _ g1
    have := g2 _ h1
    show V.int (l.foldl min a) = V.int m
    congr 1
    omega
def leastC (xs ys : List V) : V := minL (intsOf (List.zipWith plusC xs ys))
/-- the greater one of two items of shapes -/
def maxC : V → V → V
  | .int i, .int j => .int (if j > i then j else i)
  | _, _ => .non
def leastG (xs ys : List V) : V := minL (intsOf (List.zipWith maxC xs ys))
def spLeast (It : V → Prop) (f : List V → List V → V) (k : Nat) : Sp := fun vs H Q _ => ∃ b p b2 p2 xs ys, vs = [V.ref p, V.ref p2] ∧ H p = some (so b xs) ∧ H p2 = some (so b2 ys) ∧ xs.length = ys.length ∧ xs.length ≤ 12 ∧ k ≤ xs.length ∧ (∀ v ∈ xs, It v) ∧ (∀ v ∈ ys, It v) ∧ ∀ H', Same H H' → Q (f xs ys) H'
theorem intsOf_filter : ∀ {l : List V}, (∀ v ∈ l, Cost v) → (l.filter fun v => decide (v ≠ .non)) = (intsOf l).map V.int
  | [], _ => rfl
  | v :: l, h => by
    have ih := intsOf_filter fun u hu => h u (List.mem_cons_of_mem _ hu)
    rcases h v List.mem_cons_self with rfl | ⟨i, rfl, _⟩
    · rw [List.filter_cons_of_neg (by simp), ih]
      rfl
    · rw [List.filter_cons_of_pos (by simp), ih]
      rfl
theorem plus_cost {v u : V} (h1 : Cost v) (h2 : Cost u) : Cost (plusC v u) := by
  rcases h1 with rfl | ⟨i, rfl, hi⟩
  · exact .inl rfl
  · rcases h2 with rfl | ⟨j, rfl, hj⟩
    · exact .inl rfl
    · exact .inr ⟨i + j, rfl, by omega⟩
theorem zip_get {f : V → V → V} {xs ys : List V} {i : Nat} {x y : V} (h1 : xs[i]? = some x) (h2 : ys[i]? = some y) : (List.zipWith f xs ys)[i]? = some (f x y) := by
  rw [List.getElem?_zipWith, h1, h2]
section
variable {P : Program} {w : World} {K : PySem.W.Frag} {mg : Str → Option Value} {base : Heap}
abbrev sflipped : Stmt := top 15
theorem scflipped : FnScope ["matrix", "line"] ["matrix"] (defScope sflipped) := ⟨rfl, rfl, rfl, by decide +kernel, rfl, by decide +kernel, by decide +kernel⟩
theorem ok_flipped {f : Addr} {fd : FuncData} (F : Fun K "flipped" "flipped" sflipped f fd) (T : Txt mg base) : FnG P w K mg base CX0 1 f fd ["matrix"] spFlip := by
  refine okG F scflipped (fun vs H Q E h => ?_) (fun cdv A outer s H vs Q E hc hr h => ?_)
  · obtain ⟨x, xss, n, rfl, _⟩ := h
    rfl
  obtain ⟨x, xss, n, rfl, hm, hn, hz, q⟩ := h
  refine ⟨_, (pss_one (ps_ret (pe_lc (own := [("line", 1)]) (g := gName 1) rfl scflipped.nd (pi_zipS (by rfl) T.z_zip (pv 0)) (blkOk_by (N := ["matrix", "line"]) (sc := defScope sflipped) (by decide +kernel)) (fun _ _ _ _ _ => pg_name (i := 1) scflipped.nd rfl (Or.inl rfl)) (fun _ _ _ _ _ => pts_nil) (fun _ _ _ _ _ => (pe_callTy (call_listK (K := K) rfl) (by rfl) T.z_list (by decide +kernel) (pa_cons (pv 1) pa_nil)))))), ?_⟩
  obtain ⟨b, p, bs, rfl, hp, hr2⟩ := hm
  have hl := hr2.len
  have s12 : 12 < sizeLine := by decide
  refine ⟨_, rfl, p, bs, xss, rfl, (so_sq hp).any, by rw [hl, hn.1]; exact hz, hr2.rws, fun D hD => ?_⟩
  refine lc_it (walk_zip (xss := xss) hn.2 (fun e => by rw [← hn.1, e]; rfl)) (fun i H' => Bld H D ((trM n xss).take i) H') (Bld.nil hD) (fun i H' _ v => (hr2.same v.same).rws) ?_ ?_
  · rintro i x H2 _ hi v ⟨T1, vs, rfl, hT, rfl, cv⟩
    refine ⟨rfl, yes_go ?_⟩
    refine ⟨_, rfl, T1, vs, rfl, .inr (SqT.of upd_same), fun l hl1 => ?_⟩
    have hl2 : H2 l = none := by
      by_cases e : (l = T1)
      · rw [e]; exact hT
      · rw [upd_ne e] at hl1; exact hl1
    rw [take_succ (trM_get (xss := xss) hi), ← Col.eq cv]
    exact v.add hl2 ((upd_new hT).trans (upd_new hl1)) upd_same (by rw [List.length_take, trM_len]; omega)
  · intro H2 v
    rw [List.take_of_length_le (by rw [trM_len]; exact Nat.le_refl _)] at v
    exact q _ _ ⟨D, rfl, v⟩
abbrev sleast_sum : Stmt := top 22
theorem scleast_sum : FnScope ["row", "column", "sums", "here", "there", "item"] ["row", "column"] (defScope sleast_sum) := ⟨rfl, rfl, rfl, by decide +kernel, rfl, by decide +kernel, by decide +kernel⟩
theorem ok_leastsum {f f1 : Addr} {fd fd1 : FuncData} (F : Fun K "least_sum" "least_sum" sleast_sum f fd) (T : Txt mg base)
    (D_cost_sum : Df P w K mg base CX0 1 "cost_sum" f1 fd1 ["cost", "other"] spSum) : FnG P w K mg base CX0 2 f fd ["row", "column"] (spLeast Cost leastC 0) := by
  refine okG F scleast_sum (fun vs H Q E h => ?_) (fun cdv A outer s H vs Q E hc hr h => ?_)
  · obtain ⟨b, p, b2, p2, xs, ys, rfl, _⟩ := h
    rfl
  obtain ⟨b, p, b2, p2, xs, ys, rfl, h1, h2, hl, hz, _, c1, c2, q⟩ := h
  refine ⟨_, (pss_cons (ps_setLc (i := 2) (own := [("here", 3), ("there", 4)]) (g := _) rfl scleast_sum.nd rfl rfl (sw_true rfl rfl rfl (by decide +kernel)) (pi_zipP (by rfl) T.z_zip (pa_cons (pv 0) (pa_cons (pv 1) pa_nil))) (blkOk_by (N := ["row", "column", "sums", "here", "there", "item"]) (sc := defScope sleast_sum) (by decide +kernel)) (fun _ _ _ _ _ => (pg_tupK (K := K) (n := 2) rfl rfl (pgs_cons (pg_name (i := 3) scleast_sum.nd rfl (Or.inl rfl)) (pgs_cons (pg_name (i := 4) scleast_sum.nd rfl (Or.inl rfl)) pgs_nil)))) (fun _ _ _ _ _ => pts_nil) (fun _ _ _ _ _ => (pe_d D_cost_sum hc (hr.mono (by decide)) (by rfl) (fun _ => passN) (pa_cons (pv 3) (pa_cons (pv 4) pa_nil)))))
 (pss_one (ps_ret (pe_callBK (cr_minD rfl) (by rfl) T.z_min (by decide +kernel) (pa_cons (pe_lc (own := [("item", 5)]) (g := gName 5) rfl scleast_sum.nd (pi_list (pv 2)) (blkOk_by (N := ["row", "column", "sums", "here", "there", "item"]) (sc := defScope sleast_sum) (by decide +kernel)) (fun _ _ _ _ _ => pg_name (i := 5) scleast_sum.nd rfl (Or.inl rfl)) (fun _ _ _ _ _ => (pts_one (pt_cmpR op_notN (pv 5) pe_non (nomark _)))) (fun _ _ _ _ _ => (pv 5))) pa_nil) (pk_cons pe_non pk_nil))))), ?_⟩
  have s12 : 12 < sizeLine := by decide
  refine ⟨_, rfl, _, rfl, (b, p), (b2, p2), xs, ys, rfl, so_sq h1, so_sq h2, fun D hD => ?_⟩
  have hw : ∀ zs ∈ [xs, ys], zs.length = xs.length := fun zs hz => by
    rcases List.mem_cons.mp hz with rfl | hz
    · rfl
    · obtain rfl : zs = ys := by simpa using hz
      exact hl.symm
  refine lc_it (walk_zip (bs := [(b, p), (b2, p2)]) hw (fun e => nomatch e)) (fun i H' => Vls H D ((List.zipWith plusC xs ys).take i) H') (Vls.nil hD) (fun i H' _ v => .cons (so_sq (v.same _ _ h1)) (.cons (so_sq (v.same _ _ h2)) .nil)) ?_ ?_
  · rintro i x H2 _ hi v ⟨T1, vs, rfl, hT, rfl, cv⟩
    cases cv with
    | @cons _ x1 _ _ e1 cv =>
      cases cv with
      | @cons _ x2 _ _ e2 cv =>
        cases cv
        refine ⟨T1, _, rfl, SqT.of upd_same, rfl, _, _, rfl, _, _, rfl, rfl, rfl, yes_go ?_⟩
        refine ⟨_, rfl, _, rfl, x1, x2, rfl, c1 _ (List.mem_of_getElem? e1), c2 _ (List.mem_of_getElem? e2), ?_⟩
        rw [take_succ (zip_get (f := plusC) e1 e2)]
        exact (v.ext (upd_new hT)).add (by rw [List.length_take, List.length_zipWith]; omega)
  · intro H2 v
    rw [List.take_of_length_le (by rw [List.length_zipWith]; omega)] at v
    have vc : ∀ u ∈ List.zipWith plusC xs ys, Cost u := fun u hu => by
      obtain ⟨i, hi⟩ := List.getElem?_of_mem hu
      rw [List.getElem?_zipWith] at hi
      cases e1 : xs[i]? with
      | none => rw [e1] at hi; exact nomatch hi
      | some x1 =>
        cases e2 : ys[i]? with
        | none => rw [e1, e2] at hi; exact nomatch hi
        | some x2 =>
          rw [e1, e2] at hi
          cases hi
          exact plus_cost (c1 _ (List.mem_of_getElem? e1)) (c2 _ (List.mem_of_getElem? e2))
    refine ⟨_, rfl, D, rfl, ⟨_, SqL.of v.at_⟩, fun D2 hD2 => ?_⟩
    refine lc_it walk_list (fun i H' => Vls H2 D2 (((List.zipWith plusC xs ys).take i).filter fun v => decide (v ≠ .non)) H') (Vls.nil hD2) (fun i H' _ v' => SqL.of (v'.same _ _ v.at_)) ?_ ?_
    · rintro i x H3 _ hi v' ⟨rfl, hx⟩
      refine ⟨rfl, ?_⟩
      refine ⟨_, rfl, rfl, _, rfl, ?_⟩
      rw [take_succ hx, List.filter_append]
      by_cases c : (x = .non)
      · subst c
        refine iteF ?_
        simpa using v'
      · refine iteB (fun _ => ⟨_, rfl, ?_⟩) fun e => absurd e (by simp [c])
        rw [List.filter_cons_of_pos (by simp [c])]
        exact v'.add (Nat.lt_of_le_of_lt (List.length_filter_le _ _) (by rw [List.length_take, List.length_zipWith]; omega))
    · intro H3 v'
      rw [List.take_length, intsOf_filter vc] at v'
      have fin := q H3 (v.same.trans v'.same)
      refine ⟨D2, intsOf (List.zipWith plusC xs ys), .non, rfl, rfl, SqL.of v'.at_, fun e => ?_, fun m m1 m2 => ?_⟩
      · unfold leastC at fin
        rw [e] at fin
        exact fin
      · unfold leastC at fin
        rw [minL_is m1 m2] at fin
        exact fin
abbrev sleast_greater : Stmt := top 27
theorem scleast_greater : FnScope ["row", "column", "here", "there"] ["row", "column"] (defScope sleast_greater) := ⟨rfl, rfl, rfl, by decide +kernel, rfl, by decide +kernel, by decide +kernel⟩
theorem ok_leastgr {f : Addr} {fd : FuncData} (F : Fun K "least_greater" "least_greater" sleast_greater f fd) (T : Txt mg base) : FnG P w K mg base CX0 1 f fd ["row", "column"] (spLeast ShI leastG 1) := by
  refine okG F scleast_greater (fun vs H Q E h => ?_) (fun cdv A outer s H vs Q E hc hr h => ?_)
  · obtain ⟨b, p, b2, p2, xs, ys, rfl, _⟩ := h
    rfl
  obtain ⟨b, p, b2, p2, xs, ys, rfl, h1, h2, hl, hz, hk, c1, c2, q⟩ := h
  refine ⟨_, (pss_one (ps_ret (pe_callB (cr_min rfl) (by rfl) T.z_min (by decide +kernel) (pa_cons (pe_lc (own := [("here", 2), ("there", 3)]) (g := _) rfl scleast_greater.nd (pi_zipP (by rfl) T.z_zip (pa_cons (pv 0) (pa_cons (pv 1) pa_nil))) (blkOk_by (N := ["row", "column", "here", "there"]) (sc := defScope sleast_greater) (by decide +kernel)) (fun _ _ _ _ _ => (pg_tupK (K := K) (n := 2) rfl rfl (pgs_cons (pg_name (i := 2) scleast_greater.nd rfl (Or.inl rfl)) (pgs_cons (pg_name (i := 3) scleast_greater.nd rfl (Or.inl rfl)) pgs_nil)))) (fun _ _ _ _ _ => pts_nil) (fun _ _ _ _ _ => (pe_callB (call_max2 rfl) (by rfl) T.z_max (by decide +kernel) (pa_cons (pv 2) (pa_cons (pv 3) pa_nil))))) pa_nil)))), ?_⟩
  have s12 : 12 < sizeLine := by decide
  refine ⟨_, rfl, _, rfl, (b, p), (b2, p2), xs, ys, rfl, so_sq h1, so_sq h2, fun D hD => ?_⟩
  have hw : ∀ zs ∈ [xs, ys], zs.length = xs.length := fun zs hz => by
    rcases List.mem_cons.mp hz with rfl | hz
    · rfl
    · obtain rfl : zs = ys := by simpa using hz
      exact hl.symm
  refine lc_it (walk_zip (bs := [(b, p), (b2, p2)]) hw (fun e => nomatch e)) (fun i H' => Vls H D ((List.zipWith maxC xs ys).take i) H') (Vls.nil hD) (fun i H' _ v => .cons (so_sq (v.same _ _ h1)) (.cons (so_sq (v.same _ _ h2)) .nil)) ?_ ?_
  · rintro i x H2 _ hi v ⟨T1, vs, rfl, hT, rfl, cv⟩
    cases cv with
    | @cons _ x1 _ _ e1 cv =>
      cases cv with
      | @cons _ x2 _ _ e2 cv =>
        cases cv
        obtain ⟨i1, rfl, _⟩ := c1 _ (List.mem_of_getElem? e1)
        obtain ⟨i2, rfl, _⟩ := c2 _ (List.mem_of_getElem? e2)
        refine ⟨T1, _, rfl, SqT.of upd_same, rfl, _, _, rfl, _, _, rfl, rfl, rfl, yes_go ?_⟩
        refine ⟨_, rfl, _, rfl, _, _, rfl, ?_⟩
        rw [take_succ (zip_get (f := maxC) e1 e2)]
        exact (v.ext (upd_new hT)).add (by rw [List.length_take, List.length_zipWith]; omega)
  · intro H2 v
    rw [List.take_of_length_le (by rw [List.length_zipWith]; omega)] at v
    have all : ∀ (l m : List V), (∀ v ∈ l, ShI v) → (∀ v ∈ m, ShI v) → l.length = m.length → List.zipWith maxC l m = (intsOf (List.zipWith maxC l m)).map V.int ∧ (intsOf (List.zipWith maxC l m)).length = l.length := by
      intro l
      induction l with
      | nil => exact fun m _ _ _ => ⟨rfl, rfl⟩
      | cons a l ih =>
        intro m h1 h2 h3
        cases m with
        | nil => exact nomatch h3
        | cons b m =>
          obtain ⟨i, rfl, _⟩ := h1 _ List.mem_cons_self
          obtain ⟨j, rfl, _⟩ := h2 _ List.mem_cons_self
          obtain ⟨g1, g2⟩ := ih m (fun v hv => h1 v (List.mem_cons_of_mem _ hv)) (fun v hv => h2 v (List.mem_cons_of_mem _ hv)) (by simpa using h3)
          exact ⟨congrArg (List.cons _) g1, congrArg Nat.succ g2⟩
    obtain ⟨g1, g2⟩ := all xs ys c1 c2 hl
    refine ⟨D, _, rfl, SqL.of (by rw [← g1]; exact v.at_), by rw [g2]; exact hk, fun m m1 m2 => ?_⟩
    have fin := q H2 v.same
    unfold leastG at fin
    rw [minL_is m1 m2] at fin
    exact fin
end
end KM

namespace KM
open PySem L2 Gd Zn
theorem NewM.old {H0 H H' : Hp} {x : V} {xss : List (List V)} (s : Same H0 H) : NewM H H' x xss → NewM H0 H' x xss
  | ⟨D, e, b⟩ => by
    have none_ : ∀ {a : Addr}, H a = none → H0 a = none := fun {a} h => by
      cases e : H0 a with
      | none => rfl
      | some u => rw [s _ _ e] at h; exact nomatch h
    obtain ⟨ps, h1, h2, h3, h4⟩ := b.ex
    exact ⟨D, e, ⟨ps, h1, h2, fun p hp => ⟨none_ (h3 p hp).1, (h3 p hp).2⟩, h4⟩, s.trans b.same, none_ b.free⟩
/-- the product by f of a row and a column -/
def mulM (f : List V → List V → V) (n : Nat) (xss yss : List (List V)) : List (List V) := xss.map fun xs => (trM n yss).map fun ys => f xs ys
def spMul (It : V → Prop) (f : List V → List V → V) : Sp := fun vs H Q _ => ∃ x y xss yss n, vs = [x, y] ∧ MAt H x xss ∧ MAt H y yss ∧ Sqr n xss ∧ Sqr n yss ∧ n ≤ 12 ∧ (∀ xs ∈ xss, ∀ v ∈ xs, It v) ∧ (∀ ys ∈ yss, ∀ v ∈ ys, It v) ∧ ∀ v H', NewM H H' v (mulM f n xss yss) → Q v H'
theorem trM_rows {n : Nat} {xss : List (List V)} (h : Sqr n xss) : ∀ ys ∈ trM n xss, ys.length = n ∧ ∀ v ∈ ys, ∃ xs ∈ xss, v ∈ xs := by
  intro ys hy
  unfold trM at hy
  obtain ⟨j, hj, rfl⟩ := List.mem_map.mp hy
  have hj := List.mem_range.mp hj
  refine ⟨by rw [List.length_map]; exact h.1, fun v hv => ?_⟩
  obtain ⟨xs, hx, rfl⟩ := List.mem_map.mp hv
  refine ⟨xs, hx, ?_⟩
  have l := h.2 xs hx
  rw [List.getD_eq_getElem?_getD, List.getElem?_eq_getElem (by omega)]
  exact List.getElem_mem _
/-- the two comprehensions of a product -/
theorem mul_rest {K : PySem.W.Frag} {It : V → Prop} {f : List V → List V → V} {H : Hp} {x y : V} {xss yss : List (List V)} {n : Nat} {te : TE} {σ : L2.St} {Q : VK} {vs1 vs2 : List Nat} {i1 i2 : Nat} {tx ty : TE}
    (h1 : MAt H x xss) (h2 : NewM H0 H y (trM n yss)) (n1 : Sqr n xss) (n2 : Sqr n yss) (hz : n ≤ 12) (c1 : ∀ xs ∈ xss, ∀ v ∈ xs, It v) (c2 : ∀ ys ∈ yss, ∀ v ∈ ys, It v)
    (q : ∀ v H', NewM H H' v (mulM f n xss yss) → Q v H')
    (hx : ∀ (R : VK), R x H → tx σ H R)
    (hy : ∀ v H' (R : VK), R y H' → ty ((wipe σ vs1).set i1 (some v)) H' R)
    (he : ∀ v u H' (R : VK), spLeast It f 1 [v, u] H' R E0 → te ((wipe ((wipe σ vs1).set i1 (some v)) vs2).set i2 (some u)) H' R)
    (w1 : ∀ v, wipe ((wipe σ vs1).set i1 (some v)) vs1 = wipe σ vs1)
    (w2 : ∀ v u, wipe ((wipe ((wipe σ vs1).set i1 (some v)) vs2).set i2 (some u)) vs2 = wipe ((wipe σ vs1).set i1 (some v)) vs2) :
    tLc (iSq K tx) (gName i1) tYes (tLc (iList K ty) (gName i2) tYes te vs2) vs1 σ H Q := by
  obtain ⟨b, p, bs, rfl, hp, hr2⟩ := h1
  obtain ⟨D1, rfl, B1⟩ := h2
  obtain ⟨qs, q1, q2, _, _⟩ := B1.ex
  have hl := hr2.len
  have s12 : 12 < sizeLine := by decide
  have lm : (mulM f n xss yss).length = n := by unfold mulM; rw [List.length_map]; exact n1.1
  refine hx _ ⟨b, p, _, rfl, so_sq hp, fun D hD => ?_⟩
  refine lc_it walk_sq (fun i H' => Bld H D ((mulM f n xss yss).take i) H') (Bld.nil hD) (fun i H' _ v => so_sq (v.same _ _ hp)) ?_ ?_
  · rintro i x _ H2 hi v ⟨rfl, hx⟩
    obtain ⟨b', p', xs, rfl, hxs, hat⟩ := hr2.get hx
    have hi12 : i < n := by rw [List.length_map, hl, n1.1] at hi; exact hi
    have er : (mulM f n xss yss)[i]? = some ((trM n yss).map fun ys => f xs ys) := by
      unfold mulM
      rw [List.getElem?_map, hxs]
      rfl
    refine ⟨w1 _, yes_go ?_⟩
    refine hy _ _ _ ⟨D1, rfl, ⟨_, SqL.of (v.same _ _ q1)⟩, fun D2 hD2 => ?_⟩
    refine lc_it walk_list (fun j H' => Vls H2 D2 (((trM n yss).map fun ys => f xs ys).take j) H') (Vls.nil hD2) (fun j H' _ v' => SqL.of (v'.same _ _ (v.same _ _ q1))) ?_ ?_
    · rintro j u _ H3 hj v' ⟨rfl, hu⟩
      rw [List.getElem?_map] at hu
      cases eq : qs[j]? with
      | none => rw [eq] at hu; exact nomatch hu
      | some qj =>
        rw [eq] at hu
        cases hu
        obtain ⟨ys, hys, hyat⟩ := q2.get eq
        obtain ⟨ly, iy⟩ := trM_rows n2 ys (List.mem_of_getElem? hys)
        have lx := n1.2 xs (List.mem_of_getElem? hxs)
        refine ⟨w2 _ _, yes_go (he _ _ _ _ ⟨b', p', true, qj, xs, ys, rfl, v'.same _ _ (v.same _ _ hat), v'.same _ _ (v.same _ _ hyat), by omega, by omega, by omega, c1 xs (List.mem_of_getElem? hxs), fun u hu => ?_, fun H4 s4 => ?_⟩)⟩
        · obtain ⟨zs, hz1, hz2⟩ := iy u hu
          exact c2 zs hz1 u hz2
        · rw [take_succ (x := f xs ys) (by rw [List.getElem?_map, hys]; rfl)]
          exact (v'.ext s4).add (by rw [List.length_take, List.length_map, trM_len]; omega)
    · intro H3 v'
      rw [List.length_map, q2.len, List.take_of_length_le (by rw [List.length_map]; exact Nat.le_refl _)] at v'
      rw [take_succ er]
      exact v.add hD2 v'.same v'.at_ (by rw [List.length_take, lm]; omega)
  · intro H2 v
    rw [List.length_map, hl, n1.1, List.take_of_length_le (by rw [lm]; exact Nat.le_refl _)] at v
    exact q _ _ ⟨D, rfl, v⟩
section
variable {P : Program} {w : World} {K : PySem.W.Frag} {mg : Str → Option Value} {base : Heap}
abbrev smultiply_costs : Stmt := top 21
theorem scmultiply_costs : FnScope ["one", "other", "columns", "row", "column"] ["one", "other"] (defScope smultiply_costs) := ⟨rfl, rfl, rfl, by decide +kernel, rfl, by decide +kernel, by decide +kernel⟩
theorem ok_mulcosts {f f1 f2 f3 f4 : Addr} {fd fd1 fd2 fd3 fd4 : FuncData} (F : Fun K "multiply_costs" "multiply_costs" smultiply_costs f fd) (T : Txt mg base)
    (D_require_cost_matrix : Df P w K mg base CX0 4 "require_cost_matrix" f1 fd1 ["value"] (spReq Cost)) (D_require_same_size : Df P w K mg base CX0 1 "require_same_size" f2 fd2 ["one", "other"] spSize)
    (D_flipped : Df P w K mg base CX0 1 "flipped" f3 fd3 ["matrix"] spFlip) (D_least_sum : Df P w K mg base CX0 2 "least_sum" f4 fd4 ["row", "column"] (spLeast Cost leastC 0)) : FnG P w K mg base CX0 5 f fd ["one", "other"] (spMul Cost leastC) := by
  refine okG F scmultiply_costs (fun vs H Q E h => ?_) (fun cdv A outer s H vs Q E hc hr h => ?_)
  · obtain ⟨x, y, xss, yss, n, rfl, _⟩ := h
    rfl
  obtain ⟨x, y, xss, yss, n, rfl, h1, h2, n1, n2, hz, c1, c2, q⟩ := h
  refine ⟨_, (pss_cons (ps_expr (pe_d D_require_cost_matrix hc (hr.mono (by decide)) (by rfl) (fun _ => passN) (pa_cons (pv 0) pa_nil)))
 (pss_cons (ps_expr (pe_d D_require_cost_matrix hc (hr.mono (by decide)) (by rfl) (fun _ => passN) (pa_cons (pv 1) pa_nil)))
 (pss_cons (ps_expr (pe_d D_require_same_size hc (hr.mono (by decide)) (by rfl) (fun _ => passN) (pa_cons (pv 0) (pa_cons (pv 1) pa_nil))))
 (pss_cons (ps_set (i := 2) scmultiply_costs.nd rfl (Or.inr rfl) (pe_d D_flipped hc (hr.mono (by decide)) (by rfl) (fun _ => passN) (pa_cons (pv 1) pa_nil)))
 (pss_one (ps_ret (pe_lc (own := [("row", 3)]) (g := gName 3) rfl scmultiply_costs.nd (pi_sq (pv 0)) (blkOk_by (N := ["one", "other", "columns", "row", "column"]) (sc := defScope smultiply_costs) (by decide +kernel)) (fun _ _ _ _ _ => pg_name (i := 3) scmultiply_costs.nd rfl (Or.inr rfl)) (fun _ _ _ _ _ => pts_nil) (fun _ _ _ _ _ => (pe_lc (own := [("column", 4)]) (g := gName 4) rfl scmultiply_costs.nd (pi_listK (K := K) rfl (pv 2)) (blkOk_by (N := ["one", "other", "columns", "row", "column"]) (sc := (relS _ (defScope smultiply_costs))) (by decide +kernel)) (fun _ _ _ _ _ => pg_name (i := 4) scmultiply_costs.nd rfl (Or.inl rfl)) (fun _ _ _ _ _ => pts_nil) (fun _ _ _ _ _ => (pe_d D_least_sum hc (hr.mono (by decide)) (by rfl) (fun _ => passN) (pa_cons (pv 3) (pa_cons (pv 4) pa_nil))))))))))))), ?_⟩
  refine ⟨_, rfl, x, xss, n, rfl, h1, n1, hz, c1, fun H1 s1 => ?_⟩
  refine ⟨_, rfl, y, yss, n, rfl, h2.same s1, n2, hz, c2, fun H2 s2 => ?_⟩
  have s12 := s1.trans s2
  refine ⟨_, rfl, _, rfl, x, y, xss, yss, rfl, h1.same s12, h2.same s12, by rw [n1.1, n2.1], ?_⟩
  refine ⟨_, rfl, y, yss, n, rfl, h2.same s12, n2, hz, fun v H3 nm => ?_⟩
  have s13 := s12.trans nm.same
  show tLc (iSq K (tVar 0)) (gName 3) tYes (tLc (iList K (tVar 2)) (gName 4) tYes (tCallG (spLeast Cost leastC 0) [] (fun _ => E0) (tCons (tVar 3) (tCons (tVar 4) tNil))) [4]) [3] [some x, some y, some v, none, none] H3 Q
  refine mul_rest (K := K) (It := Cost) (f := leastC) (vs1 := [3]) (vs2 := [4]) (i1 := 3) (i2 := 4) (h1.same s13) nm n1 n2 hz c1 c2 (fun v H4 nm4 => q v H4 (nm4.old s13)) ?_ ?_ ?_ ?_ ?_
  · exact fun R r => ⟨_, rfl, r⟩
  · exact fun _ _ R r => ⟨_, rfl, r⟩
  rotate_left
  · exact fun _ => rfl
  · exact fun _ _ => rfl
  refine fun v u H' R h => ⟨_, rfl, _, rfl, ?_⟩
  obtain ⟨b, p, b2, p2, xs, ys, e, r⟩ := h
  exact ⟨b, p, b2, p2, xs, ys, e, r.1, r.2.1, r.2.2.1, r.2.2.2.1, Nat.zero_le _, r.2.2.2.2.2⟩
abbrev sshape_product : Stmt := top 26
theorem scshape_product : FnScope ["one", "other", "columns", "row", "column"] ["one", "other"] (defScope sshape_product) := ⟨rfl, rfl, rfl, by decide +kernel, rfl, by decide +kernel, by decide +kernel⟩
theorem ok_shprod {f f1 f2 : Addr} {fd fd1 fd2 : FuncData} (F : Fun K "shape_product" "shape_product" sshape_product f fd) (T : Txt mg base)
    (D_flipped : Df P w K mg base CX0 1 "flipped" f1 fd1 ["matrix"] spFlip) (D_least_greater : Df P w K mg base CX0 1 "least_greater" f2 fd2 ["row", "column"] (spLeast ShI leastG 1)) : FnG P w K mg base CX0 2 f fd ["one", "other"] (spMul ShI leastG) := by
  refine okG F scshape_product (fun vs H Q E h => ?_) (fun cdv A outer s H vs Q E hc hr h => ?_)
  · obtain ⟨x, y, xss, yss, n, rfl, _⟩ := h
    rfl
  obtain ⟨x, y, xss, yss, n, rfl, h1, h2, n1, n2, hz, c1, c2, q⟩ := h
  refine ⟨_, (pss_cons (ps_set (i := 2) scshape_product.nd rfl (Or.inr rfl) (pe_d D_flipped hc (hr.mono (by decide)) (by rfl) (fun _ => passN) (pa_cons (pv 1) pa_nil)))
 (pss_one (ps_ret (pe_lc (own := [("row", 3)]) (g := gName 3) rfl scshape_product.nd (pi_sq (pv 0)) (blkOk_by (N := ["one", "other", "columns", "row", "column"]) (sc := defScope sshape_product) (by decide +kernel)) (fun _ _ _ _ _ => pg_name (i := 3) scshape_product.nd rfl (Or.inr rfl)) (fun _ _ _ _ _ => pts_nil) (fun _ _ _ _ _ => (pe_lc (own := [("column", 4)]) (g := gName 4) rfl scshape_product.nd (pi_listK (K := K) rfl (pv 2)) (blkOk_by (N := ["one", "other", "columns", "row", "column"]) (sc := (relS _ (defScope sshape_product))) (by decide +kernel)) (fun _ _ _ _ _ => pg_name (i := 4) scshape_product.nd rfl (Or.inl rfl)) (fun _ _ _ _ _ => pts_nil) (fun _ _ _ _ _ => (pe_d D_least_greater hc (hr.mono (by decide)) (by rfl) (fun _ => passN) (pa_cons (pv 3) (pa_cons (pv 4) pa_nil)))))))))), ?_⟩
  refine ⟨_, rfl, y, yss, n, rfl, h2, n2, hz, fun v H3 nm => ?_⟩
  show tLc (iSq K (tVar 0)) (gName 3) tYes (tLc (iList K (tVar 2)) (gName 4) tYes (tCallG (spLeast ShI leastG 1) [] (fun _ => E0) (tCons (tVar 3) (tCons (tVar 4) tNil))) [4]) [3] [some x, some y, some v, none, none] H3 Q
  refine mul_rest (K := K) (It := ShI) (f := leastG) (vs1 := [3]) (vs2 := [4]) (i1 := 3) (i2 := 4) (h1.same nm.same) nm n1 n2 hz c1 c2 (fun v H4 nm4 => q v H4 (nm4.old nm.same)) ?_ ?_ ?_ ?_ ?_
  · exact fun R r => ⟨_, rfl, r⟩
  · exact fun _ _ R r => ⟨_, rfl, r⟩
  rotate_left
  · exact fun _ => rfl
  · exact fun _ _ => rfl
  exact fun v u H' R h => ⟨_, rfl, _, rfl, h⟩
abbrev smultiply_shapes : Stmt := top 25
theorem scmultiply_shapes : FnScope ["one", "other"] ["one", "other"] (defScope smultiply_shapes) := ⟨rfl, rfl, rfl, by decide +kernel, rfl, by decide +kernel, by decide +kernel⟩
theorem ok_mulshapes {f f1 f2 f3 : Addr} {fd fd1 fd2 fd3 : FuncData} (F : Fun K "multiply_shapes" "multiply_shapes" smultiply_shapes f fd) (T : Txt mg base)
    (D_require_shape : Df P w K mg base CX0 5 "require_shape" f1 fd1 ["value"] (spReq ShI)) (D_require_same_size : Df P w K mg base CX0 1 "require_same_size" f2 fd2 ["one", "other"] spSize)
    (D_shape_product : Df P w K mg base CX0 2 "shape_product" f3 fd3 ["one", "other"] (spMul ShI leastG)) : FnG P w K mg base CX0 6 f fd ["one", "other"] (spMul ShI leastG) := by
  refine okG F scmultiply_shapes (fun vs H Q E h => ?_) (fun cdv A outer s H vs Q E hc hr h => ?_)
  · obtain ⟨x, y, xss, yss, n, rfl, _⟩ := h
    rfl
  obtain ⟨x, y, xss, yss, n, rfl, h1, h2, n1, n2, hz, c1, c2, q⟩ := h
  refine ⟨_, (pss_cons (ps_expr (pe_d D_require_shape hc (hr.mono (by decide)) (by rfl) (fun _ => passN) (pa_cons (pv 0) pa_nil)))
 (pss_cons (ps_expr (pe_d D_require_shape hc (hr.mono (by decide)) (by rfl) (fun _ => passN) (pa_cons (pv 1) pa_nil)))
 (pss_cons (ps_expr (pe_d D_require_same_size hc (hr.mono (by decide)) (by rfl) (fun _ => passN) (pa_cons (pv 0) (pa_cons (pv 1) pa_nil))))
 (pss_one (ps_ret (pe_d D_shape_product hc (hr.mono (by decide)) (by rfl) (fun _ => passN) (pa_cons (pv 0) (pa_cons (pv 1) pa_nil)))))))), ?_⟩
  refine ⟨_, rfl, x, xss, n, rfl, h1, n1, hz, c1, fun H1 s1 => ?_⟩
  refine ⟨_, rfl, y, yss, n, rfl, h2.same s1, n2, hz, c2, fun H2 s2 => ?_⟩
  have s12 := s1.trans s2
  refine ⟨_, rfl, _, rfl, x, y, xss, yss, rfl, h1.same s12, h2.same s12, by rw [n1.1, n2.1], ?_⟩
  exact ⟨_, rfl, _, rfl, x, y, xss, yss, n, rfl, h1.same s12, h2.same s12, n1, n2, hz, c1, c2, fun v H3 nm => q v H3 (nm.old s12)⟩
def spShape : Sp := fun vs H Q _ => ∃ x xss n, vs = [x] ∧ MAt H x xss ∧ Sqr n xss ∧ n ≤ 12 ∧ (∀ xs ∈ xss, ∀ v ∈ xs, Cost v) ∧ ∀ v H', NewM H H' v (xss.map fun xs => xs.map itemC) → Q v H'
abbrev sshape_of : Stmt := top 23
theorem scshape_of : FnScope ["matrix", "row", "item"] ["matrix"] (defScope sshape_of) := ⟨rfl, rfl, rfl, by decide +kernel, rfl, by decide +kernel, by decide +kernel⟩
theorem ok_shapeof {f f1 f2 : Addr} {fd fd1 fd2 : FuncData} (F : Fun K "shape_of" "shape_of" sshape_of f fd) (T : Txt mg base)
    (D_require_cost_matrix : Df P w K mg base CX0 4 "require_cost_matrix" f1 fd1 ["value"] (spReq Cost)) (D_shape_item : Df P w K mg base CX0 1 "shape_item" f2 fd2 ["cost"] spItem) : FnG P w K mg base CX0 5 f fd ["matrix"] spShape := by
  refine okG F scshape_of (fun vs H Q E h => ?_) (fun cdv A outer s H vs Q E hc hr h => ?_)
  · obtain ⟨x, xss, n, rfl, _⟩ := h
    rfl
  obtain ⟨x, xss, n, rfl, h1, n1, hz, c1, q⟩ := h
  refine ⟨_, (pss_cons (ps_expr (pe_d D_require_cost_matrix hc (hr.mono (by decide)) (by rfl) (fun _ => passN) (pa_cons (pv 0) pa_nil)))
 (pss_one (ps_ret (pe_lc (own := [("row", 1)]) (g := gName 1) rfl scshape_of.nd (pi_sq (pv 0)) (blkOk_by (N := ["matrix", "row", "item"]) (sc := defScope sshape_of) (by decide +kernel)) (fun _ _ _ _ _ => pg_name (i := 1) scshape_of.nd rfl (Or.inl rfl)) (fun _ _ _ _ _ => pts_nil) (fun _ _ _ _ _ => (pe_lc (own := [("item", 2)]) (g := gName 2) rfl scshape_of.nd (pi_sqK (K := K) rfl (pv 1)) (blkOk_by (N := ["matrix", "row", "item"]) (sc := (relS _ (defScope sshape_of))) (by decide +kernel)) (fun _ _ _ _ _ => pg_name (i := 2) scshape_of.nd rfl (Or.inl rfl)) (fun _ _ _ _ _ => pts_nil) (fun _ _ _ _ _ => (pe_d D_shape_item hc (hr.mono (by decide)) (by rfl) (fun _ => passN) (pa_cons (pv 2) pa_nil))))))))), ?_⟩
  refine ⟨_, rfl, x, xss, n, rfl, h1, n1, hz, c1, fun H1 s1 => ?_⟩
  obtain ⟨b, p, bs, rfl, hp, hr2⟩ := h1.same s1
  have hl := hr2.len
  have s12 : 12 < sizeLine := by decide
  refine ⟨_, rfl, b, p, _, rfl, so_sq hp, fun D hD => ?_⟩
  refine lc_it walk_sq (fun i H' => Bld H1 D ((xss.map fun xs => xs.map itemC).take i) H') (Bld.nil hD) (fun i H' _ v => so_sq (v.same _ _ hp)) ?_ ?_
  · rintro i x _ H2 hi v ⟨rfl, hx⟩
    obtain ⟨b', p', xs, rfl, hxs, hat⟩ := hr2.get hx
    have hi12 : i < n := by rw [List.length_map, hl, n1.1] at hi; exact hi
    have er : (xss.map fun xs => xs.map itemC)[i]? = some (xs.map itemC) := by rw [List.getElem?_map, hxs] <;> rfl
    have lx := n1.2 xs (List.mem_of_getElem? hxs)
    refine ⟨rfl, yes_go ⟨_, rfl, b', p', xs, rfl, so_sq (v.same _ _ hat), fun D2 hD2 => ?_⟩⟩
    refine lc_it walk_sq (fun j H' => Vls H2 D2 ((xs.map itemC).take j) H') (Vls.nil hD2) (fun j H' _ v' => so_sq (v'.same _ _ (v.same _ _ hat))) ?_ ?_
    · rintro j u _ H3 hj v' ⟨rfl, hu⟩
      refine ⟨rfl, yes_go ⟨_, rfl, u, rfl, c1 xs (List.mem_of_getElem? hxs) u (List.mem_of_getElem? hu), ?_⟩⟩
      rw [take_succ (x := itemC u) (by rw [List.getElem?_map, hu] <;> rfl)]
      exact v'.add (by rw [List.length_take, List.length_map]; omega)
    · intro H3 v'
      rw [List.take_of_length_le (by rw [List.length_map]; exact Nat.le_refl _)] at v'
      rw [take_succ er]
      exact v.add hD2 v'.same v'.at_ (by rw [List.length_take, List.length_map, n1.1]; omega)
  · intro H2 v
    rw [List.length_map, hl, List.take_of_length_le (by rw [List.length_map]; exact Nat.le_refl _)] at v
    exact q _ _ (NewM.old s1 ⟨D, rfl, v⟩)
end
end KM

/-! matrices as data: compared and written -/
namespace KM
open PySem PySem.Spec PyProof.Rows L2 Gd Zn
/-- None or an integer that is not too long -/
def Itm (v : V) : Prop := v = .non ∨ ∃ i : Int, v = .int i ∧ i.natAbs < 2 ^ 200
def dI : V → PyData
  | .int i => .int i
  | _ => .none
def dR (xs : List V) : PyData := .list (xs.map dI)
def dM (xss : List (List V)) : PyData := .list (xss.map dR)
theorem dp_row {K : PySem.W.Frag} {H : Hp} : ∀ {xs : List V}, (∀ v ∈ xs, Itm v) → DpAll K H xs (xs.map dI)
  | [], _ => .nil
  | v :: xs, h => .cons (by
      rcases h v List.mem_cons_self with rfl | ⟨i, rfl, _⟩
      · exact .non
      · exact .int i) (dp_row fun u hu => h u (List.mem_cons_of_mem _ hu))
theorem da_row {K : PySem.W.Frag} {H : Hp} : ∀ {xs : List V}, (∀ v ∈ xs, Itm v) → DaL K H xs (xs.map dI)
  | [], _ => .nil
  | v :: xs, h => .cons (by
      rcases h v List.mem_cons_self with rfl | ⟨i, rfl, _⟩
      · exact .non
      · exact .int i) (da_row fun u hu => h u (List.mem_cons_of_mem _ hu))
def All (p : V → Prop) (xss : List (List V)) : Prop := ∀ xs ∈ xss, ∀ v ∈ xs, p v
theorem All.mono {p q : V → Prop} {xss : List (List V)} (h : All p xss) (k : ∀ v, p v → q v) : All q xss := fun xs hx v hv => k v (h xs hx v hv)
theorem dp_rows {K : PySem.W.Frag} {H : Hp} {ps : List Addr} {xss : List (List V)} (h : LsAt H ps xss) (c : All Itm xss) : DpAll K H (ps.map V.ref) (xss.map dR) := by
  induction h with
  | nil => exact .nil
  | @cons p xs ps xss a _ ih => exact .cons (.lst (SqL.of a) (dp_row fun v hv => c _ List.mem_cons_self v hv)) (ih fun xs hx => c xs (List.mem_cons_of_mem _ hx))
theorem da_rows {K : PySem.W.Frag} {H : Hp} {ps : List Addr} {xss : List (List V)} (h : LsAt H ps xss) (c : All Itm xss) : DaL K H (ps.map V.ref) (xss.map dR) := by
  induction h with
  | nil => exact .nil
  | @cons p xs ps xss a _ ih => exact .cons (.lst a (da_row fun v hv => c _ List.mem_cons_self v hv)) (ih fun xs hx => c xs (List.mem_cons_of_mem _ hx))
/-- as lists of lists -/
def LMat (H : Hp) (x : V) (xss : List (List V)) : Prop := ∃ D ps, x = V.ref D ∧ H D = some (.lst (ps.map V.ref)) ∧ LsAt H ps xss
theorem LMat.same {H H' : Hp} {x : V} {xss : List (List V)} (s : Same H H') : LMat H x xss → LMat H' x xss
  | ⟨D, ps, e, h, r⟩ => ⟨D, ps, e, s _ _ h, r.same s⟩
theorem LMat.mat {H : Hp} {x : V} {xss : List (List V)} : LMat H x xss → MAt H x xss
  | ⟨D, ps, e, h, r⟩ => ⟨true, D, ps.map fun p => (true, p), e, by rw [List.map_map]; exact h, r.rw⟩
theorem NewM.lm {H H' : Hp} {x : V} {xss : List (List V)} : NewM H H' x xss → LMat H' x xss
  | ⟨D, e, b⟩ => by
    obtain ⟨ps, h1, h2, _, _⟩ := b.ex
    exact ⟨D, ps, e, h1, h2⟩
theorem LMat.dp {K : PySem.W.Frag} {H : Hp} {x : V} {xss : List (List V)} (c : All Itm xss) : LMat H x xss → Dp K H x (dM xss)
  | ⟨D, ps, e, h, r⟩ => by
    subst e
    exact .lst (SqL.of h) (dp_rows r c)
theorem LMat.da {K : PySem.W.Frag} {H : Hp} {x : V} {xss : List (List V)} (c : All Itm xss) : LMat H x xss → Da K H x (dM xss)
  | ⟨D, ps, e, h, r⟩ => by
    subst e
    exact .lst h (da_rows r c)
theorem dI_lay (v : V) : (dI v).canLay0 = true ∧ (dI v).depth = 0 := by cases v <;> exact ⟨by first | rfl | simp [dI, PyData.canLay0], rfl⟩
theorem shaped_M (xss : List (List V)) : SeqAt.shaped (dM xss) = true := by
  have r1 : ∀ xs : List V, PyData.canLayAll0 (xs.map dI) = true ∧ PyData.depthAll (xs.map dI) = 0 := by
    intro xs
    induction xs with
    | nil => exact ⟨by simp [PyData.canLayAll0], rfl⟩
    | cons v xs ih =>
      obtain ⟨a, b⟩ := dI_lay v
      refine ⟨by simp [PyData.canLayAll0, a, ih.1], ?_⟩
      show max (dI v).depth (PyData.depthAll (xs.map dI)) = 0
      rw [b, ih.2]
      rfl
  have r2 : PyData.canLayAll0 (xss.map dR) = true ∧ PyData.depthAll (xss.map dR) ≤ 1 := by
    induction xss with
    | nil => exact ⟨by simp [PyData.canLayAll0], Nat.zero_le _⟩
    | cons xs xss ih =>
      obtain ⟨a, b⟩ := r1 xs
      refine ⟨by simp [PyData.canLayAll0, ih.1, dR, PyData.canLay0, a], ?_⟩
      show max (PyData.depthAll (xs.map dI) + 1) (PyData.depthAll (xss.map dR)) ≤ 1
      rw [b]
      omega
  unfold SeqAt.shaped
  have e1 : (dM xss).canLay0 = true := by simp [dM, PyData.canLay0, r2.1]
  have e2 : (dM xss).depth ≤ 64 := by
    show PyData.depthAll (xss.map dR) + 1 ≤ 64
    omega
  rw [e1, decide_eq_true e2]
  rfl
theorem log_small {i : Int} (h : i.natAbs < 2 ^ 200) : i.natAbs.log2 < 200 := by
  rcases Nat.eq_zero_or_pos i.natAbs with e | e
  · rw [e]; decide
  · exact (Nat.log2_lt (by omega)).mpr h
theorem row_ok : ∀ {xs : List V}, (∀ v ∈ xs, Itm v) → OkL (xs.map dI) ∧ widL (xs.map dI) ≤ 205 * xs.length ∧ PyData.depthAll (xs.map dI) = 0
  | [], _ => ⟨trivial, Nat.zero_le _, rfl⟩
  | v :: xs, h => by
    obtain ⟨a, b, c⟩ := row_ok (xs := xs) fun u hu => h u (List.mem_cons_of_mem _ hu)
    rcases h v List.mem_cons_self with rfl | ⟨i, rfl, hi⟩
    · refine ⟨⟨trivial, a⟩, ?_, ?_⟩
      · show 4 + 2 + widL (xs.map dI) ≤ _
        rw [List.length_cons]
        omega
      · show max 0 (PyData.depthAll (xs.map dI)) = 0
        rw [c]
        rfl
    · have := log_small hi
      refine ⟨⟨by show i.natAbs.log2 < 1920; omega, a⟩, ?_, ?_⟩
      · show i.natAbs.log2 + 3 + 2 + widL (xs.map dI) ≤ _
        rw [List.length_cons]
        omega
      · show max 0 (PyData.depthAll (xs.map dI)) = 0
        rw [c]
        rfl
theorem mat_ok {n : Nat} (hn : n ≤ 12) : ∀ {xss : List (List V)}, (∀ xs ∈ xss, xs.length ≤ n) → All Itm xss → OkL (xss.map dR) ∧ widL (xss.map dR) ≤ 3000 * xss.length ∧ PyData.depthAll (xss.map dR) ≤ 1
  | [], _, _ => ⟨trivial, Nat.zero_le _, Nat.zero_le _⟩
  | xs :: xss, l, h => by
    obtain ⟨a, b, c⟩ := mat_ok hn (xss := xss) (fun u hu => l u (List.mem_cons_of_mem _ hu)) fun u hu => h u (List.mem_cons_of_mem _ hu)
    obtain ⟨a1, b1, c1⟩ := row_ok (h xs List.mem_cons_self)
    have l1 := l xs List.mem_cons_self
    refine ⟨⟨a1, a⟩, ?_, ?_⟩
    · show widL (xs.map dI) + 2 + 2 + widL (xss.map dR) ≤ _
      rw [List.length_cons]
      omega
    · show max (PyData.depthAll (xs.map dI) + 1) (PyData.depthAll (xss.map dR)) ≤ 1
      rw [c1]
      omega
/-- written -/
theorem M_ok {n : Nat} {xss : List (List V)} (hn : n ≤ 12) (sq : Sqr n xss) (h : All Itm xss) : Ok1 (dM xss) ∧ wid (dM xss) ≤ 40000 ∧ (dM xss).depth ≤ 2 := by
  obtain ⟨a, b, c⟩ := mat_ok hn (fun xs hx => by rw [sq.2 xs hx]; exact Nat.le_refl _) h
  refine ⟨a, ?_, ?_⟩
  · show widL (xss.map dR) + 2 ≤ _
    rw [sq.1] at b
    omega
  · show PyData.depthAll (xss.map dR) + 1 ≤ 2
    omega
end KM

namespace KM
open PySem L2 Gd Zn
theorem mem_intsOf : ∀ {l : List V} {m : Int}, m ∈ intsOf l → V.int m ∈ l
  | [], _, h => absurd h List.not_mem_nil
  | v :: l, m, h => by
    cases v with
    | int i =>
      rcases List.mem_cons.mp h with rfl | h
      · exact List.mem_cons_self
      · exact List.mem_cons_of_mem _ (mem_intsOf h)
    | _ => exact List.mem_cons_of_mem _ (mem_intsOf (l := l) h)
theorem minL_mem {ns : List Int} {m : Int} (h : minL ns = .int m) : m ∈ ns := by
  cases ns with
  | nil => exact nomatch h
  | cons a l =>
    have e : l.foldl min a = m := by injection h
    rw [← e]
    exact (fold_min l a).1
theorem minL_cases (ns : List Int) : minL ns = .non ∨ ∃ m, minL ns = .int m ∧ m ∈ ns := by
  cases ns with
  | nil => exact .inl rfl
  | cons a l => exact .inr ⟨_, rfl, (fold_min l a).1⟩
theorem zip_mem {f : V → V → V} {xs ys : List V} {z : V} (h : z ∈ List.zipWith f xs ys) : ∃ x ∈ xs, ∃ y ∈ ys, z = f x y := by
  obtain ⟨i, hi⟩ := List.getElem?_of_mem h
  rw [List.getElem?_zipWith] at hi
  cases e1 : xs[i]? with
  | none => rw [e1] at hi; exact nomatch hi
  | some x1 =>
    cases e2 : ys[i]? with
    | none => rw [e1, e2] at hi; exact nomatch hi
    | some x2 =>
      rw [e1, e2] at hi
      cases hi
      exact ⟨x1, List.mem_of_getElem? e1, x2, List.mem_of_getElem? e2, rfl⟩
theorem leastG_sh {xs ys : List V} (h1 : ∀ v ∈ xs, ShI v) (h2 : ∀ v ∈ ys, ShI v) (hl : xs.length = ys.length) (h0 : 0 < xs.length) : ShI (leastG xs ys) := by
  unfold leastG
  have inn : ∀ m ∈ intsOf (List.zipWith maxC xs ys), 0 ≤ m ∧ m < 4 := fun m hm => by
    obtain ⟨x, hx, y, hy, e⟩ := zip_mem (mem_intsOf hm)
    obtain ⟨i, rfl, i0, i4⟩ := h1 x hx
    obtain ⟨j, rfl, j0, j4⟩ := h2 y hy
    have e : m = if j > i then j else i := by injection e
    rw [e]
    split <;> omega
  rcases minL_cases (intsOf (List.zipWith maxC xs ys)) with e | ⟨m, e, hm⟩
  · exfalso
    cases xs with
    | nil => exact Nat.lt_irrefl _ h0
    | cons x xs =>
      cases ys with
      | nil => exact nomatch hl
      | cons y ys =>
        obtain ⟨i, rfl, _⟩ := h1 x List.mem_cons_self
        obtain ⟨j, rfl, _⟩ := h2 y List.mem_cons_self
        exact nomatch e
  · exact ⟨m, e, inn m hm⟩
/-- None or an integer from 0 on, below B -/
def CostB (B : Int) (v : V) : Prop := v = .non ∨ ∃ i : Int, v = .int i ∧ 0 ≤ i ∧ i < B
theorem CostB.cost {B : Int} {v : V} (h : CostB B v) : Cost v := h.imp id fun ⟨i, e, h0, _⟩ => ⟨i, e, h0⟩
theorem CostB.itm {B : Int} {v : V} (hB : B ≤ 2 ^ 199) (h : CostB B v) : Itm v := h.imp id fun ⟨i, e, h0, h1⟩ => ⟨i, e, by
  have a : (2 : Int) ^ 199 = 803469022129495137770981046170581301261101496891396417650688 := by decide
  have b : (2 : Nat) ^ 200 = 1606938044258990275541962092341162602522202993782792835301376 := by decide
  omega⟩
theorem ShI.itm {v : V} (h : ShI v) : Itm v := by
  obtain ⟨i, e, h0, h1⟩ := h
  refine .inr ⟨i, e, ?_⟩
  have b : (2 : Nat) ^ 200 = 1606938044258990275541962092341162602522202993782792835301376 := by decide
  omega
theorem leastC_b {B : Int} {xs ys : List V} (h1 : ∀ v ∈ xs, CostB B v) (h2 : ∀ v ∈ ys, CostB B v) : CostB (2 * B) (leastC xs ys) := by
  unfold leastC
  rcases minL_cases (intsOf (List.zipWith plusC xs ys)) with e | ⟨m, e, hm⟩
  · exact .inl e
  · obtain ⟨x, hx, y, hy, ez⟩ := zip_mem (mem_intsOf hm)
    refine .inr ⟨m, e, ?_⟩
    rcases h1 x hx with rfl | ⟨i, rfl, i0, i1⟩
    · exact nomatch ez
    · rcases h2 y hy with rfl | ⟨j, rfl, j0, j1⟩
      · exact nomatch ez
      · have ez : m = i + j := by injection ez
        omega
theorem mulM_sqr {f : List V → List V → V} {n : Nat} {xss yss : List (List V)} (h : Sqr n xss) : Sqr n (mulM f n xss yss) := by
  unfold mulM
  refine ⟨by rw [List.length_map]; exact h.1, fun xs hx => ?_⟩
  obtain ⟨zs, _, rfl⟩ := List.mem_map.mp hx
  rw [List.length_map, trM_len]
theorem mulM_all {p q : V → Prop} {f : List V → List V → V} {n : Nat} {xss yss : List (List V)} (h1 : Sqr n xss) (h2 : Sqr n yss) (c1 : All p xss) (c2 : All p yss)
    (hf : ∀ xs ys, xs.length = ys.length → 0 < xs.length → (∀ v ∈ xs, p v) → (∀ v ∈ ys, p v) → q (f xs ys)) : All q (mulM f n xss yss) := by
  intro zs hz v hv
  unfold mulM at hz
  obtain ⟨xs, hx, rfl⟩ := List.mem_map.mp hz
  obtain ⟨ys, hy, rfl⟩ := List.mem_map.mp hv
  obtain ⟨ly, iy⟩ := trM_rows h2 ys hy
  have lx := h1.2 xs hx
  have l1 := h1.1
  have pos : 0 < xss.length := List.length_pos_of_mem hx
  refine hf xs ys (by omega) (by omega) (c1 xs hx) fun u hu => ?_
  obtain ⟨zs, z1, z2⟩ := iy u hu
  exact c2 zs z1 u z2
def spStable : Sp := fun vs H Q _ => ∃ x xss n, vs = [x] ∧ MAt H x xss ∧ Sqr n xss ∧ n ≤ 12 ∧ All ShI xss ∧ ∀ H', Same H H' → Q (.bl (PyData.eqv (dM (mulM leastG n xss xss)) (dM xss))) H'
section
variable {P : Program} {w : World} {K : PySem.W.Frag} {mg : Str → Option Value} {base : Heap}
theorem eqv_no {as bs : List PyData} {i : Nat} {a b : PyData} (ha : as[i]? = some a) (hb : bs[i]? = some b) (h : PyData.eqv a b = false) : PyData.eqvAll as bs = false := by
  induction as generalizing bs i with
  | nil => exact nomatch ha
  | cons x as ih =>
    cases bs with
    | nil => exact nomatch hb
    | cons y bs =>
      rw [PyData.eqvAll]
      cases i with
      | zero =>
        injection ha with ha
        injection hb with hb
        subst ha hb
        rw [h]
        rfl
      | succ i => rw [ih (i := i) ha hb, Bool.and_false]
theorem eqv_yes : ∀ {as bs : List PyData}, as.length = bs.length → (∀ (i : Nat) (a b : PyData), as[i]? = some a → bs[i]? = some b → PyData.eqv a b = true) → PyData.eqvAll as bs = true
  | [], [], _, _ => by rw [PyData.eqvAll]
  | [], _ :: _, h, _ => nomatch h
  | _ :: _, [], h, _ => nomatch h
  | a :: as, b :: bs, h, g => by
    rw [PyData.eqvAll, g 0 a b rfl rfl, eqv_yes (as := as) (bs := bs) (by simpa using h) fun i x y hx hy => g (i + 1) x y hx hy]
    rfl
theorem shaped_R (xs : List V) : SeqAt.shaped (dR xs) = true := by
  have r1 : ∀ xs : List V, PyData.canLayAll0 (xs.map dI) = true ∧ PyData.depthAll (xs.map dI) = 0 := by
    intro xs
    induction xs with
    | nil => exact ⟨rfl, rfl⟩
    | cons v xs ih =>
      obtain ⟨a, b⟩ := dI_lay v
      refine ⟨?_, ?_⟩
      · rw [List.map_cons, PyData.canLayAll0, a, ih.1]
        rfl
      · show max (dI v).depth (PyData.depthAll (xs.map dI)) = 0
        rw [b, ih.2]
        rfl
  obtain ⟨a, b⟩ := r1 xs
  unfold SeqAt.shaped
  have e1 : (dR xs).canLay0 = true := by
    unfold dR
    rw [PyData.canLay0]
    exact a
  have e2 : (dR xs).depth ≤ 64 := by
    show PyData.depthAll (xs.map dI) + 1 ≤ 64
    rw [b]
    decide
  rw [e1, decide_eq_true e2]
  rfl
abbrev sis_stable_shape : Stmt := top 29
theorem scis_stable_shape : FnScope ["shape", "columns", "row", "column"] ["shape"] (defScope sis_stable_shape) := ⟨rfl, rfl, rfl, by decide +kernel, rfl, by decide +kernel, by decide +kernel⟩
theorem ok_stableS {f f1 f2 : Addr} {fd fd1 fd2 : FuncData} (F : Fun K "is_stable_shape" "is_stable_shape" sis_stable_shape f fd) (T : Txt mg base)
    (D_flipped : Df P w K mg base CX0 1 "flipped" f1 fd1 ["matrix"] spFlip) (D_least_greater : Df P w K mg base CX0 1 "least_greater" f2 fd2 ["row", "column"] (spLeast ShI leastG 1)) : FnG P w K mg base CX0 2 f fd ["shape"] spStable := by
  refine okG F scis_stable_shape (fun vs H Q E h => ?_) (fun cdv A outer s H vs Q E hc hr h => ?_)
  · obtain ⟨x, xss, n, rfl, _⟩ := h
    rfl
  obtain ⟨x, xss, n, rfl, h1, n1, hz, c1, q⟩ := h
  refine ⟨_, (pss_cons (ps_set (i := 1) scis_stable_shape.nd rfl (Or.inl rfl) (pe_d D_flipped hc (hr.mono (by decide)) (by rfl) (fun _ => passN) (pa_cons (pv 0) pa_nil)))
 (pss_cons (ps_for (passes_of rfl) rfl (pi_sq (pv 0)) (pg_name (i := 2) scis_stable_shape.nd rfl (Or.inr rfl))
  (pss_one (ps_if (pt_cmpR (op_neD hr.units) (pe_lc (own := [("column", 3)]) (g := gName 3) rfl scis_stable_shape.nd (pi_list (pv 1)) (blkOk_by (N := ["shape", "columns", "row", "column"]) (sc := defScope sis_stable_shape) (by decide +kernel)) (fun _ _ _ _ _ => pg_name (i := 3) scis_stable_shape.nd rfl (Or.inl rfl)) (fun _ _ _ _ _ => pts_nil) (fun _ _ _ _ _ => (pe_d D_least_greater hc (hr.mono (by decide)) (by rfl) (fun _ => passN) (pa_cons (pv 2) (pa_cons (pv 3) pa_nil))))) (pe_callTy call_list_of (by rfl) T.z_list (by decide +kernel) (pa_cons (pv 2) pa_nil)) (nomark _))
  (pss_one (ps_ret pe_bl)) pss_nil)))
 (pss_one (ps_ret pe_bl)))), ?_⟩
  have s12 : 12 < sizeLine := by decide
  refine ⟨_, rfl, x, xss, n, rfl, h1, n1, hz, fun v H3 nm => ?_⟩
  have sH := nm.same
  obtain ⟨C, cs, rfl, hC, hcs⟩ := nm.lm
  obtain ⟨b, p, bs, rfl, hp, hr2⟩ := h1.same sH
  have hl := hr2.len
  have hlc := hcs.len
  have lt := trM_len (n := n) (xss := xss)
  have em : PyData.eqv (dM (mulM leastG n xss xss)) (dM xss) = PyData.eqvAll ((mulM leastG n xss xss).map dR) (xss.map dR) := by unfold dM; rw [PyData.eqv]
  have mget : ∀ {i : Nat} {xs : List V}, xss[i]? = some xs → (mulM leastG n xss xss)[i]? = some ((trM n xss).map fun ys => leastG xs ys) := fun {i xs} h => by
    unfold mulM
    rw [List.getElem?_map, h]
    rfl
  have cm : All Itm (mulM leastG n xss xss) := All.mono (mulM_all (q := ShI) n1 n1 c1 c1 fun xs ys hl h0 a b => leastG_sh a b hl h0) fun v h => h.itm
  refine ⟨_, rfl, b, p, _, rfl, so_sq hp, ?_⟩
  refine for_it walk_sq (fun i σ H' => ∃ o2 o3, σ = [some (.ref p), some (.ref C), o2, o3] ∧ Same H3 H' ∧ ∀ (j : Nat) (xs : List V), j < i → xss[j]? = some xs → PyData.eqv (dR ((trM n xss).map fun ys => leastG xs ys)) (dR xs) = true) ⟨none, none, rfl, Same.refl H3, fun j _ h => absurd h (Nat.not_lt_zero j)⟩ (fun i σ H' _ ⟨_, _, _, s, _⟩ => so_sq (s _ _ hp)) ?_ ?_
  · rintro i x _ H4 H5 hi ⟨o2, o3, rfl, s4, hok⟩ ⟨rfl, hx⟩
    obtain ⟨b', p', xs, rfl, hxs, hat⟩ := hr2.get hx
    have mx := List.mem_of_getElem? hxs
    have lx := n1.2 xs mx
    have lx12 : xs.length ≤ 12 := by omega
    have cx := c1 xs mx
    refine ⟨_, rfl, C, rfl, ⟨_, SqL.of (s4 _ _ hC)⟩, fun D hD => ?_⟩
    refine lc_it (walk_list (xs := cs.map V.ref)) (fun j H' => Vls H5 D (((trM n xss).map fun ys => leastG xs ys).take j) H') (Vls.nil hD) (fun j H' _ v => SqL.of (v.same _ _ (s4 _ _ hC))) ?_ ?_
    · rintro j y _ H6 hj v ⟨rfl, hy⟩
      rw [List.getElem?_map] at hy
      obtain ⟨c, hcj, rfl⟩ := Option.map_eq_some_iff.mp hy
      obtain ⟨ys, hys, hcy⟩ := hcs.get hcj
      obtain ⟨ly, iy⟩ := trM_rows n1 ys (List.mem_of_getElem? hys)
      have l1 := n1.1
      have pos : 0 < xss.length := List.length_pos_of_mem mx
      refine ⟨rfl, yes_go ⟨_, rfl, _, rfl, b', p', true, c, xs, ys, rfl, v.same _ _ (s4 _ _ hat), v.same _ _ (s4 _ _ hcy), by omega, lx12, by omega, cx, fun u hu => ?_, fun H7 s7 => ?_⟩⟩
      · obtain ⟨zs, z1, z2⟩ := iy u hu
        exact c1 zs z1 u z2
      · have et : ((trM n xss).map fun ys => leastG xs ys)[j]? = some (leastG xs ys) := by rw [List.getElem?_map, hys]; rfl
        rw [take_succ et]
        exact (v.ext s7).add (by rw [List.length_take, List.length_map, lt]; omega)
    · intro H6 v
      rw [List.length_map, hlc, ← List.length_map (f := fun ys => leastG xs ys), List.take_length] at v
      refine ⟨_, rfl, p', xs, rfl, so_any (v.same _ _ (s4 _ _ hat)), fun l hl1 => ?_⟩
      have mr : ∀ u ∈ (trM n xss).map fun ys => leastG xs ys, Itm u := cm _ (by unfold mulM; exact List.mem_map.mpr ⟨xs, mx, rfl⟩)
      have nD : D ≠ l := ne_of_none v.at_ hl1
      refine ⟨dR ((trM n xss).map fun ys => leastG xs ys), dR xs, .lst (SqL.of (by rw [upd_ne nD]; exact v.at_)) (dp_row mr), .lst (SqL.of upd_same) (dp_row fun u hu => (cx u hu).itm), shaped_R _, shaped_R _, _, rfl, ?_⟩
      have s6 : Same H3 (upd H6 l (.lst xs)) := (s4.trans v.same).trans (upd_new hl1)
      cases he : PyData.eqv (dR ((trM n xss).map fun ys => leastG xs ys)) (dR xs) with
      | true =>
        refine iteF ⟨_, _, rfl, s6, fun j zs hj hz => ?_⟩
        by_cases hji : j = i
        · subst hji
          rw [hxs] at hz
          injection hz with hz
          subst hz
          exact he
        · exact hok j zs (by omega) hz
      | false =>
        refine iteT ?_
        have := q _ (sH.trans s6)
        rw [em, eqv_no (i := i) (a := dR ((trM n xss).map fun ys => leastG xs ys)) (b := dR xs) (by rw [List.getElem?_map, mget hxs]; rfl) (by rw [List.getElem?_map, hxs]; rfl) he] at this
        exact this
  · rintro _ H4 ⟨o2, o3, rfl, s4, hok⟩
    have := q H4 (sH.trans s4)
    rw [em, eqv_yes (by rw [List.length_map, List.length_map, (mulM_sqr n1).1, n1.1]) (fun i a b ha hb => ?_)] at this
    · exact this
    · rw [List.getElem?_map] at ha hb
      obtain ⟨xs, hxs, rfl⟩ := Option.map_eq_some_iff.mp hb
      rw [mget hxs] at ha
      injection ha with ha
      subst ha
      have hi := (List.getElem?_eq_some_iff.mp hxs).1
      exact hok i xs (by rw [List.length_map]; omega) hxs
abbrev sis_stable : Stmt := top 28
theorem scis_stable : FnScope ["shape"] ["shape"] (defScope sis_stable) := ⟨rfl, rfl, rfl, by decide +kernel, rfl, by decide +kernel, by decide +kernel⟩
theorem ok_stable {f f1 f2 : Addr} {fd fd1 fd2 : FuncData} (F : Fun K "is_stable" "is_stable" sis_stable f fd) (T : Txt mg base)
    (D_require_shape : Df P w K mg base CX0 5 "require_shape" f1 fd1 ["value"] (spReq ShI)) (D_is_stable_shape : Df P w K mg base CX0 2 "is_stable_shape" f2 fd2 ["shape"] spStable) : FnG P w K mg base CX0 6 f fd ["shape"] spStable := by
  refine okG F scis_stable (fun vs H Q E h => ?_) (fun cdv A outer s H vs Q E hc hr h => ?_)
  · obtain ⟨x, xss, n, rfl, _⟩ := h
    rfl
  obtain ⟨x, xss, n, rfl, h1, n1, hz, c1, q⟩ := h
  refine ⟨_, (pss_cons (ps_expr (pe_d D_require_shape hc (hr.mono (by decide)) (by rfl) (fun _ => passN) (pa_cons (pv 0) pa_nil)))
 (pss_one (ps_ret (pe_d D_is_stable_shape hc (hr.mono (by decide)) (by rfl) (fun _ => passN) (pa_cons (pv 0) pa_nil))))), ?_⟩
  refine ⟨_, rfl, x, xss, n, rfl, h1, n1, hz, c1, fun H1 s1 => ?_⟩
  exact ⟨_, rfl, x, xss, n, rfl, h1.same s1, n1, hz, c1, fun H2 s2 => q H2 (s1.trans s2)⟩
end
end KM

/-! the pool at p, and all the data beside it -/
namespace KM
open PySem L2 Gd Zn
/-- all but what stands at p -/
def Gp (H : Hp) (p : Addr) : Hp := fun a => if a = p then none else H a
structure Pool (G H : Hp) (p : Addr) : Prop where
  b : BoxAt H p
  s : Same G H
  n : G p = none
theorem gp_ne {H : Hp} {p a : Addr} (h : a ≠ p) : Gp H p a = H a := if_neg h
theorem gp_at {H : Hp} {p a : Addr} {o : HO} (h : a ≠ p) (e : H a = some o) : Gp H p a = some o := (gp_ne h).trans e
theorem gp_same {H : Hp} {p : Addr} : Same (Gp H p) H := fun a o e => by
  by_cases c : (a = p)
  · subst c
    rw [show Gp H a a = none from if_pos rfl] at e
    exact nomatch e
  · rw [gp_ne c] at e
    exact e
theorem Pool.take {G H H' : Hp} {p : Addr} (P : Pool G H p) (t : Turned H H' p) : Pool G H' p :=
  ⟨t.1, fun a o e => t.at (fun x => by rw [x, P.n] at e; exact nomatch e) (P.s a o e), P.n⟩
theorem Pool.go {G H H' : Hp} {p : Addr} (P : Pool G H p) (s : Same H H') : Pool G H' p := by
  obtain ⟨x, y, z, h, r⟩ := P.b
  exact ⟨⟨x, y, z, s _ _ h, r⟩, P.s.trans s, P.n⟩
/-- all that stands by now -/
theorem Pool.all {G H : Hp} {p : Addr} (P : Pool G H p) : Pool (Gp H p) H p ∧ Same G (Gp H p) :=
  ⟨⟨P.b, gp_same, if_pos rfl⟩, fun a o e => gp_at (fun x => by rw [x, P.n] at e; exact nomatch e) (P.s a o e)⟩
theorem Pool.ne {G H : Hp} {p a : Addr} (P : Pool G H p) (h : H a = none) : a ≠ p := fun e => by
  obtain ⟨o, ho⟩ := P.b.some
  rw [e, ho] at h
  exact nomatch h
theorem Pool.new {G H : Hp} {p a : Addr} {o : HO} (P : Pool G H p) (h : H a = none) : Pool (upd G a o) (upd H a o) p := by
  have hne := P.ne h
  refine ⟨P.b.upd h, fun c u e => ?_, by rw [upd_ne hne.symm]; exact P.n⟩
  by_cases x : (c = a)
  · subst x
    rw [upd_same] at e ⊢
    exact e
  · rw [upd_ne x] at e ⊢
    exact P.s c u e
theorem Pool.fresh {G H : Hp} {p a : Addr} (P : Pool G H p) (h : H a = none) : G a = none := by
  cases e : G a with
  | none => rfl
  | some u => rw [P.s _ _ e] at h; exact nomatch h
theorem Pool.put {G H : Hp} {p a : Addr} {o : HO} (P : Pool G H p) (hp : a ≠ p) (h : G a = none) : Pool G (upd H a o) p := by
  obtain ⟨x, y, z, e, r⟩ := P.b
  refine ⟨⟨x, y, z, by rw [upd_ne hp.symm]; exact e, r⟩, fun c u e => ?_, P.n⟩
  have : c ≠ a := fun x => by rw [x, h] at e; exact nomatch e
  rw [upd_ne this]
  exact P.s c u e
/-- what stands at a is counted to the data -/
theorem Pool.own {G H : Hp} {p a : Addr} {o : HO} (P : Pool G H p) (hp : a ≠ p) (h : G a = none) (e : H a = some o) : Pool (upd G a o) H p ∧ Same G (upd G a o) := by
  refine ⟨⟨P.b, fun c u hc => ?_, by rw [upd_ne hp.symm]; exact P.n⟩, upd_new h⟩
  by_cases x : (c = a)
  · subst x
    rw [upd_same] at hc
    rw [e]
    exact hc
  · rw [upd_ne x] at hc
    exact P.s c u hc
theorem NewM.gp {G H H' : Hp} {p : Addr} {x : V} {xss : List (List V)} (P : Pool G H p) : NewM H H' x xss → LMat (Gp H' p) x xss
  | ⟨D, e, b⟩ => by
    obtain ⟨ps, h1, h2, h3, _⟩ := b.ex
    exact ⟨D, ps, e, gp_at (P.ne b.free) h1, h2.on fun q hq => gp_ne (P.ne (h3 q hq).1)⟩
end KM

namespace KM
open PySem L2 Gd Zn
def spDrawn : Sp := fun vs H Q _ => ∃ (p : Addr) (n : Nat) (it : Addr) (ws : List V) (G : Hp), vs = [.ref p, .int n, .ref it] ∧ Pool G H p ∧ n ≤ 12 ∧ G it = some (.lst ws) ∧ 0 < ws.length ∧ ws.length < 1000 ∧
  ∀ v H' G' xss, Pool G' H' p → Same G G' → LMat G' v xss → Sqr n xss → All (fun v => v ∈ ws) xss → Q v H'
def spGiven : Sp := fun vs H Q _ => ∃ (p : Addr) (x : V) (xss : List (List V)) (n : Nat) (G : Hp), vs = [.ref p, x] ∧ Pool G H p ∧ n ≤ 12 ∧ LMat G x xss ∧ Sqr n xss ∧ ∀ v H' G', Pool G' H' p → Same G G' → MAt G' v xss → Q v H'
section
variable {P : Program} {w : World} {K : PySem.W.Frag} {mg : Str → Option Value} {base : Heap}
abbrev s_law_drawn : Stmt := top 34
theorem sc_law_drawn : FnScope ["_law_box_here", "_law_size", "_law_items", "_law_common", "_law_found", "_law_i", "_law_j"] ["_law_box_here", "_law_size", "_law_items"] (defScope s_law_drawn) := ⟨rfl, rfl, rfl, by decide +kernel, rfl, by decide +kernel, by decide +kernel⟩
theorem ok_drawn {f f1 : Addr} {fd fd1 : FuncData} (F : Fun K "_law_drawn" "_law_drawn" s_law_drawn f fd) (T : Txt mg base)
    (D__law_take : Df P w K mg base CX0 1 "_law_take" f1 fd1 ["_law_box_here", "_law_size"] spTake) : FnG P w K mg base CX0 2 f fd ["_law_box_here", "_law_size", "_law_items"] spDrawn := by
  refine okG F sc_law_drawn (fun vs H Q E h => ?_) (fun cdv A outer s H vs Q E hc hr h => ?_)
  · obtain ⟨p, n, it, ws, G, rfl, _⟩ := h
    rfl
  obtain ⟨p, n, it, ws, G, rfl, hP, hz, hit, w0, w1, q⟩ := h
  refine ⟨_, (pss_cons (ps_set (i := 3) sc_law_drawn.nd rfl (Or.inr rfl) (pe_ix ix_list (pv 2) (pe_d D__law_take hc (hr.mono (by decide)) (by rfl) (fun _ => passN) (pa_cons (pv 0) (pa_cons (pe_callB call_len_seq (by rfl) T.z_len (by decide +kernel) (pa_cons (pv 2) pa_nil)) pa_nil))) (fun _ _ => rfl)))
 (pss_cons (ps_set (i := 4) sc_law_drawn.nd rfl (Or.inl rfl) (pe_lst pa_nil))
 (pss_cons (ps_for (passes_of rfl) rfl (pi_range1 rfl T.z_range (pa_cons (pv 1) pa_nil)) (pg_name (i := 5) sc_law_drawn.nd rfl (Or.inl rfl))
  (pss_one (ps_expr (pe_bm PySem.F.plainAttrs_list PySem.F.slot_list_append PySem.F.type_list_append mt_append (pv 4) (pa_cons (pe_lc (own := [("_law_j", 6)]) (g := gName 6) rfl sc_law_drawn.nd (pi_range1 rfl T.z_range (pa_cons (pv 1) pa_nil)) (blkOk_by (N := ["_law_box_here", "_law_size", "_law_items", "_law_common", "_law_found", "_law_i", "_law_j"]) (sc := defScope s_law_drawn) (by decide +kernel)) (fun _ _ _ _ _ => pg_name (i := 6) sc_law_drawn.nd rfl (Or.inl rfl)) (fun _ _ _ _ _ => pts_nil) (fun _ _ _ _ _ => (pe_ix (ix_listK (K := K) rfl) (pe_lst (pa_cons (pv 3) (pa_cons (pe_ix (ix_listK (K := K) rfl) (pv 2) (pe_d D__law_take hc (hr.mono (by decide)) (by rfl) (fun _ => passN) (pa_cons (pv 0) (pa_cons (pe_callB (call_lenK (K := K) rfl) (by rfl) T.z_len (by decide +kernel) (pa_cons (pv 2) pa_nil)) pa_nil))) (fun _ _ => rfl)) pa_nil))) (pe_d D__law_take hc (hr.mono (by decide)) (by rfl) (fun _ => passN) (pa_cons (pv 0) (pa_cons pe_int pa_nil))) (fun _ _ => rfl)))) pa_nil)))))
 (pss_one (ps_ret (pv 4)))))), ?_⟩
  have s12 : 12 < sizeLine := by decide
  have sit : ∀ {H'}, Pool G H' p → SqL K H' it ws := fun P => SqL.of (P.s _ _ hit)
  refine ⟨_, rfl, _, rfl, _, rfl, it, _, rfl, .inl (sit hP), p, ws.length, rfl, hP.b, by omega, by omega, fun d H1 b1 b2 t1 => ?_⟩
  have P1 := hP.take t1
  obtain ⟨c, hc1, hc2⟩ := atI_all (l := ws) (p := fun v => v ∈ ws) (fun v hv => hv) b1 b2
  refine ⟨it, _, _, c, rfl, rfl, sit P1, hc1, ?_⟩
  refine ⟨by show 0 ≤ sizeLine; omega, fun D hD => ?_⟩
  have Dp := P1.ne hD
  have GD := P1.fresh hD
  refine ⟨_, rfl, (n : Int), rfl, by omega, by omega, ?_⟩
  refine for_range (n := n) (fun i σ H' => ∃ o5 o6 xss ps G2, σ = [some (.ref p), some (.int n), some (.ref it), some c, some (.ref D), o5, o6] ∧ (xss : List (List V)).length = i ∧ (∀ xs ∈ xss, xs.length = n) ∧ All (fun v => v ∈ ws) xss ∧ H' D = some (.lst (ps.map V.ref)) ∧ LsAt G2 ps xss ∧ Pool G2 H' p ∧ Same G G2 ∧ G2 D = none)
    ⟨none, none, [], [], G, rfl, rfl, (fun _ h => absurd h List.not_mem_nil), (fun _ h => absurd h List.not_mem_nil), upd_same, .nil, P1.put Dp GD, Same.refl G, GD⟩ ?_ ?_
  · rintro i _ H2 hi ⟨o5, o6, xss, ps, G2, rfl, e1, e2, e3, e4, e5, P2, sG, gD⟩
    have sit2 : ∀ {H'}, Pool G2 H' p → SqL K H' it ws := fun P => SqL.of (P.s _ _ (sG _ _ hit))
    refine ⟨_, rfl, .inl ⟨rfl, _, SqL.of e4⟩, ?_⟩
    refine ⟨_, rfl, (n : Int), rfl, by omega, by omega, fun D2 hD2 => ?_⟩
    have D2p := P2.ne hD2
    have D2D : D2 ≠ D := fun e => by rw [e, e4] at hD2; exact nomatch hD2
    have gD2 := P2.fresh hD2
    refine lc_it (walk_range (lo := 0) (n := n)) (fun j H' => ∃ ys, (ys : List V).length = j ∧ (∀ v ∈ ys, v ∈ ws) ∧ H' D2 = some (.lst ys) ∧ H' D = some (.lst (ps.map V.ref)) ∧ Pool G2 H' p)
      ⟨[], rfl, (fun _ h => absurd h List.not_mem_nil), upd_same, by rw [upd_ne D2D.symm]; exact e4, P2.put D2p gD2⟩ (fun _ _ _ _ => trivial) ?_ ?_
    · rintro j _ _ H3 hj ⟨ys, y1, y2, y3, y4, P3⟩ ⟨rfl, rfl⟩
      refine ⟨rfl, yes_go ?_⟩
      refine ⟨_, rfl, _, rfl, _, rfl, _, rfl, it, _, rfl, .inl (sit2 P3), p, ws.length, rfl, P3.b, by omega, by omega, fun d H4 b1 b2 t1 => ?_⟩
      have P4 := P3.take t1
      obtain ⟨u, hu1, hu2⟩ := atI_all (l := ws) (p := fun v => v ∈ ws) (fun v hv => hv) b1 b2
      refine ⟨it, _, _, u, rfl, rfl, sit2 P4, hu1, by show 2 ≤ sizeLine; omega, fun l hl => ?_⟩
      have lp := P4.ne hl
      have P5 := P4.put (o := .lst [c, u]) lp (P4.fresh hl)
      refine ⟨_, rfl, p, 2, rfl, P5.b, by decide, by decide, fun d2 H6 b3 b4 t2 => ?_⟩
      have P6 := P5.take t2
      obtain ⟨z, hz1, hz2⟩ := atI_all (l := [c, u]) (p := fun v => v ∈ ws) (fun v hv => by
        rcases List.mem_cons.mp hv with rfl | hv
        · exact hc2
        · obtain rfl : v = u := by simpa using hv
          exact hu2) b3 b4
      have keep : ∀ {a o}, a ≠ p → H3 a = some o → H6 a = some o := fun {a o} hp e => by
        have e4 := t1.at hp e
        exact t2.at hp (by rw [upd_ne (ne_of_none e4 hl)]; exact e4)
      have at2 := keep D2p y3
      refine ⟨l, _, _, z, rfl, rfl, SqL.of (t2.at lp upd_same), hz1, ys, at2, by omega, ys ++ [z], by rw [List.length_append, y1] <;> rfl, fun v hv => ?_, upd_same, ?_, P6.put D2p gD2⟩
      · rcases List.mem_append.mp hv with hv | hv
        · exact y2 v hv
        · obtain rfl : v = z := by simpa using hv
          exact hz2
      · rw [upd_ne D2D.symm]
        exact keep Dp y4
    · rintro H3 ⟨ys, y1, y2, y3, y4, P3⟩
      obtain ⟨P4, s4⟩ := P3.own D2p gD2 y3
      have lps := e5.len
      refine ⟨D, _, _, rfl, rfl, y4, by rw [List.length_map]; omega, _, _, xss ++ [ys], ps ++ [D2], _, rfl, by rw [List.length_append, e1] <;> rfl, fun xs hx => ?_, fun xs hx => ?_, by rw [List.map_append]; exact upd_same, (e5.same s4).snoc upd_same, P4.put Dp (by rw [upd_ne D2D.symm]; exact gD), sG.trans s4, by rw [upd_ne D2D.symm]; exact gD⟩
      · rcases List.mem_append.mp hx with hx | hx
        · exact e2 xs hx
        · obtain rfl : xs = ys := by simpa using hx
          exact y1
      · rcases List.mem_append.mp hx with hx | hx
        · exact e3 xs hx
        · obtain rfl : xs = ys := by simpa using hx
          exact y2
  · rintro _ H2 ⟨o5, o6, xss, ps, G2, rfl, e1, e2, e3, e4, e5, P2, sG, gD⟩
    obtain ⟨P3, s3⟩ := P2.own Dp gD e4
    exact ⟨_, rfl, q _ _ _ xss P3 (sG.trans s3) ⟨D, ps, rfl, upd_same, e5.same s3⟩ ⟨e1, e2⟩ e3⟩
abbrev s_law_given : Stmt := top 35
theorem sc_law_given : FnScope ["_law_box_here", "_law_matrix", "_law_way", "_law_rows", "_law_row"] ["_law_box_here", "_law_matrix"] (defScope s_law_given) := ⟨rfl, rfl, rfl, by decide +kernel, rfl, by decide +kernel, by decide +kernel⟩
theorem ok_given {f f1 : Addr} {fd fd1 : FuncData} (F : Fun K "_law_given" "_law_given" s_law_given f fd) (T : Txt mg base)
    (D__law_take : Df P w K mg base CX0 1 "_law_take" f1 fd1 ["_law_box_here", "_law_size"] spTake) : FnG P w K mg base CX0 2 f fd ["_law_box_here", "_law_matrix"] spGiven := by
  refine okG F sc_law_given (fun vs H Q E h => ?_) (fun cdv A outer s H vs Q E hc hr h => ?_)
  · obtain ⟨p, x, xss, n, G, rfl, _⟩ := h
    rfl
  obtain ⟨p, x, xss, n, G, rfl, hP, hz, hx, hn, q⟩ := h
  refine ⟨_, (pss_cons (ps_set (i := 2) sc_law_given.nd rfl (Or.inr rfl) (pe_d D__law_take hc (hr.mono (by decide)) (by rfl) (fun _ => passN) (pa_cons (pv 0) (pa_cons pe_int pa_nil))))
 (pss_cons (ps_setLc (i := 3) (own := [("_law_row", 4)]) (g := gName 4) rfl sc_law_given.nd rfl rfl (sw_true rfl rfl rfl (by decide +kernel)) (pi_list (pv 1)) (blkOk_by (N := ["_law_box_here", "_law_matrix", "_law_way", "_law_rows", "_law_row"]) (sc := defScope s_law_given) (by decide +kernel)) (fun _ _ _ _ _ => pg_name (i := 4) sc_law_given.nd rfl (Or.inl rfl)) (fun _ _ _ _ _ => pts_nil) (fun _ _ _ _ _ => (pe_ifExp (pt_cmpR op_gt (pv 2) pe_int (nomark _)) (pe_callTy (call_tupleK (K := K) rfl) (by rfl) T.z_tuple (by decide +kernel) (pa_cons (pv 4) pa_nil)) (pe_callTy (call_listK (K := K) rfl) (by rfl) T.z_list (by decide +kernel) (pa_cons (pv 4) pa_nil)))))
 (pss_one (ps_ret (pe_ifExp (pt_cmpR op_eq (pv 2) pe_int (nomark _)) (pe_callTy call_tuple_of (by rfl) T.z_tuple (by decide +kernel) (pa_cons (pv 3) pa_nil)) (pv 3)))))), ?_⟩
  have s12 : 12 < sizeLine := by decide
  obtain ⟨D0, ps, rfl, h0, hr2⟩ := hx
  have hl := hr2.len
  refine ⟨_, rfl, p, 3, rfl, hP.b, by decide, by decide, fun d H1 b1 b2 t1 => ?_⟩
  have P1 := hP.take t1
  refine ⟨_, rfl, D0, rfl, ⟨_, SqL.of (P1.s _ _ h0)⟩, fun D hD => ?_⟩
  have Dp := P1.ne hD
  have GD := P1.fresh hD
  refine lc_it walk_list (fun i H' => ∃ bs G2, H' D = some (.lst ((bs : Bs).map fun q => V.ref q.2)) ∧ RwAt G2 bs (xss.take i) ∧ Pool G2 H' p ∧ Same G G2 ∧ G2 D = none)
    ⟨[], G, upd_same, .nil, P1.put Dp GD, Same.refl G, GD⟩ (fun i H' _ ⟨_, _, _, _, P2, sG, _⟩ => SqL.of (P2.s _ _ (sG _ _ h0))) ?_ ?_
  · rintro i x _ H2 hi ⟨bs, G2, e1, e2, P2, sG, gD⟩ ⟨rfl, hx⟩
    rw [List.getElem?_map] at hx
    cases eq : ps[i]? with
    | none => rw [eq] at hx; exact nomatch hx
    | some qi =>
      rw [eq] at hx
      cases hx
      obtain ⟨xs, hxs, hat⟩ := hr2.get eq
      have hat2 := P2.s _ _ (sG _ _ hat)
      have lb := e2.len
      have step : ∀ (b : Bool) (l : Addr), H2 l = none → ∃ acc, (upd H2 l (so b xs)) D = some (.lst acc) ∧ acc.length < sizeLine ∧ ∃ bs G2, (upd (upd H2 l (so b xs)) D (.lst (acc ++ [V.ref l]))) D = some (.lst ((bs : Bs).map fun q => V.ref q.2)) ∧ RwAt G2 bs (xss.take (i + 1)) ∧ Pool G2 (upd (upd H2 l (so b xs)) D (.lst (acc ++ [V.ref l]))) p ∧ Same G G2 ∧ G2 D = none := by
        intro b l hl1
        have lD : l ≠ D := fun e => by rw [e, e1] at hl1; exact nomatch hl1
        have gl := P2.fresh hl1
        have P3 := P2.new (o := so b xs) hl1
        refine ⟨_, by rw [upd_ne lD.symm]; exact e1, by rw [List.length_map, lb, List.length_take, hn.1]; omega, bs ++ [(b, l)], upd G2 l (so b xs), by rw [List.map_append]; exact upd_same, ?_, P3.put Dp (by rw [upd_ne lD.symm]; exact gD), sG.trans (upd_new gl), by rw [upd_ne lD.symm]; exact gD⟩
        rw [take_succ hxs]
        have snoc : ∀ {bs : Bs} {yss : List (List V)}, RwAt (upd G2 l (so b xs)) bs yss → RwAt (upd G2 l (so b xs)) (bs ++ [(b, l)]) (yss ++ [xs]) := by
          intro bs yss h
          induction h with
          | nil => exact .cons upd_same .nil
          | cons a _ ih => exact .cons a ih
        exact snoc (e2.same (upd_new gl))
      refine ⟨rfl, yes_go ?_⟩
      refine ⟨_, rfl, _, _, rfl, rfl, _, rfl, ?_⟩
      refine iteB (fun _ => ?_) fun _ => ?_
      · exact ⟨_, rfl, qi, xs, rfl, .inl ⟨SqL.of hat2, fun l hl1 => step false l hl1⟩⟩
      · exact ⟨_, rfl, qi, xs, rfl, .inl (SqL.of hat2), fun l hl1 => step true l hl1⟩
  · rintro H2 ⟨bs, G2, e1, e2, P2, sG, gD⟩
    rw [List.length_map, hl, List.take_length] at e2
    refine ⟨_, rfl, rfl, _, rfl, ?_⟩
    refine iteB (fun _ => ?_) fun _ => ?_
    · refine ⟨_, rfl, D, _, rfl, .inl ⟨SqL.of e1, fun l hl1 => ?_⟩⟩
      have P3 := P2.new (o := so false (bs.map fun q => V.ref q.2)) hl1
      have gl := P2.fresh hl1
      exact q _ _ _ P3 (sG.trans (upd_new gl)) ⟨false, l, bs, rfl, upd_same, e2.same (upd_new gl)⟩
    · obtain ⟨P3, s3⟩ := P2.own Dp gD e1
      exact ⟨_, rfl, q _ _ _ P3 (sG.trans s3) ⟨true, D, bs, rfl, upd_same, e2.same s3⟩⟩
end
end KM

namespace KM
open PySem L2 Gd Zn
/-- a list of integers != [] -/
theorem ints_nil {K : PySem.W.Frag} {H : Hp} {D D2 : Addr} {ns : List Int} (h1 : H D = some (.lst (ns.map V.int))) (h2 : H D2 = some (.lst [])) {Q : VK} (q : Q (.bl (!ns.isEmpty)) H) : rNeD K (.ref D) (.ref D2) H Q := by
  have dp : ∀ l : List Int, DpAll K H (l.map V.int) (l.map PyData.int) := by
    intro l
    induction l with
    | nil => exact .nil
    | cons c l ih => exact .cons (.int _) ih
  have shp : SeqAt.shaped (.list (ns.map PyData.int)) = true := by
    have r1 : ∀ l : List Int, PyData.canLayAll0 (l.map PyData.int) = true ∧ PyData.depthAll (l.map PyData.int) = 0 := by
      intro l
      induction l with
      | nil => exact ⟨by simp [PyData.canLayAll0], rfl⟩
      | cons c l ih =>
        refine ⟨by simp [PyData.canLayAll0, PyData.canLay0, ih.1], ?_⟩
        show max 0 (PyData.depthAll (l.map PyData.int)) = 0
        rw [ih.2]
        rfl
    obtain ⟨a, b⟩ := r1 ns
    unfold SeqAt.shaped
    rw [Bool.and_eq_true]
    refine ⟨by simp [PyData.canLay0, a], decide_eq_true ?_⟩
    show PyData.depthAll (ns.map PyData.int) + 1 ≤ 64
    rw [b]
    decide
  refine ⟨.list (ns.map PyData.int), .list [], .lst (SqL.of h1) (dp ns), .lst (SqL.of h2) .nil, shp, by decide, ?_⟩
  have eqv : PyData.eqv (.list (ns.map PyData.int)) (.list []) = ns.isEmpty := by
    cases ns <;> rfl
  rw [eqv]
  exact q
theorem LsAt.ix {H : Hp} {ps : List Addr} {xss : List (List V)} {n k : Nat} (h : LsAt H ps xss) (hn : Sqr n xss) (hk : k < n) : ∃ q xs, atI (ps.map V.ref) (k : Int) = some (.ref q) ∧ xss[k]? = some xs ∧ H q = some (.lst xs) ∧ xs.length = n := by
  have hl := h.len
  have lk : k < ps.length := by rw [hl, hn.1]; exact hk
  obtain ⟨xs, h1, h2⟩ := h.get (List.getElem?_eq_getElem lk)
  refine ⟨ps[k], xs, ?_, h1, h2, hn.2 xs (List.mem_of_getElem? h1)⟩
  refine atI_nat ?_
  rw [List.getElem?_map, List.getElem?_eq_getElem lk]
  rfl
theorem row_ix {xs : List V} {n k : Nat} (hn : xs.length = n) (hk : k < n) : atI xs (k : Int) = some (xs.getD k .non) ∧ xs[k]? = some (xs.getD k .non) := by
  have lk : k < xs.length := by omega
  have e : xs[k]? = some (xs.getD k .non) := by rw [List.getD_eq_getElem?_getD, List.getElem?_eq_getElem lk] <;> rfl
  exact ⟨atI_nat e, e⟩
def spSums : Sp := fun vs H Q _ => ∃ x y xss yss n, vs = [x, y] ∧ LMat H x xss ∧ LMat H y yss ∧ Sqr n xss ∧ Sqr n yss ∧ n ≤ 12 ∧ All Cost xss ∧ All Cost yss ∧ ∀ v H', NewM H H' v (mulM leastC n xss yss) → Q v H'
def spPaths : Sp := fun vs H Q _ => ∃ x y xss yss n, vs = [x, y] ∧ LMat H x xss ∧ LMat H y yss ∧ Sqr n xss ∧ Sqr n yss ∧ n ≤ 12 ∧ All ShI xss ∧ All ShI yss ∧ ∀ v H', NewM H H' v (mulM leastG n xss yss) → Q v H'
theorem not_non {v : V} (h : Cost v) : (v ≠ .non) ↔ ∃ i : Int, v = .int i := by
  rcases h with rfl | ⟨i, rfl, _⟩
  · exact ⟨fun h => absurd rfl h, fun ⟨i, e⟩ => nomatch e⟩
  · exact ⟨fun _ => ⟨i, rfl⟩, fun _ e => nomatch e⟩
section
variable {P : Program} {w : World} {K : PySem.W.Frag} {mg : Str → Option Value} {base : Heap}
abbrev s_law_sums : Stmt := top 36
theorem sc_law_sums : FnScope ["_law_one", "_law_other", "_law_size", "_law_found", "_law_row", "_law_line", "_law_j", "_law_sums_here", "_law_k"] ["_law_one", "_law_other"] (defScope s_law_sums) := ⟨rfl, rfl, rfl, by decide +kernel, rfl, by decide +kernel, by decide +kernel⟩
theorem ok_sums {f : Addr} {fd : FuncData} (F : Fun K "_law_sums" "_law_sums" s_law_sums f fd) (T : Txt mg base) : FnG P w K mg base CX0 1 f fd ["_law_one", "_law_other"] spSums := by
  refine okG F sc_law_sums (fun vs H Q E h => ?_) (fun cdv A outer s H vs Q E hc hr h => ?_)
  · obtain ⟨x, y, xss, yss, n, rfl, _⟩ := h
    rfl
  obtain ⟨x, y, xss, yss, n, rfl, hx, hy, n1, n2, hz, c1, c2, q⟩ := h
  refine ⟨_, (pss_cons (ps_par (i := 2) (j := 3) (by rfl) sc_law_sums.nd rfl rfl (by decide) rfl rfl (pa_cons (pe_callB call_len_seq (by rfl) T.z_len (by decide +kernel) (pa_cons (pv 0) pa_nil)) (pa_cons (pe_lst pa_nil) pa_nil)) (by rfl))
 (pss_cons (ps_for (passes_of rfl) rfl (pi_list (pv 0)) (pg_name (i := 4) sc_law_sums.nd rfl (Or.inr rfl))
  (pss_cons (ps_set (i := 5) sc_law_sums.nd rfl (Or.inl rfl) (pe_lst pa_nil))
 (pss_cons (ps_for (passes_of rfl) rfl (pi_range1 rfl T.z_range (pa_cons (pv 2) pa_nil)) (pg_name (i := 6) sc_law_sums.nd rfl (Or.inr rfl))
  (pss_cons (ps_setLc (i := 7) (own := [("_law_k", 8)]) (g := gName 8) rfl sc_law_sums.nd rfl rfl (sw_true rfl rfl rfl (by decide +kernel)) (pi_range1 rfl T.z_range (pa_cons (pv 2) pa_nil)) (blkOk_by (N := ["_law_one", "_law_other", "_law_size", "_law_found", "_law_row", "_law_line", "_law_j", "_law_sums_here", "_law_k"]) (sc := defScope s_law_sums) (by decide +kernel)) (fun _ _ _ _ _ => pg_name (i := 8) sc_law_sums.nd rfl (Or.inl rfl)) (fun _ _ _ _ _ => (pts_one (PW.pt (pw_and (pt_cmpR op_notN (pe_ix (ix_listK (K := K) rfl) (pv 4) (pv 8) (fun _ _ => rfl)) pe_non (nomark _)) (pw_and1 (pt_cmpR op_notN (pe_ix (ix_listK (K := K) rfl) (pe_ix (ix_listK (K := K) rfl) (pv 1) (pv 8) (fun _ _ => rfl)) (pv 6) (fun _ _ => rfl)) pe_non (nomark _))))))) (fun _ _ _ _ _ => (pe_op op_add (pe_ix (ix_listK (K := K) rfl) (pv 4) (pv 8) (fun _ _ => rfl)) (pe_ix (ix_listK (K := K) rfl) (pe_ix (ix_listK (K := K) rfl) (pv 1) (pv 8) (fun _ _ => rfl)) (pv 6) (fun _ _ => rfl)))))
 (pss_one (ps_expr (pe_bm PySem.F.plainAttrs_list PySem.F.slot_list_append PySem.F.type_list_append mt_append (pv 5) (pa_cons (pe_ifExp (pt_cmpR (op_neD hr.units) (pv 7) (pe_lst pa_nil) (nomark _)) (pe_callB (cr_min rfl) (by rfl) T.z_min (by decide +kernel) (pa_cons (pv 7) pa_nil)) pe_non) pa_nil))))))
 (pss_one (ps_expr (pe_bm PySem.F.plainAttrs_list PySem.F.slot_list_append PySem.F.type_list_append mt_append (pv 3) (pa_cons (pv 5) pa_nil)))))))
 (pss_one (ps_ret (pv 3))))), ?_⟩
  have s12 : 12 < sizeLine := by decide
  obtain ⟨D1, ps, rfl, h1, r1⟩ := hx
  obtain ⟨D2, qs, rfl, h2, r2⟩ := hy
  have l1 := r1.len
  have l2 := r2.len
  have ln : (ps.map V.ref).length = n := by rw [List.length_map, l1, n1.1]
  refine ⟨_, rfl, D1, _, rfl, .inl (SqL.of h1), by show 0 ≤ sizeLine; omega, fun F0 hF0 => ⟨_, _, rfl, ?_⟩⟩
  rw [ln]
  refine ⟨_, rfl, D1, rfl, ⟨_, SqL.of (by rw [upd_ne (ne_of_none h1 hF0)]; exact h1)⟩, ?_⟩
  have lm : (mulM leastC n xss yss).length = n := by unfold mulM; rw [List.length_map]; exact n1.1
  refine for_list (xs := ps.map V.ref) (fun i σ H' => ∃ o4 o5 o6 o7 o8, σ = [some (.ref D1), some (.ref D2), some (.int n), some (.ref F0), o4, o5, o6, o7, o8] ∧ Bld H F0 ((mulM leastC n xss yss).take i) H') ⟨_, _, _, _, _, rfl, Bld.nil hF0⟩ (fun i σ H' _ ⟨_, _, _, _, _, _, b⟩ => SqL.of (b.same _ _ h1)) ?_ ?_
  · rintro i x _ H2 hx ⟨o4, o5, o6, o7, o8, rfl, B⟩
    rw [List.getElem?_map] at hx
    cases eq : ps[i]? with
    | none => rw [eq] at hx; exact nomatch hx
    | some qi =>
      rw [eq] at hx
      cases hx
      obtain ⟨xs, hxs, hat⟩ := r1.get eq
      have lx := n1.2 xs (List.mem_of_getElem? hxs)
      have cx := c1 xs (List.mem_of_getElem? hxs)
      have hi : i < n := by rw [← n1.1]; exact (List.getElem?_eq_some_iff.mp hxs).1
      have er : (mulM leastC n xss yss)[i]? = some ((trM n yss).map fun ys => leastC xs ys) := by
        unfold mulM
        rw [List.getElem?_map, hxs]
        rfl
      refine ⟨by show 0 ≤ sizeLine; omega, fun L hL => ?_⟩
      refine ⟨_, rfl, (n : Int), rfl, by omega, by omega, ?_⟩
      refine for_range (n := n) (fun j σ H' => ∃ o6 o7 o8, σ = [some (.ref D1), some (.ref D2), some (.int n), some (.ref F0), some (.ref qi), some (.ref L), o6, o7, o8] ∧ Vls H2 L (((trM n yss).map fun ys => leastC xs ys).take j) H') ⟨_, _, _, rfl, Vls.nil hL⟩ ?_ ?_
      · rintro j _ H3 hj ⟨o6, o7, o8, rfl, v⟩
        have k1 : ∀ {a o}, H a = some o → H3 a = some o := fun e => v.same _ _ (B.same _ _ e)
        have ej : (trM n yss)[j]? = some (yss.map fun ys => ys.getD j .non) := trM_get hj
        refine ⟨_, rfl, (n : Int), rfl, by omega, by omega, fun D3 hD3 => ?_⟩
        have cz : ∀ u ∈ List.zipWith plusC xs (yss.map fun ys => ys.getD j .non), Cost u := fun u hu => by
          obtain ⟨a, ha, b, hb, rfl⟩ := zip_mem hu
          obtain ⟨ys, hys, rfl⟩ := List.mem_map.mp hb
          have := row_ix (n2.2 ys hys) hj
          exact plus_cost (cx a ha) (c2 ys hys _ (List.mem_of_getElem? this.2))
        refine lc_it (walk_range (lo := 0) (n := n)) (fun k H' => Vls H3 D3 (((List.zipWith plusC xs (yss.map fun ys => ys.getD j .non)).take k).filter fun v => decide (v ≠ .non)) H') (Vls.nil hD3) (fun _ _ _ _ => trivial) ?_ ?_
        · rintro k _ _ H4 hk v4 ⟨rfl, rfl⟩
          obtain ⟨qk, ys, a1, a2, a3, a4⟩ := r2.ix n2 hk
          obtain ⟨b1, b2⟩ := row_ix lx hk
          obtain ⟨g1, g2⟩ := row_ix a4 hj
          have k2 : ∀ {a o}, H a = some o → H4 a = some o := fun e => v4.same _ _ (k1 e)
          have e0 : ((0 : Int) + (k : Nat)) = (k : Int) := by omega
          have e1 : ((0 : Int) + (j : Nat)) = (j : Int) := by omega
          have zk : (List.zipWith plusC xs (yss.map fun ys => ys.getD j .non))[k]? = some (plusC (xs.getD k .non) (ys.getD j .non)) := zip_get b2 (by rw [List.getElem?_map, a2] <;> rfl)
          have zl : (List.zipWith plusC xs (yss.map fun ys => ys.getD j .non)).length ≤ 12 := by rw [List.length_zipWith]; omega
          rw [take_succ zk, List.filter_append]
          have cxk := cx _ (List.mem_of_getElem? b2)
          have cyk := c2 ys (List.mem_of_getElem? a2) _ (List.mem_of_getElem? g2)
          generalize xs.getD k .non = xk at b1 cxk zk
          generalize ys.getD j .non = yk at g1 cyk zk
          rw [← e0] at a1 b1
          rw [← e1] at g1
          refine ⟨rfl, ?_⟩
          refine ⟨_, rfl, _, rfl, qi, _, _, xk, rfl, rfl, SqL.of (k2 hat), b1, rfl, _, rfl, ?_⟩
          rcases cxk with rfl | ⟨i1, rfl, _⟩
          · refine iteF (iteF ?_)
            simpa [plusC] using v4
          · refine iteT ⟨_, rfl, _, rfl, D2, _, _, _, rfl, rfl, SqL.of (k2 h2), a1, _, rfl, qk, _, _, yk, rfl, rfl, SqL.of (k2 a3), g1, rfl, _, rfl, ?_⟩
            rcases cyk with rfl | ⟨j1, rfl, _⟩
            · refine iteF ?_
              simpa [plusC] using v4
            · refine iteT ?_
              refine ⟨_, rfl, _, rfl, qi, _, _, _, rfl, rfl, SqL.of (k2 hat), b1, _, rfl, _, rfl, D2, _, _, _, rfl, rfl, SqL.of (k2 h2), a1, _, rfl, qk, _, _, _, rfl, rfl, SqL.of (k2 a3), g1, _, _, rfl, rfl, ?_⟩
              rw [List.filter_cons_of_pos (by simp [plusC])]
              exact v4.add (Nat.lt_of_le_of_lt (List.length_filter_le _ _) (by rw [List.length_take]; omega))
        · intro H4 v4
          have zl : (List.zipWith plusC xs (yss.map fun ys => ys.getD j .non)).length ≤ n := by rw [List.length_zipWith]; omega
          rw [List.take_of_length_le zl, intsOf_filter cz] at v4
          have L3 : H3 L = some (.lst (((trM n yss).map fun ys => leastC xs ys).take j)) := v.at_
          have fin : ∀ (H5 : Hp), Same H4 H5 → ∃ acc, H5 L = some (.lst acc) ∧ acc.length < sizeLine ∧ Vls H2 L (((trM n yss).map fun ys => leastC xs ys).take (j + 1)) (upd H5 L (.lst (acc ++ [leastC xs (yss.map fun ys => ys.getD j .non)]))) := by
            intro H5 s5
            have v5 := v.ext (v4.same.trans s5)
            rw [take_succ (x := leastC xs (yss.map fun ys => ys.getD j .non)) (by rw [List.getElem?_map, ej] <;> rfl)]
            exact v5.add (by rw [List.length_take, List.length_map, trM_len]; omega)
          refine ⟨_, rfl, .inl ⟨rfl, _, SqL.of (v4.same _ _ L3)⟩, ?_⟩
          refine ⟨_, rfl, by show 0 ≤ sizeLine; omega, fun D4 hD4 => ?_⟩
          refine ints_nil (upd_new hD4 _ _ v4.at_) upd_same ⟨_, rfl, ?_⟩
          have e : leastC xs (yss.map fun ys => ys.getD j .non) = minL (intsOf (List.zipWith plusC xs (yss.map fun ys => ys.getD j .non))) := rfl
          have s5 : Same H4 (upd H4 D4 (.lst [])) := upd_new hD4
          rw [e] at fin
          generalize intsOf (List.zipWith plusC xs (yss.map fun ys => ys.getD j .non)) = ns at v4 fin e
          cases ns with
          | nil =>
            obtain ⟨acc, a1, a2, a3⟩ := fin _ s5
            exact iteF ⟨L, acc, _, rfl, rfl, a1, a2, _, _, _, rfl, a3⟩
          | cons m ms =>
            refine iteT ⟨_, rfl, D3, m :: ms, rfl, SqL.of (s5 _ _ v4.at_), Nat.succ_pos _, fun m' g1 g2 => ?_⟩
            rw [minL_is g1 g2] at fin
            obtain ⟨acc, a1, a2, a3⟩ := fin _ s5
            exact ⟨L, acc, _, rfl, rfl, a1, a2, _, _, _, rfl, a3⟩
      · rintro _ H3 ⟨o6, o7, o8, rfl, v⟩
        rw [List.take_of_length_le (by rw [List.length_map, trM_len]; exact Nat.le_refl _)] at v
        obtain ⟨acc, a1, a2, a3⟩ := B.add hL v.same v.at_ (by rw [List.length_take, lm]; omega)
        rw [← take_succ er] at a3
        exact ⟨_, rfl, .inl ⟨rfl, _, SqL.of a1⟩, _, rfl, F0, acc, _, rfl, rfl, a1, a2, _, _, _, _, _, rfl, a3⟩
  · rintro _ H2 ⟨o4, o5, o6, o7, o8, rfl, B⟩
    rw [ln, List.take_of_length_le (by rw [lm]; exact Nat.le_refl _)] at B
    exact ⟨_, rfl, q _ _ ⟨F0, rfl, B⟩⟩
abbrev s_law_paths : Stmt := top 37
theorem sc_law_paths : FnScope ["_law_one", "_law_other", "_law_size", "_law_row", "_law_j", "_law_k"] ["_law_one", "_law_other"] (defScope s_law_paths) := ⟨rfl, rfl, rfl, by decide +kernel, rfl, by decide +kernel, by decide +kernel⟩
theorem ok_paths {f : Addr} {fd : FuncData} (F : Fun K "_law_paths" "_law_paths" s_law_paths f fd) (T : Txt mg base) : FnG P w K mg base CX0 1 f fd ["_law_one", "_law_other"] spPaths := by
  refine okG F sc_law_paths (fun vs H Q E h => ?_) (fun cdv A outer s H vs Q E hc hr h => ?_)
  · obtain ⟨x, y, xss, yss, n, rfl, _⟩ := h
    rfl
  obtain ⟨x, y, xss, yss, n, rfl, hx, hy, n1, n2, hz, c1, c2, q⟩ := h
  refine ⟨_, (pss_cons (ps_set (i := 2) sc_law_paths.nd rfl (Or.inr rfl) (pe_callB call_len_seq (by rfl) T.z_len (by decide +kernel) (pa_cons (pv 0) pa_nil)))
 (pss_one (ps_ret (pe_lc (own := [("_law_row", 3)]) (g := gName 3) rfl sc_law_paths.nd (pi_list (pv 0)) (blkOk_by (N := ["_law_one", "_law_other", "_law_size", "_law_row", "_law_j", "_law_k"]) (sc := defScope s_law_paths) (by decide +kernel)) (fun _ _ _ _ _ => pg_name (i := 3) sc_law_paths.nd rfl (Or.inr rfl)) (fun _ _ _ _ _ => pts_nil) (fun _ _ _ _ _ => (pe_lc (own := [("_law_j", 4)]) (g := gName 4) rfl sc_law_paths.nd (pi_range1 rfl T.z_range (pa_cons (pv 2) pa_nil)) (blkOk_by (N := ["_law_one", "_law_other", "_law_size", "_law_row", "_law_j", "_law_k"]) (sc := (relS _ (defScope s_law_paths))) (by decide +kernel)) (fun _ _ _ _ _ => pg_name (i := 4) sc_law_paths.nd rfl (Or.inr rfl)) (fun _ _ _ _ _ => pts_nil) (fun _ _ _ _ _ => (pe_callB (cr_minK (K := K) rfl rfl) (by rfl) T.z_min (by decide +kernel) (pa_cons (pe_lc (own := [("_law_k", 5)]) (g := gName 5) rfl sc_law_paths.nd (pi_range1 rfl T.z_range (pa_cons (pv 2) pa_nil)) (blkOk_by (N := ["_law_one", "_law_other", "_law_size", "_law_row", "_law_j", "_law_k"]) (sc := (relS _ (relS _ (defScope s_law_paths)))) (by decide +kernel)) (fun _ _ _ _ _ => pg_name (i := 5) sc_law_paths.nd rfl (Or.inl rfl)) (fun _ _ _ _ _ => pts_nil) (fun _ _ _ _ _ => (pe_callB (call_max2 rfl) (by rfl) T.z_max (by decide +kernel) (pa_cons (pe_ix (ix_listK (K := K) rfl) (pv 3) (pv 5) (fun _ _ => rfl)) (pa_cons (pe_ix (ix_listK (K := K) rfl) (pe_ix (ix_listK (K := K) rfl) (pv 1) (pv 5) (fun _ _ => rfl)) (pv 4) (fun _ _ => rfl)) pa_nil))))) pa_nil))))))))), ?_⟩
  have s12 : 12 < sizeLine := by decide
  obtain ⟨D1, ps, rfl, h1, r1⟩ := hx
  obtain ⟨D2, qs, rfl, h2, r2⟩ := hy
  have l1 := r1.len
  have ln : (ps.map V.ref).length = n := by rw [List.length_map, l1, n1.1]
  refine ⟨_, rfl, D1, _, rfl, .inl (SqL.of h1), ?_⟩
  rw [ln]
  have lm : (mulM leastG n xss yss).length = n := by unfold mulM; rw [List.length_map]; exact n1.1
  refine ⟨_, rfl, D1, rfl, ⟨_, SqL.of h1⟩, fun F0 hF0 => ?_⟩
  refine lc_it walk_list (fun i H' => Bld H F0 ((mulM leastG n xss yss).take i) H') (Bld.nil hF0) (fun i H' _ b => SqL.of (b.same _ _ h1)) ?_ ?_
  · rintro i x _ H2 _ B ⟨rfl, hx⟩
    rw [List.getElem?_map] at hx
    cases eq : ps[i]? with
    | none => rw [eq] at hx; exact nomatch hx
    | some qi =>
      rw [eq] at hx
      cases hx
      obtain ⟨xs, hxs, hat⟩ := r1.get eq
      have lx := n1.2 xs (List.mem_of_getElem? hxs)
      have cx := c1 xs (List.mem_of_getElem? hxs)
      have hi : i < n := by rw [← n1.1]; exact (List.getElem?_eq_some_iff.mp hxs).1
      have er : (mulM leastG n xss yss)[i]? = some ((trM n yss).map fun ys => leastG xs ys) := by
        unfold mulM
        rw [List.getElem?_map, hxs]
        rfl
      refine ⟨rfl, yes_go ⟨_, rfl, (n : Int), rfl, by omega, by omega, fun L hL => ?_⟩⟩
      refine lc_it (walk_range (lo := 0) (n := n)) (fun j H' => Vls H2 L (((trM n yss).map fun ys => leastG xs ys).take j) H') (Vls.nil hL) (fun _ _ _ _ => trivial) ?_ ?_
      · rintro j _ _ H3 hj v ⟨rfl, rfl⟩
        have k1 : ∀ {a o}, H a = some o → H3 a = some o := fun e => v.same _ _ (B.same _ _ e)
        have ej : (trM n yss)[j]? = some (yss.map fun ys => ys.getD j .non) := trM_get hj
        refine ⟨rfl, yes_go ⟨_, rfl, (n : Int), rfl, by omega, by omega, fun D3 hD3 => ?_⟩⟩
        have zl : (List.zipWith maxC xs (yss.map fun ys => ys.getD j .non)).length = n := by rw [List.length_zipWith, List.length_map, lx, n2.1]; omega
        have cy : ∀ u ∈ yss.map (fun ys => ys.getD j .non), ShI u := fun u hu => by
          obtain ⟨ys, hys, rfl⟩ := List.mem_map.mp hu
          exact c2 ys hys _ (List.mem_of_getElem? (row_ix (n2.2 ys hys) hj).2)
        refine lc_it (walk_range (lo := 0) (n := n)) (fun k H' => Vls H3 D3 ((List.zipWith maxC xs (yss.map fun ys => ys.getD j .non)).take k) H') (Vls.nil hD3) (fun _ _ _ _ => trivial) ?_ ?_
        · rintro k _ _ H4 hk v4 ⟨rfl, rfl⟩
          obtain ⟨qk, ys, a1, a2, a3, a4⟩ := r2.ix n2 hk
          obtain ⟨b1, b2⟩ := row_ix lx hk
          obtain ⟨g1, g2⟩ := row_ix a4 hj
          have k2 : ∀ {a o}, H a = some o → H4 a = some o := fun e => v4.same _ _ (k1 e)
          have e0 : ((0 : Int) + (k : Nat)) = (k : Int) := by omega
          have e1 : ((0 : Int) + (j : Nat)) = (j : Int) := by omega
          have zk : (List.zipWith maxC xs (yss.map fun ys => ys.getD j .non))[k]? = some (maxC (xs.getD k .non) (ys.getD j .non)) := zip_get b2 (by rw [List.getElem?_map, a2] <;> rfl)
          rw [take_succ zk]
          obtain ⟨i1, ei, _⟩ := cx _ (List.mem_of_getElem? b2)
          obtain ⟨j1, ej1, _⟩ := c2 ys (List.mem_of_getElem? a2) _ (List.mem_of_getElem? g2)
          rw [ei] at b1
          rw [ej1] at g1
          rw [ei, ej1]
          rw [← e0] at a1 b1
          rw [← e1] at g1
          refine ⟨rfl, yes_go ⟨_, rfl, _, rfl, qi, _, _, _, rfl, rfl, SqL.of (k2 hat), b1, _, rfl, _, rfl, D2, _, _, _, rfl, rfl, SqL.of (k2 h2), a1, _, rfl, qk, _, _, _, rfl, rfl, SqL.of (k2 a3), g1, _, _, rfl, ?_⟩⟩
          exact v4.add (by rw [List.length_take]; omega)
        · intro H4 v4
          rw [List.take_of_length_le (by omega)] at v4
          have fin : ∃ ns : List Int, (List.zipWith maxC xs (yss.map fun ys => ys.getD j .non)) = ns.map V.int ∧ 0 < ns.length ∧ intsOf (List.zipWith maxC xs (yss.map fun ys => ys.getD j .non)) = ns := by
            have all : ∀ (l m : List V), (∀ v ∈ l, ShI v) → (∀ v ∈ m, ShI v) → List.zipWith maxC l m = (intsOf (List.zipWith maxC l m)).map V.int := by
              intro l
              induction l with
              | nil => exact fun m _ _ => rfl
              | cons a l ih =>
                intro m h1 h2
                cases m with
                | nil => rfl
                | cons b m =>
                  obtain ⟨i, rfl, _⟩ := h1 _ List.mem_cons_self
                  obtain ⟨j, rfl, _⟩ := h2 _ List.mem_cons_self
                  exact congrArg (List.cons _) (ih m (fun v hv => h1 v (List.mem_cons_of_mem _ hv)) (fun v hv => h2 v (List.mem_cons_of_mem _ hv)))
            have e := all xs _ cx cy
            refine ⟨_, e, ?_, rfl⟩
            have : (intsOf (List.zipWith maxC xs (yss.map fun ys => ys.getD j .non))).length = n := by rw [← zl]; conv => rhs; rw [e, List.length_map]
            omega
          obtain ⟨ns, e1, e2, e3⟩ := fin
          refine ⟨D3, ns, rfl, SqL.of (by rw [← e1]; exact v4.at_), e2, fun m g1 g2 => ?_⟩
          have e : leastG xs (yss.map fun ys => ys.getD j .non) = .int m := by
            unfold leastG
            rw [e3]
            exact minL_is g1 g2
          rw [take_succ (x := leastG xs (yss.map fun ys => ys.getD j .non)) (by rw [List.getElem?_map, ej] <;> rfl), e]
          exact (v.ext v4.same).add (by rw [List.length_take, List.length_map, trM_len]; omega)
      · intro H3 v
        rw [List.take_of_length_le (by rw [List.length_map, trM_len]; exact Nat.le_refl _)] at v
        rw [take_succ er]
        exact B.add hL v.same v.at_ (by rw [List.length_take, lm]; omega)
  · intro H2 B
    rw [ln, List.take_of_length_le (by rw [lm]; exact Nat.le_refl _)] at B
    exact q _ _ ⟨F0, rfl, B⟩
end
end KM

/-! given matrices written; rows that grow -/
namespace KM
open PySem L2 Gd Zn
/-- a matrix of lists or tuples, written -/
theorem RwAt.da {K : PySem.W.Frag} {H : Hp} {bs : Bs} {xss : List (List V)} {n : Nat} (hn : n ≤ 12) (h : RwAt H bs xss) (l : ∀ xs ∈ xss, xs.length ≤ n) (c : All Itm xss) :
    ∃ ds, DaL K H (bs.map fun q => V.ref q.2) ds ∧ OkL ds ∧ widL ds ≤ 3000 * xss.length ∧ PyData.depthAll ds ≤ 1 := by
  induction h with
  | nil => exact ⟨[], .nil, trivial, Nat.zero_le _, Nat.zero_le _⟩
  | @cons q xs bs xss a _ ih =>
    obtain ⟨ds, g1, g2, g3, g4⟩ := ih (fun u hu => l u (List.mem_cons_of_mem _ hu)) fun u hu => c u (List.mem_cons_of_mem _ hu)
    obtain ⟨a1, b1, c1⟩ := row_ok (c xs List.mem_cons_self)
    have l1 := l xs List.mem_cons_self
    obtain ⟨b, p⟩ := q
    cases b with
    | true =>
      refine ⟨.list (xs.map dI) :: ds, .cons (.lst a (da_row (c xs List.mem_cons_self))) g1, ⟨a1, g2⟩, ?_, ?_⟩
      · show widL (xs.map dI) + 2 + 2 + widL ds ≤ _
        rw [List.length_cons]
        omega
      · show max (PyData.depthAll (xs.map dI) + 1) (PyData.depthAll ds) ≤ 1
        rw [c1]
        omega
    | false =>
      refine ⟨.tuple (xs.map dI) :: ds, .cons (.tup (SqT.of a) (da_row (c xs List.mem_cons_self))) g1, ⟨a1, g2⟩, ?_, ?_⟩
      · show widL (xs.map dI) + 3 + 2 + widL ds ≤ _
        rw [List.length_cons]
        omega
      · show max (PyData.depthAll (xs.map dI) + 1) (PyData.depthAll ds) ≤ 1
        rw [c1]
        omega
theorem MAt.da {K : PySem.W.Frag} {H : Hp} {x : V} {xss : List (List V)} {n : Nat} (hn : n ≤ 12) (sq : Sqr n xss) (c : All Itm xss) : MAt H x xss → ∃ d, Da K H x d ∧ Ok1 d ∧ wid d ≤ 40000 ∧ d.depth ≤ 2
  | ⟨b, p, bs, e, h, r⟩ => by
    subst e
    obtain ⟨ds, g1, g2, g3, g4⟩ := r.da (K := K) hn (fun xs hx => by rw [sq.2 xs hx]; exact Nat.le_refl _) c
    rw [sq.1] at g3
    cases b with
    | true => exact ⟨.list ds, .lst h g1, g2, by show widL ds + 2 ≤ _; omega, by show PyData.depthAll ds + 1 ≤ 2; omega⟩
    | false => exact ⟨.tuple ds, .tup (SqT.of h) g1, g2, by show widL ds + 3 ≤ _; omega, by show PyData.depthAll ds + 1 ≤ 2; omega⟩
/-- two such in a list -/
theorem two_mats {K : PySem.W.Frag} {G : Hp} {x y : V} {xss yss : List (List V)} {n : Nat} (hn : n ≤ 12) (h1 : MAt G x xss) (s1 : Sqr n xss) (c1 : All Itm xss) (h2 : MAt G y yss) (s2 : Sqr n yss) (c2 : All Itm yss) :
    ∃ d, (∀ H' q, Same G H' → H' q = some (.lst [x, y]) → Da K H' (.ref q) d) ∧ Ok1 d ∧ wid d ≤ sizeLine ∧ d.depth ≤ 64 := by
  obtain ⟨a, a1, a2, a3, a4⟩ := h1.da (K := K) hn s1 c1
  obtain ⟨b, b1, b2, b3, b4⟩ := h2.da (K := K) hn s2 c2
  refine ⟨.list [a, b], fun H' q s h => .lst h (.cons (a1.same s) (.cons (b1.same s) .nil)), ⟨a2, b2, trivial⟩, ?_, ?_⟩
  · have := sizeLine_eq
    show (wid a + 2 + (wid b + 2 + 0)) + 2 ≤ sizeLine
    omega
  · show max a.depth (max b.depth 0) + 1 ≤ 64
    omega
/-- what is found, a list of lists beside all that matters -/
structure Fnd (G : Hp) (p D : Addr) (ps : List Addr) (rows : List (List V)) (H : Hp) : Prop where
  P : Pool G H p
  at_ : H D = some (.lst (ps.map V.ref))
  ls : LsAt H ps rows
  nd : ps.Nodup
  far : D ≠ p ∧ G D = none ∧ D ∉ ps ∧ ∀ q ∈ ps, q ≠ p ∧ G q = none
theorem Fnd.of {G H H' : Hp} {p : Addr} {x : V} {xss : List (List V)} (P : Pool G H p) : NewM H H' x xss → ∃ D ps, x = .ref D ∧ Fnd G p D ps xss H'
  | ⟨D, e, b⟩ => by
    obtain ⟨ps, h1, h2, h3, h4⟩ := b.ex
    exact ⟨D, ps, e, P.go b.same, h1, h2, h4, P.ne b.free, P.fresh b.free, fun hm => (h3 D hm).2 rfl, fun q hq => ⟨P.ne (h3 q hq).1, P.fresh (h3 q hq).1⟩⟩
theorem Fnd.go {G H H' : Hp} {p D : Addr} {ps : List Addr} {rows : List (List V)} (f : Fnd G p D ps rows H) (s : Same H H') : Fnd G p D ps rows H' :=
  ⟨f.P.go s, s _ _ f.at_, f.ls.same s, f.nd, f.far⟩
theorem LsAt.set {H : Hp} {ps : List Addr} {rows : List (List V)} (h : LsAt H ps rows) (nd : ps.Nodup) : ∀ {i : Nat} {q : Addr} {xs : List V}, ps[i]? = some q → LsAt (upd H q (.lst xs)) ps (rows.set i xs) := by
  induction h with
  | nil => exact fun e => by simp at e
  | @cons p ys ps rows a t ih =>
    intro i q xs e
    have nd' := List.nodup_cons.mp nd
    cases i with
    | zero =>
      cases e
      exact .cons upd_same (t.on fun r hr => upd_ne fun x => nd'.1 (by rw [← x]; exact hr))
    | succ i =>
      have hq : q ∈ ps := List.mem_of_getElem? e
      exact .cons ((upd_ne fun x => nd'.1 (by rw [x]; exact hq)).trans a) (ih nd'.2 e)
theorem Fnd.put {G H : Hp} {p D : Addr} {ps : List Addr} {rows : List (List V)} (f : Fnd G p D ps rows H) {i : Nat} {q : Addr} {xs : List V} (e : ps[i]? = some q) : Fnd G p D ps (rows.set i xs) (upd H q (.lst xs)) := by
  obtain ⟨d1, d2, d3, d4⟩ := f.far
  have hq := List.mem_of_getElem? e
  exact ⟨f.P.put (d4 q hq).1 (d4 q hq).2, (upd_ne fun x => d3 (by rw [x]; exact hq)).trans f.at_, f.ls.set f.nd e, f.nd, f.far⟩
/-- the first i rows grown by z -/
def grown (z : V) (i : Nat) (rows : List (List V)) : List (List V) := (rows.take i).map (· ++ [z]) ++ rows.drop i
theorem grown_0 {z : V} {rows : List (List V)} : grown z 0 rows = rows := by
  unfold grown
  rw [List.take_zero, List.drop_zero]
  rfl
theorem grown_all {z : V} {rows : List (List V)} : grown z rows.length rows = rows.map (· ++ [z]) := by
  unfold grown
  rw [List.take_length, List.drop_length, List.append_nil]
theorem grown_get {z : V} {i : Nat} {rows : List (List V)} {xs : List V} (h : rows[i]? = some xs) : (grown z i rows)[i]? = some xs ∧ (grown z i rows).set i (xs ++ [z]) = grown z (i + 1) rows := by
  unfold grown
  have hi := (List.getElem?_eq_some_iff.mp h).1
  have hl : ((rows.take i).map (· ++ [z])).length = i := by rw [List.length_map, List.length_take]; omega
  have hd : rows.drop i = xs :: rows.drop (i + 1) := by
    rw [List.drop_eq_getElem_cons hi]
    congr 1
    exact (List.getElem?_eq_some_iff.mp h).2
  refine ⟨?_, ?_⟩
  · rw [List.getElem?_append_right (by omega), hl, Nat.sub_self, hd]
    rfl
  · rw [hd, List.set_append_right _ _ (by omega), hl, Nat.sub_self, List.set_cons_zero, take_succ h, List.map_append, List.append_assoc]
    rfl
/-- lists of integers as data -/
def dL (ns : List Int) : PyData := .list (ns.map PyData.int)
theorem dp_ints {K : PySem.W.Frag} {H : Hp} : ∀ l : List Int, DpAll K H (l.map V.int) (l.map PyData.int)
  | [] => .nil
  | i :: l => .cons (.int i) (dp_ints l)
theorem shaped_L (ns : List Int) : SeqAt.shaped (dL ns) = true := by
  have e : dM [] = .list [] := rfl
  have r1 : PyData.canLayAll0 (ns.map PyData.int) = true ∧ PyData.depthAll (ns.map PyData.int) = 0 := by
    induction ns with
    | nil => exact ⟨by simp [PyData.canLayAll0], rfl⟩
    | cons c l ih =>
      refine ⟨by simp [PyData.canLayAll0, PyData.canLay0, ih.1], ?_⟩
      show max 0 (PyData.depthAll (l.map PyData.int)) = 0
      rw [ih.2]
      rfl
  unfold SeqAt.shaped
  rw [Bool.and_eq_true]
  refine ⟨by simp [dL, PyData.canLay0, r1.1], decide_eq_true ?_⟩
  show PyData.depthAll (ns.map PyData.int) + 1 ≤ 64
  rw [r1.2]
  decide
theorem eqv_self {d : PyData} (h : SeqAt.shaped d = true) : PyData.eqv d d = true := PySem.SeqAt.eqv_refl d (SeqAt.canLay_of_shaped h)
theorem flat_one (n : Nat) (v : V) : (List.replicate n [v]).flatten = List.replicate n v := by
  induction n with
  | zero => rfl
  | succ n ih => rw [List.replicate_succ, List.flatten_cons, ih]; rfl
end KM

namespace KM
open PySem L2 Gd Zn
def spRight : Sp := fun vs H Q _ => ∃ (p : Addr) (n : Nat), vs = [.ref p, .int n] ∧ BoxAt H p ∧ n ≤ 12 ∧ ∀ H', Kept H H' p → Q (.bl true) H'
theorem pool_kept {H G H' : Hp} {p : Addr} (s : Same (Gp H p) G) (P : Pool G H' p) : Kept H H' p := ⟨P.b, fun q o hq h => P.s _ _ (s _ _ (gp_at hq h))⟩
theorem pool0 {H : Hp} {p : Addr} (b : BoxAt H p) : Pool (Gp H p) H p := ⟨b, gp_same, if_pos rfl⟩
def ws8 : List V := [.int 0, .int 1, .int 2, .int 9, .non, .non, .int (10 ^ (30 : Int).toNat - 1), .int 5]
theorem ws8_b : ∀ v ∈ ws8, CostB (10 ^ 30) v := by
  intro v hv
  have t : (10 : Int) ^ (30 : Int).toNat = 1000000000000000000000000000000 := by decide
  have t2 : (10 : Int) ^ 30 = 1000000000000000000000000000000 := by decide
  unfold ws8 at hv
  rw [t] at hv
  unfold CostB
  rw [t2]
  simp only [List.mem_cons, List.not_mem_nil, or_false] at hv
  rcases hv with rfl | rfl | rfl | rfl | rfl | rfl | rfl | rfl
  · exact .inr ⟨_, rfl, by decide, by decide⟩
  · exact .inr ⟨_, rfl, by decide, by decide⟩
  · exact .inr ⟨_, rfl, by decide, by decide⟩
  · exact .inr ⟨_, rfl, by decide, by decide⟩
  · exact .inl rfl
  · exact .inl rfl
  · exact .inr ⟨_, rfl, by decide, by decide⟩
  · exact .inr ⟨_, rfl, by decide, by decide⟩
/-- the lengths of the rows -/
theorem lc_len {K : PySem.W.Frag} {H : Hp} {D L : Addr} {ps : List Addr} {rows : List (List V)} {m i : Nat} {te : TE} {vs : List Nat} {σ : L2.St} {Qd : Hp → Prop} (hD : H D = some (.lst (ps.map V.ref))) (hr : LsAt H ps rows) (hm : ∀ xs ∈ rows, xs.length = m) (hz : rows.length ≤ 12) (hL : H L = none)
    (he : ∀ q xs H' (R : VK), SqL K H' q xs → R (.int (xs : List V).length) H' → te ((wipe σ vs).set i (some (.ref q))) H' R) (w1 : ∀ v, wipe ((wipe σ vs).set i (some v)) vs = wipe σ vs)
    (q : ∀ H', Vls H L (List.replicate rows.length (V.int m)) H' → Qd H') :
    ∃ W : Nat → Nat → Hp → Prop, (∃ m, W 0 m (upd H L (.lst []))) ∧ ∀ j m H, W j m H → ((Itl K D).stop j H ∧ Qd H) ∨ ((Itl K D).go j H ∧ ∃ Nx : Hp → Prop, (∀ H', Nx H' → ∃ m', m' < m ∧ W (j + 1) m' H') ∧ ∀ x H', (Itl K D).yld j H x H' → gName i x (wipe σ vs) H' fun σ2 H2 => wipe σ2 vs = wipe σ vs ∧ tYes σ2 H2 fun b H3 =>
      if b = true then te σ2 H3 fun y H4 => ∃ acc, H4 L = some (.lst acc) ∧ acc.length < sizeLine ∧ Nx (upd H4 L (.lst (acc ++ [y]))) else Nx H3) := by
  have s12 : 12 < sizeLine := by decide
  refine lc_it walk_list (fun i H' => Vls H L ((rows.take i).map fun _ => V.int m) H') (Vls.nil hL) (fun i H' _ v => SqL.of (v.same _ _ hD)) ?_ ?_
  · rintro j x _ H2 hj v ⟨rfl, hx⟩
    rw [List.getElem?_map] at hx
    cases eq : ps[j]? with
    | none => rw [eq] at hx; exact nomatch hx
    | some qj =>
      rw [eq] at hx
      cases hx
      obtain ⟨xs, hxs, hat⟩ := hr.get eq
      refine ⟨w1 _, yes_go (he _ _ _ _ (SqL.of (v.same _ _ hat)) ?_)⟩
      rw [hm xs (List.mem_of_getElem? hxs), take_succ hxs, List.map_append]
      exact v.add (by rw [List.length_map, List.length_take]; omega)
  · intro H2 v
    rw [List.length_map, hr.len, List.take_length, List.map_const'] at v
    exact q _ v
theorem itemC_b {v : V} (h : Cost v) : ShI (itemC v) := by
  rcases h with rfl | ⟨i, rfl, _⟩
  · exact ⟨3, rfl, by decide, by decide⟩
  · refine ⟨_, rfl, ?_, ?_⟩ <;> split <;> decide
theorem rep_ints (n : Nat) (i : Int) : List.replicate n (V.int i) = (List.replicate n i).map V.int := (List.map_replicate).symm
section
variable {P : Program} {w : World} {K : PySem.W.Frag} {mg : Str → Option Value} {base : Heap}
abbrev s_law_costs_right : Stmt := top 38
theorem sc_law_costs_right : FnScope ["_law_box_here", "_law_size", "_law_items", "_law_one", "_law_other", "_law_first", "_law_second", "_law_kept", "_law_found", "_law_row", "_law_due", "_law_item"] ["_law_box_here", "_law_size"] (defScope s_law_costs_right) := ⟨rfl, rfl, rfl, by decide +kernel, rfl, by decide +kernel, by decide +kernel⟩
theorem ok_costsright {f f1 f2 f3 f4 f5 : Addr} {fd fd1 fd2 fd3 fd4 fd5 : FuncData} (F : Fun K "_law_costs_right" "_law_costs_right" s_law_costs_right f fd) (T : Txt mg base)
    (D__law_drawn : Df P w K mg base CX0 2 "_law_drawn" f1 fd1 ["_law_box_here", "_law_size", "_law_items"] spDrawn) (D__law_given : Df P w K mg base CX0 2 "_law_given" f2 fd2 ["_law_box_here", "_law_matrix"] spGiven)
    (D_multiply_costs : Df P w K mg base CX0 5 "multiply_costs" f3 fd3 ["one", "other"] (spMul Cost leastC)) (D__law_sums : Df P w K mg base CX0 1 "_law_sums" f4 fd4 ["_law_one", "_law_other"] spSums)
    (D_shape_of : Df P w K mg base CX0 5 "shape_of" f5 fd5 ["matrix"] spShape) : FnG P w K mg base CX0 6 f fd ["_law_box_here", "_law_size"] spRight := by
  refine okG F sc_law_costs_right (fun vs H Q E h => ?_) (fun cdv A outer s H vs Q E hc hr h => ?_)
  · obtain ⟨p, n, rfl, _⟩ := h
    rfl
  obtain ⟨p, n, rfl, hb, hz, q⟩ := h
  refine ⟨_, (pss_cons (ps_set (i := 2) sc_law_costs_right.nd rfl (Or.inl rfl) (pe_lst (pa_cons pe_int (pa_cons pe_int (pa_cons pe_int (pa_cons pe_int (pa_cons pe_non (pa_cons pe_non (pa_cons (pe_op op_sub (pe_op op_pow pe_int pe_int) pe_int) (pa_cons pe_int pa_nil))))))))))
 (pss_cons (ps_par (i := 3) (j := 4) (by rfl) sc_law_costs_right.nd rfl rfl (by decide) rfl rfl (pa_cons (pe_d D__law_drawn hc (hr.mono (by decide)) (by rfl) (fun _ => passN) (pa_cons (pv 0) (pa_cons (pv 1) (pa_cons (pv 2) pa_nil)))) (pa_cons (pe_d D__law_drawn hc (hr.mono (by decide)) (by rfl) (fun _ => passN) (pa_cons (pv 0) (pa_cons (pv 1) (pa_cons (pv 2) pa_nil)))) pa_nil)) (by rfl))
 (pss_cons (ps_par (i := 5) (j := 6) (by rfl) sc_law_costs_right.nd rfl rfl (by decide) rfl rfl (pa_cons (pe_d D__law_given hc (hr.mono (by decide)) (by rfl) (fun _ => passN) (pa_cons (pv 0) (pa_cons (pv 3) pa_nil))) (pa_cons (pe_d D__law_given hc (hr.mono (by decide)) (by rfl) (fun _ => passN) (pa_cons (pv 0) (pa_cons (pv 4) pa_nil))) pa_nil)) (by rfl))
 (pss_cons (ps_set (i := 7) sc_law_costs_right.nd rfl (Or.inl rfl) (pe_callB (call_repr hc T.sys (room100 hr)) (by rfl) T.z_repr (by decide +kernel) (pa_cons (pe_lst (pa_cons (pv 5) (pa_cons (pv 6) pa_nil))) pa_nil)))
 (pss_cons (ps_set (i := 8) sc_law_costs_right.nd rfl (Or.inl rfl) (pe_d D_multiply_costs hc (hr.mono (by decide)) (by rfl) (fun _ => passN) (pa_cons (pv 5) (pa_cons (pv 6) pa_nil))))
 (pss_cons (ps_if (pt_cmpR op_ne (pe_callB (call_repr hc T.sys (room100 hr)) (by rfl) T.z_repr (by decide +kernel) (pa_cons (pv 8) pa_nil)) (pe_callB (call_repr hc T.sys (room100 hr)) (by rfl) T.z_repr (by decide +kernel) (pa_cons (pe_d D__law_sums hc (hr.mono (by decide)) (by rfl) (fun _ => passN) (pa_cons (pv 3) (pa_cons (pv 4) pa_nil))) pa_nil)) (nomark _))
  (pss_one (ps_ret pe_bl)) pss_nil)
 (pss_cons (ps_for (passes_of rfl) rfl (pi_list (pv 8)) (pg_name (i := 9) sc_law_costs_right.nd rfl (Or.inl rfl))
  (pss_one (ps_expr (pe_bm PySem.F.plainAttrs_list PySem.F.slot_list_append PySem.F.type_list_append mt_append (pv 9) (pa_cons pe_int pa_nil)))))
 (pss_cons (ps_if (PW.pt (pw_or (pt_cmpR (op_neD hr.units) (pe_lc (own := [("_law_row", 9)]) (g := gName 9) rfl sc_law_costs_right.nd (pi_list (pv 8)) (blkOk_by (N := ["_law_box_here", "_law_size", "_law_items", "_law_one", "_law_other", "_law_first", "_law_second", "_law_kept", "_law_found", "_law_row", "_law_due", "_law_item"]) (sc := defScope s_law_costs_right) (by decide +kernel)) (fun _ _ _ _ _ => pg_name (i := 9) sc_law_costs_right.nd rfl (Or.inl rfl)) (fun _ _ _ _ _ => pts_nil) (fun _ _ _ _ _ => (pe_callB (call_lenK (K := K) rfl) (by rfl) T.z_len (by decide +kernel) (pa_cons (pv 9) pa_nil)))) (pe_op op_rep (pe_lst (pa_cons (pe_op op_add (pv 1) pe_int) pa_nil)) (pv 1)) (nomark _)) (pw_or1 (pt_cmpR op_ne (pe_callB (call_repr hc T.sys (room100 hr)) (by rfl) T.z_repr (by decide +kernel) (pa_cons (pe_lst (pa_cons (pv 5) (pa_cons (pv 6) pa_nil))) pa_nil)) (pv 7) (nomark _)))))
  (pss_one (ps_ret pe_bl)) pss_nil)
 (pss_cons (ps_setLc (i := 10) (own := [("_law_row", 9)]) (g := gName 9) rfl sc_law_costs_right.nd rfl rfl (sw_true rfl rfl rfl (by decide +kernel)) (pi_list (pv 3)) (blkOk_by (N := ["_law_box_here", "_law_size", "_law_items", "_law_one", "_law_other", "_law_first", "_law_second", "_law_kept", "_law_found", "_law_row", "_law_due", "_law_item"]) (sc := defScope s_law_costs_right) (by decide +kernel)) (fun _ _ _ _ _ => pg_name (i := 9) sc_law_costs_right.nd rfl (Or.inl rfl)) (fun _ _ _ _ _ => pts_nil) (fun _ _ _ _ _ => (pe_lc (own := [("_law_item", 11)]) (g := gName 11) rfl sc_law_costs_right.nd (pi_listK (K := K) rfl (pv 9)) (blkOk_by (N := ["_law_box_here", "_law_size", "_law_items", "_law_one", "_law_other", "_law_first", "_law_second", "_law_kept", "_law_found", "_law_row", "_law_due", "_law_item"]) (sc := (relS _ (defScope s_law_costs_right))) (by decide +kernel)) (fun _ _ _ _ _ => pg_name (i := 11) sc_law_costs_right.nd rfl (Or.inl rfl)) (fun _ _ _ _ _ => pts_nil) (fun _ _ _ _ _ => (pe_ifExp (pt_cmpR op_isN (pv 11) pe_non (nomark _)) pe_int (pe_callTy call_int1 (by rfl) T.z_int (by decide +kernel) (pa_cons (pe_cmpR op_gt (pv 11) pe_int (nomark _)) pa_nil)))))))
 (pss_cons (ps_set (i := 8) sc_law_costs_right.nd rfl (Or.inl rfl) (pe_d D_shape_of hc (hr.mono (by decide)) (by rfl) (fun _ => passN) (pa_cons (pv 5) pa_nil)))
 (pss_cons (ps_if (PW.pt (pw_or (pt_cmpR op_ne (pe_callB (call_repr hc T.sys (room100 hr)) (by rfl) T.z_repr (by decide +kernel) (pa_cons (pv 8) pa_nil)) (pe_callB (call_repr hc T.sys (room100 hr)) (by rfl) T.z_repr (by decide +kernel) (pa_cons (pv 10) pa_nil)) (nomark _)) (pw_or1 (pt_cmpR op_ne (pe_callB (call_repr hc T.sys (room100 hr)) (by rfl) T.z_repr (by decide +kernel) (pa_cons (pe_lst (pa_cons (pv 5) (pa_cons (pv 6) pa_nil))) pa_nil)) (pv 7) (nomark _)))))
  (pss_one (ps_ret pe_bl)) pss_nil)
 (pss_cons (ps_for (passes_of rfl) rfl (pi_list (pv 8)) (pg_name (i := 9) sc_law_costs_right.nd rfl (Or.inl rfl))
  (pss_one (ps_expr (pe_bm PySem.F.plainAttrs_list PySem.F.slot_list_append PySem.F.type_list_append mt_append (pv 9) (pa_cons pe_int pa_nil)))))
 (pss_one (ps_ret (pe_and (pe_cmpR (op_eqD hr.units) (pe_lc (own := [("_law_row", 9)]) (g := gName 9) rfl sc_law_costs_right.nd (pi_list (pv 8)) (blkOk_by (N := ["_law_box_here", "_law_size", "_law_items", "_law_one", "_law_other", "_law_first", "_law_second", "_law_kept", "_law_found", "_law_row", "_law_due", "_law_item"]) (sc := defScope s_law_costs_right) (by decide +kernel)) (fun _ _ _ _ _ => pg_name (i := 9) sc_law_costs_right.nd rfl (Or.inl rfl)) (fun _ _ _ _ _ => pts_nil) (fun _ _ _ _ _ => (pe_callB (call_lenK (K := K) rfl) (by rfl) T.z_len (by decide +kernel) (pa_cons (pv 9) pa_nil)))) (pe_op op_rep (pe_lst (pa_cons (pe_op op_add (pv 1) pe_int) pa_nil)) (pv 1)) (nomark _)) (pe_one (pe_cmpR (op_eqD hr.units) (pe_d D_shape_of hc (hr.mono (by decide)) (by rfl) (fun _ => passN) (pa_cons (pv 5) pa_nil)) (pv 10) (nomark _)))))))))))))))))), ?_⟩
  have s12 : 12 < sizeLine := by decide
  have z16 := sizeLine_eq
  have eq0 : ∀ {x : Str} {A B : Prop}, B → if (!decide (V.str x = V.str x)) = true then A else B := fun {x A B} h => iteB (fun c => by simp at c) (fun _ => h)
  have p30 : CPow 10 30 := ⟨by decide, by decide, by decide⟩
  refine ⟨_, _, rfl, rfl, p30, _, _, rfl, rfl, by show 8 ≤ sizeLine; omega, fun it hit => ?_⟩
  have P0 := (pool0 hb).new (o := .lst ws8) hit
  have itp := (pool0 hb).ne hit
  have g0 := (pool0 hb).fresh hit
  have S0 : Same (Gp H p) (upd (Gp H p) it (.lst ws8)) := upd_new g0
  refine ⟨_, rfl, _, rfl, _, rfl, p, n, it, ws8, _, rfl, P0, hz, upd_same, by decide, by decide, fun v1 H1 G1 xss P1 S1 m1 n1 c1 => ?_⟩
  refine ⟨_, rfl, _, rfl, _, rfl, p, n, it, ws8, _, rfl, P1, hz, S1 _ _ upd_same, by decide, by decide, fun v2 H2 G2 yss P2 S2 m2 n2 c2 => ⟨_, _, rfl, ?_⟩⟩
  have b1 : All (CostB (10 ^ 30)) xss := All.mono c1 ws8_b
  have b2 : All (CostB (10 ^ 30)) yss := All.mono c2 ws8_b
  have C1 : All Cost xss := All.mono b1 fun v h => h.cost
  have C2 : All Cost yss := All.mono b2 fun v h => h.cost
  have I1 : All Itm xss := All.mono b1 fun v h => h.itm (by decide)
  have I2 : All Itm yss := All.mono b2 fun v h => h.itm (by decide)
  refine ⟨_, rfl, _, rfl, p, v1, xss, n, G2, rfl, P2, hz, m1.same S2, n1, fun v3 H3 G3 P3 S3 m3 => ?_⟩
  refine ⟨_, rfl, _, rfl, p, v2, yss, n, G3, rfl, P3, hz, m2.same S3, n2, fun v4 H4 G4 P4 S4 m4 => ⟨_, _, rfl, ?_⟩⟩
  have m3 := m3.same S4
  have m1 := (m1.same S2).same (S3.trans S4)
  have m2 := m2.same (S3.trans S4)
  obtain ⟨d, D_, dok, dw, dd⟩ := two_mats (K := K) hz m3 n1 I1 m4 n2 I2
  refine ⟨_, rfl, _, rfl, by show 2 ≤ sizeLine; omega, fun l1 hl1 => ?_⟩
  have P5 := P4.go (upd_new (o := .lst [v3, v4]) hl1)
  refine ⟨.ref l1, d, rfl, D_ _ l1 P5.s upd_same, dok, dw, dd, ?_⟩
  refine ⟨_, rfl, _, rfl, v3, v4, xss, yss, n, rfl, m3.on P5.s, m4.on P5.s, n1, n2, hz, C1, C2, fun v5 H6 nm => ?_⟩
  obtain ⟨M, hM⟩ : ∃ M, M = mulM leastC n xss yss := ⟨_, rfl⟩
  rw [← hM] at nm
  have nM : Sqr n M := by rw [hM]; exact mulM_sqr n1
  have cM : All Itm M := by
    rw [hM]
    exact All.mono (mulM_all (q := CostB (2 * 10 ^ 30)) n1 n2 b1 b2 fun xs ys _ _ h1 h2 => leastC_b h1 h2) fun v h => h.itm (by decide)
  obtain ⟨oM, wM, eM⟩ := M_ok hz nM cM
  have P6 := P5.go nm.same
  obtain ⟨D, ps, rfl, Fd⟩ := Fnd.of P5 nm
  refine ⟨_, rfl, _, dM M, rfl, nm.lm.da cM, oM, by omega, by omega, _, rfl, _, rfl, v1, v2, xss, yss, n, rfl, m1.same P6.s, m2.same P6.s, n1, n2, hz, C1, C2, fun v6 H7 nm2 => ?_⟩
  rw [← hM] at nm2
  refine ⟨_, dM M, rfl, nm2.lm.da cM, oM, by omega, by omega, rfl, _, rfl, eq0 ?_⟩
  have Fd := Fd.go nm2.same
  refine ⟨_, rfl, D, rfl, ⟨_, SqL.of Fd.at_⟩, ?_⟩
  have lps := Fd.ls.len
  refine for_list (xs := ps.map V.ref) (fun i σ H' => ∃ o9, σ = [some (.ref p), some (.int n), some (.ref it), some v1, some v2, some v3, some v4, some (.str d.shown), some (.ref D), o9, none, none] ∧ Fnd G4 p D ps (grown (.int 7) i M) H') ⟨_, rfl, by rw [grown_0]; exact Fd⟩ (fun i σ H' _ ⟨_, _, f⟩ => SqL.of f.at_) ?_ ?_
  · rintro i x _ H8 hx ⟨o9, rfl, f⟩
    rw [List.getElem?_map] at hx
    cases eq : ps[i]? with
    | none => rw [eq] at hx; exact nomatch hx
    | some qi =>
      rw [eq] at hx
      cases hx
      obtain ⟨xs, hxs, hat⟩ := f.ls.get eq
      have hi : i < M.length := by rw [← lps]; exact (List.getElem?_eq_some_iff.mp eq).1
      obtain ⟨g1, g2⟩ := grown_get (z := .int 7) (List.getElem?_eq_getElem hi)
      rw [g1] at hxs
      cases hxs
      have lx := nM.2 _ (List.getElem_mem hi)
      exact ⟨_, rfl, .inl ⟨rfl, _, SqL.of hat⟩, qi, _, _, rfl, rfl, hat, by omega, _, rfl, by rw [← g2]; exact f.put eq⟩
  rintro _ H8 ⟨o9, rfl, f⟩
  rw [List.length_map, lps, grown_all] at f
  have hlen : ∀ xs ∈ M.map (· ++ [V.int 7]), xs.length = n + 1 := fun xs hx => by
    obtain ⟨ys, hy, rfl⟩ := List.mem_map.mp hx
    rw [List.length_append, nM.2 ys hy] <;> rfl
  refine ⟨_, rfl, D, rfl, ⟨_, SqL.of f.at_⟩, fun L hL => ?_⟩
  refine lc_len (i := 9) f.at_ f.ls hlen (by rw [List.length_map, nM.1]; exact hz) hL (fun q xs H' R h r => ⟨_, rfl, q, xs, rfl, .inl h, r⟩) (fun _ => rfl) fun H9 v => ?_
  rw [List.length_map, nM.1] at v
  have z62 : n < 2 ^ 62 := by
    have : (2 : Nat) ^ 62 = 4611686018427387904 := by decide
    omega
  refine ⟨_, rfl, _, _, rfl, rfl, by show 1 ≤ sizeLine; omega, fun l2 hl2 => ⟨_, rfl, l2, n, _, rfl, rfl, upd_same, by omega, by omega, ?_, fun l3 hl3 => ?_⟩⟩
  · show 1 * (n : Int).toNat ≤ sizeLine
    omega
  have k9 : Same H9 (upd (upd H9 l2 (.lst [.int (n + 1)])) l3 (.lst (List.replicate (n : Int).toNat [V.int (n + 1)]).flatten)) := (upd_new hl2).trans (upd_new hl3)
  have en : ((n + 1 : Nat) : Int) = (n : Int) + 1 := by omega
  rw [en, rep_ints] at v
  have at3 : (upd (upd H9 l2 (.lst [.int (n + 1)])) l3 (.lst (List.replicate (n : Int).toNat [V.int (n + 1)]).flatten)) l3 = some (.lst ((List.replicate n ((n : Int) + 1)).map V.int)) := by
    rw [upd_same, flat_one, rep_ints]
    rfl
  refine ⟨_, _, .lst (SqL.of (k9 _ _ v.at_)) (dp_ints _), .lst (SqL.of at3) (dp_ints _), shaped_L _, shaped_L _, _, rfl, ?_⟩
  rw [show PyData.eqv (.list ((List.replicate n ((n : Int) + 1)).map PyData.int)) (.list ((List.replicate n ((n : Int) + 1)).map PyData.int)) = true from eqv_self (shaped_L _)]
  refine iteF ?_
  have f := (f.go v.same).go k9
  refine ⟨_, rfl, _, rfl, by show 2 ≤ sizeLine; omega, fun l4 hl4 => ?_⟩
  have f := f.go (upd_new (o := .lst [v3, v4]) hl4)
  refine ⟨.ref l4, d, rfl, D_ _ l4 f.P.s upd_same, dok, dw, dd, _, rfl, rfl, _, rfl, eq0 ?_⟩
  generalize (upd (upd (upd H9 l2 (.lst [.int (n + 1)])) l3 (.lst (List.replicate (n : Int).toNat [V.int (n + 1)]).flatten)) l4 (.lst [v3, v4])) = H10 at f ⊢
  obtain ⟨D5, qs, rfl, ha, ra⟩ := m1
  have lq := ra.len
  have lS : (xss.map fun xs => xs.map itemC).length = n := by rw [List.length_map, n1.1]
  refine ⟨_, rfl, D5, rfl, ⟨_, SqL.of (f.P.s _ _ ha)⟩, fun D2 hD2 => ?_⟩
  refine lc_it walk_list (fun i H' => Bld H10 D2 ((xss.map fun xs => xs.map itemC).take i) H') (Bld.nil hD2) (fun i H' _ b => SqL.of (b.same _ _ (f.P.s _ _ ha))) ?_ ?_
  · rintro i x _ H11 hi B ⟨rfl, hx⟩
    rw [List.getElem?_map] at hx
    cases eq : qs[i]? with
    | none => rw [eq] at hx; exact nomatch hx
    | some qi =>
      rw [eq] at hx
      cases hx
      obtain ⟨xs, hxs, hat⟩ := ra.get eq
      have lx := n1.2 xs (List.mem_of_getElem? hxs)
      have er : (xss.map fun xs => xs.map itemC)[i]? = some (xs.map itemC) := by rw [List.getElem?_map, hxs] <;> rfl
      have hin : i < n := by rw [List.length_map, lq, n1.1] at hi; exact hi
      refine ⟨rfl, yes_go ⟨_, rfl, qi, rfl, ⟨_, SqL.of (B.same _ _ (f.P.s _ _ hat))⟩, fun D3 hD3 => ?_⟩⟩
      refine lc_it walk_list (fun j H' => Vls H11 D3 ((xs.map itemC).take j) H') (Vls.nil hD3) (fun j H' _ v' => SqL.of (v'.same _ _ (B.same _ _ (f.P.s _ _ hat)))) ?_ ?_
      · rintro j u _ H12 hj v' ⟨rfl, hu⟩
        have cu := C1 xs (List.mem_of_getElem? hxs) u (List.mem_of_getElem? hu)
        have eu : (xs.map itemC)[j]? = some (itemC u) := by rw [List.getElem?_map, hu] <;> rfl
        have lt : ((xs.map itemC).take j).length < sizeLine := by rw [List.length_take, List.length_map]; omega
        rw [take_succ eu]
        refine ⟨rfl, yes_go ⟨_, rfl, rfl, _, rfl, ?_⟩⟩
        rcases cu with rfl | ⟨i1, rfl, _⟩
        · exact iteT (v'.add lt)
        · refine iteF ⟨_, rfl, _, _, rfl, rfl, .inr ⟨_, rfl, ?_⟩⟩
          have e : itemC (.int i1) = .int (if decide (0 < i1) = true then 1 else 0) := by
            show V.int (if 0 < i1 then 1 else 0) = _
            by_cases c : (0 < i1)
            · rw [if_pos c, if_pos (decide_eq_true c)]
            · rw [if_neg c, if_neg (by simpa using c)]
          rw [e]
          exact v'.add lt
      · intro H12 v'
        rw [List.take_of_length_le (by rw [List.length_map]; exact Nat.le_refl _)] at v'
        rw [take_succ er]
        exact B.add hD3 v'.same v'.at_ (by rw [List.length_take, lS]; omega)
  intro H11 B
  rw [List.length_map, lq, List.take_of_length_le (by rw [List.length_map]; exact Nat.le_refl _)] at B
  have nS : Sqr n (xss.map fun xs => xs.map itemC) := ⟨lS, fun ys hy => by
    obtain ⟨xs, hx, rfl⟩ := List.mem_map.mp hy
    rw [List.length_map]
    exact n1.2 xs hx⟩
  have cS : All Itm (xss.map fun xs => xs.map itemC) := fun ys hy v hv => by
    obtain ⟨xs, hx, rfl⟩ := List.mem_map.mp hy
    obtain ⟨u, hu, rfl⟩ := List.mem_map.mp hv
    exact (itemC_b (C1 xs hx u hu)).itm
  obtain ⟨S, hS⟩ : ∃ S, S = xss.map fun xs => xs.map itemC := ⟨_, rfl⟩
  rw [← hS] at B nS cS
  obtain ⟨oS, wS, eS⟩ := M_ok hz nS cS
  have due : LMat (Gp H11 p) (.ref D2) S := NewM.gp (H := H10) f.P ⟨D2, rfl, B⟩
  obtain ⟨P11, S11⟩ := (f.P.go B.same).all
  have m3 := m3.same S11
  have D_ : ∀ (H' : Hp) (q : Addr), Same (Gp H11 p) H' → H' q = some (.lst [v3, v4]) → Da K H' (.ref q) d := fun H' q s e => D_ H' q (S11.trans s) e
  have fin : ∀ {H'}, Pool (Gp H11 p) H' p → Q (.bl true) H' := fun P => q _ (pool_kept (S0.trans (S1.trans (S2.trans (S3.trans (S4.trans S11))))) P)
  refine ⟨_, rfl, v3, xss, n, rfl, m3.same P11.s, n1, hz, C1, fun v7 H12 nm3 => ?_⟩
  rw [← hS] at nm3
  have P12 := P11.go nm3.same
  refine ⟨_, rfl, v7, dM S, rfl, nm3.lm.da cS, oS, by omega, by omega, _, rfl, _, dM S, rfl, (due.same P12.s).da cS, oS, by omega, by omega, rfl, _, rfl, eq0 ?_⟩
  refine ⟨_, rfl, _, rfl, by show 2 ≤ sizeLine; omega, fun l5 hl5 => ?_⟩
  obtain ⟨E, es, rfl, Fe⟩ := Fnd.of P11 nm3
  have Fe := Fe.go (upd_new (o := .lst [v3, v4]) hl5)
  refine ⟨.ref l5, d, rfl, D_ _ l5 Fe.P.s upd_same, dok, dw, dd, _, rfl, rfl, _, rfl, eq0 ?_⟩
  generalize upd H12 l5 (.lst [v3, v4]) = H13 at Fe ⊢
  have les := Fe.ls.len
  refine ⟨_, rfl, E, rfl, ⟨_, SqL.of Fe.at_⟩, ?_⟩
  refine for_list (xs := es.map V.ref) (fun i σ H' => ∃ o9, σ = [some (.ref p), some (.int n), some (.ref it), some (.ref D5), some v2, some v3, some v4, some (.str d.shown), some (.ref E), o9, some (.ref D2), none] ∧ Fnd (Gp H11 p) p E es (grown (.int 9) i S) H') ⟨_, rfl, by rw [grown_0]; exact Fe⟩ (fun i σ H' _ ⟨_, _, f⟩ => SqL.of f.at_) ?_ ?_
  · rintro i x _ H14 hx ⟨o9, rfl, f⟩
    rw [List.getElem?_map] at hx
    cases eq : es[i]? with
    | none => rw [eq] at hx; exact nomatch hx
    | some qi =>
      rw [eq] at hx
      cases hx
      obtain ⟨xs, hxs, hat⟩ := f.ls.get eq
      have hi : i < S.length := by rw [← les]; exact (List.getElem?_eq_some_iff.mp eq).1
      obtain ⟨g1, g2⟩ := grown_get (z := .int 9) (List.getElem?_eq_getElem hi)
      rw [g1] at hxs
      cases hxs
      have lx := nS.2 _ (List.getElem_mem hi)
      exact ⟨_, rfl, .inl ⟨rfl, _, SqL.of hat⟩, qi, _, _, rfl, rfl, hat, by omega, _, rfl, by rw [← g2]; exact f.put eq⟩
  rintro _ H14 ⟨o9, rfl, f⟩
  rw [List.length_map, les, grown_all] at f
  have hlen : ∀ xs ∈ S.map (· ++ [V.int 9]), xs.length = n + 1 := fun xs hx => by
    obtain ⟨ys, hy, rfl⟩ := List.mem_map.mp hx
    rw [List.length_append, nS.2 ys hy] <;> rfl
  refine ⟨_, rfl, E, rfl, ⟨_, SqL.of f.at_⟩, fun L hL => ?_⟩
  refine lc_len (i := 9) f.at_ f.ls hlen (by rw [List.length_map, nS.1]; exact hz) hL (fun q xs H' R h r => ⟨_, rfl, q, xs, rfl, .inl h, r⟩) (fun _ => rfl) fun H15 v => ?_
  rw [List.length_map, nS.1, en, rep_ints] at v
  refine ⟨_, rfl, _, _, rfl, rfl, by show 1 ≤ sizeLine; omega, fun l6 hl6 => ⟨_, rfl, l6, n, _, rfl, rfl, upd_same, by omega, by omega, ?_, fun l7 hl7 => ?_⟩⟩
  · show 1 * (n : Int).toNat ≤ sizeLine
    omega
  have k15 : Same H15 (upd (upd H15 l6 (.lst [.int (n + 1)])) l7 (.lst (List.replicate (n : Int).toNat [V.int (n + 1)]).flatten)) := (upd_new hl6).trans (upd_new hl7)
  have at7 : (upd (upd H15 l6 (.lst [.int (n + 1)])) l7 (.lst (List.replicate (n : Int).toNat [V.int (n + 1)]).flatten)) l7 = some (.lst ((List.replicate n ((n : Int) + 1)).map V.int)) := by
    rw [upd_same, flat_one, rep_ints]
    rfl
  refine ⟨_, _, .lst (SqL.of (k15 _ _ v.at_)) (dp_ints _), .lst (SqL.of at7) (dp_ints _), shaped_L _, shaped_L _, _, rfl, ?_⟩
  rw [show PyData.eqv (.list ((List.replicate n ((n : Int) + 1)).map PyData.int)) (.list ((List.replicate n ((n : Int) + 1)).map PyData.int)) = true from eqv_self (shaped_L _)]
  have P16 := (f.P.go v.same).go k15
  refine iteT ⟨_, rfl, v3, xss, n, rfl, m3.same P16.s, n1, hz, C1, fun v8 H17 nm4 => ?_⟩
  rw [← hS] at nm4
  have P17 := P16.go nm4.same
  refine ⟨_, rfl, dM S, dM S, nm4.lm.dp cS, (due.same P17.s).dp cS, shaped_M _, shaped_M _, ?_⟩
  rw [eqv_self (shaped_M S)]
  exact fin P17
end
end KM

namespace KM
open PySem L2 Gd Zn
def ws4 : List V := [.int 0, .int 1, .int 2, .int 3]
def ws5 : List V := [.int 3, .int 2, .int 1, .int 0, .int 1]
theorem ws4_sh : ∀ v ∈ ws4, ShI v := by
  intro v hv
  unfold ws4 at hv
  simp only [List.mem_cons, List.not_mem_nil, or_false] at hv
  rcases hv with rfl | rfl | rfl | rfl <;> exact ⟨_, rfl, by decide, by decide⟩
theorem ws5_sh : ∀ v ∈ ws5, ShI v := by
  intro v hv
  unfold ws5 at hv
  simp only [List.mem_cons, List.not_mem_nil, or_false] at hv
  rcases hv with rfl | rfl | rfl | rfl | rfl <;> exact ⟨_, rfl, by decide, by decide⟩
section
variable {P : Program} {w : World} {K : PySem.W.Frag} {mg : Str → Option Value} {base : Heap}
abbrev s_law_shapes_right : Stmt := top 39
theorem sc_law_shapes_right : FnScope ["_law_box_here", "_law_size", "_law_one", "_law_other", "_law_first", "_law_second", "_law_kept", "_law_found", "_law_row", "_law_power", "_law_turn"] ["_law_box_here", "_law_size"] (defScope s_law_shapes_right) := ⟨rfl, rfl, rfl, by decide +kernel, rfl, by decide +kernel, by decide +kernel⟩
theorem ok_shapesright {f f1 f2 f3 f4 f5 : Addr} {fd fd1 fd2 fd3 fd4 fd5 : FuncData} (F : Fun K "_law_shapes_right" "_law_shapes_right" s_law_shapes_right f fd) (T : Txt mg base)
    (D__law_drawn : Df P w K mg base CX0 2 "_law_drawn" f1 fd1 ["_law_box_here", "_law_size", "_law_items"] spDrawn) (D__law_given : Df P w K mg base CX0 2 "_law_given" f2 fd2 ["_law_box_here", "_law_matrix"] spGiven)
    (D_multiply_shapes : Df P w K mg base CX0 6 "multiply_shapes" f3 fd3 ["one", "other"] (spMul ShI leastG)) (D__law_paths : Df P w K mg base CX0 1 "_law_paths" f4 fd4 ["_law_one", "_law_other"] spPaths)
    (D_is_stable : Df P w K mg base CX0 6 "is_stable" f5 fd5 ["shape"] spStable) : FnG P w K mg base CX0 7 f fd ["_law_box_here", "_law_size"] spRight := by
  refine okG F sc_law_shapes_right (fun vs H Q E h => ?_) (fun cdv A outer s H vs Q E hc hr h => ?_)
  · obtain ⟨p, n, rfl, _⟩ := h
    rfl
  obtain ⟨p, n, rfl, hb, hz, q⟩ := h
  refine ⟨_, (pss_cons (ps_par (i := 2) (j := 3) (by rfl) sc_law_shapes_right.nd rfl rfl (by decide) rfl rfl (pa_cons (pe_d D__law_drawn hc (hr.mono (by decide)) (by rfl) (fun _ => passN) (pa_cons (pv 0) (pa_cons (pv 1) (pa_cons (pe_lst (pa_cons pe_int (pa_cons pe_int (pa_cons pe_int (pa_cons pe_int pa_nil))))) pa_nil)))) (pa_cons (pe_d D__law_drawn hc (hr.mono (by decide)) (by rfl) (fun _ => passN) (pa_cons (pv 0) (pa_cons (pv 1) (pa_cons (pe_lst (pa_cons pe_int (pa_cons pe_int (pa_cons pe_int (pa_cons pe_int (pa_cons pe_int pa_nil)))))) pa_nil)))) pa_nil)) (by rfl))
 (pss_cons (ps_par (i := 4) (j := 5) (by rfl) sc_law_shapes_right.nd rfl rfl (by decide) rfl rfl (pa_cons (pe_d D__law_given hc (hr.mono (by decide)) (by rfl) (fun _ => passN) (pa_cons (pv 0) (pa_cons (pv 2) pa_nil))) (pa_cons (pe_d D__law_given hc (hr.mono (by decide)) (by rfl) (fun _ => passN) (pa_cons (pv 0) (pa_cons (pv 3) pa_nil))) pa_nil)) (by rfl))
 (pss_cons (ps_par (i := 6) (j := 7) (by rfl) sc_law_shapes_right.nd rfl rfl (by decide) rfl rfl (pa_cons (pe_callB (call_repr hc T.sys (room100 hr)) (by rfl) T.z_repr (by decide +kernel) (pa_cons (pe_lst (pa_cons (pv 4) (pa_cons (pv 5) pa_nil))) pa_nil)) (pa_cons (pe_d D_multiply_shapes hc (hr.mono (by decide)) (by rfl) (fun _ => passN) (pa_cons (pv 4) (pa_cons (pv 5) pa_nil))) pa_nil)) (by rfl))
 (pss_cons (ps_if (pt_cmpR op_ne (pe_callB (call_repr hc T.sys (room100 hr)) (by rfl) T.z_repr (by decide +kernel) (pa_cons (pv 7) pa_nil)) (pe_callB (call_repr hc T.sys (room100 hr)) (by rfl) T.z_repr (by decide +kernel) (pa_cons (pe_d D__law_paths hc (hr.mono (by decide)) (by rfl) (fun _ => passN) (pa_cons (pv 2) (pa_cons (pv 3) pa_nil))) pa_nil)) (nomark _))
  (pss_one (ps_ret pe_bl)) pss_nil)
 (pss_cons (ps_for (passes_of rfl) rfl (pi_list (pv 7)) (pg_name (i := 8) sc_law_shapes_right.nd rfl (Or.inl rfl))
  (pss_one (ps_expr (pe_bm PySem.F.plainAttrs_list PySem.F.slot_list_append PySem.F.type_list_append mt_append (pv 8) (pa_cons pe_int pa_nil)))))
 (pss_cons (ps_if (pt_cmpR (op_neD hr.units) (pe_lc (own := [("_law_row", 8)]) (g := gName 8) rfl sc_law_shapes_right.nd (pi_list (pv 7)) (blkOk_by (N := ["_law_box_here", "_law_size", "_law_one", "_law_other", "_law_first", "_law_second", "_law_kept", "_law_found", "_law_row", "_law_power", "_law_turn"]) (sc := defScope s_law_shapes_right) (by decide +kernel)) (fun _ _ _ _ _ => pg_name (i := 8) sc_law_shapes_right.nd rfl (Or.inl rfl)) (fun _ _ _ _ _ => pts_nil) (fun _ _ _ _ _ => (pe_callB (call_lenK (K := K) rfl) (by rfl) T.z_len (by decide +kernel) (pa_cons (pv 8) pa_nil)))) (pe_op op_rep (pe_lst (pa_cons (pe_op op_add (pv 1) pe_int) pa_nil)) (pv 1)) (nomark _))
  (pss_one (ps_ret pe_bl)) pss_nil)
 (pss_cons (ps_set (i := 9) sc_law_shapes_right.nd rfl (Or.inl rfl) (pv 2))
 (pss_cons (ps_for (passes_of rfl) rfl (pi_range1 rfl T.z_range (pa_cons pe_int pa_nil)) (pg_name (i := 10) sc_law_shapes_right.nd rfl (Or.inl rfl))
  (pss_cons (ps_if (pt_cmpR op_ne (pe_d D_is_stable hc (hr.mono (by decide)) (by rfl) (fun _ => passN) (pa_cons (pe_d D__law_given hc (hr.mono (by decide)) (by rfl) (fun _ => passN) (pa_cons (pv 0) (pa_cons (pv 9) pa_nil))) pa_nil)) (pe_cmpR (op_eqD hr.units) (pe_d D__law_paths hc (hr.mono (by decide)) (by rfl) (fun _ => passN) (pa_cons (pv 9) (pa_cons (pv 9) pa_nil))) (pv 9) (nomark _)) (nomark _))
  (pss_one (ps_ret pe_bl)) pss_nil)
 (pss_one (ps_set (i := 9) sc_law_shapes_right.nd rfl (Or.inl rfl) (pe_d D__law_paths hc (hr.mono (by decide)) (by rfl) (fun _ => passN) (pa_cons (pv 9) (pa_cons (pv 9) pa_nil)))))))
 (pss_one (ps_ret (pe_cmpR op_eq (pe_callB (call_repr hc T.sys (room100 hr)) (by rfl) T.z_repr (by decide +kernel) (pa_cons (pe_lst (pa_cons (pv 4) (pa_cons (pv 5) pa_nil))) pa_nil)) (pv 6) (nomark _)))))))))))), ?_⟩
  have s12 : 12 < sizeLine := by decide
  have z16 := sizeLine_eq
  have eq0 : ∀ {x : Str} {A B : Prop}, B → if (!decide (V.str x = V.str x)) = true then A else B := fun {x A B} h => iteB (fun c => by simp at c) (fun _ => h)
  refine ⟨_, rfl, _, rfl, by show 4 ≤ sizeLine; omega, fun it hit => ?_⟩
  have P0 := (pool0 hb).new (o := .lst ws4) hit
  have g0 := (pool0 hb).fresh hit
  have S0 : Same (Gp H p) (upd (Gp H p) it (.lst ws4)) := upd_new g0
  refine ⟨p, n, it, ws4, _, rfl, P0, hz, upd_same, by decide, by decide, fun v1 H1 G1 xss P1 S1 m1 n1 c1 => ?_⟩
  refine ⟨_, rfl, _, rfl, by show 5 ≤ sizeLine; omega, fun it2 hit2 => ?_⟩
  have P1b := P1.new (o := .lst ws5) hit2
  have S1b : Same G1 (upd G1 it2 (.lst ws5)) := upd_new (P1.fresh hit2)
  refine ⟨p, n, it2, ws5, _, rfl, P1b, hz, upd_same, by decide, by decide, fun v2 H2 G2 yss P2 S2 m2 n2 c2 => ⟨_, _, rfl, ?_⟩⟩
  have C1 : All ShI xss := All.mono c1 ws4_sh
  have C2 : All ShI yss := All.mono c2 ws5_sh
  have I1 : All Itm xss := All.mono C1 fun v h => h.itm
  have I2 : All Itm yss := All.mono C2 fun v h => h.itm
  have m1 := (m1.same S1b).same S2
  refine ⟨_, rfl, _, rfl, p, v1, xss, n, G2, rfl, P2, hz, m1, n1, fun v3 H3 G3 P3 S3 m3 => ?_⟩
  refine ⟨_, rfl, _, rfl, p, v2, yss, n, G3, rfl, P3, hz, m2.same S3, n2, fun v4 H4 G4 P4 S4 m4 => ⟨_, _, rfl, ?_⟩⟩
  have m3 := m3.same S4
  have m1 := m1.same (S3.trans S4)
  have m2 := m2.same (S3.trans S4)
  obtain ⟨d, D_, dok, dw, dd⟩ := two_mats (K := K) hz m3 n1 I1 m4 n2 I2
  have S04 : Same (Gp H p) G4 := S0.trans (S1.trans (S1b.trans (S2.trans (S3.trans S4))))
  refine ⟨_, rfl, _, rfl, by show 2 ≤ sizeLine; omega, fun l1 hl1 => ?_⟩
  have P5 := P4.go (upd_new (o := .lst [v3, v4]) hl1)
  refine ⟨.ref l1, d, rfl, D_ _ l1 P5.s upd_same, dok, dw, dd, ?_⟩
  refine ⟨_, rfl, _, rfl, v3, v4, xss, yss, n, rfl, m3.on P5.s, m4.on P5.s, n1, n2, hz, C1, C2, fun v5 H6 nm => ⟨_, _, rfl, ?_⟩⟩
  obtain ⟨M, hM⟩ : ∃ M, M = mulM leastG n xss yss := ⟨_, rfl⟩
  rw [← hM] at nm
  have nM : Sqr n M := by rw [hM]; exact mulM_sqr n1
  have cM : All Itm M := by
    rw [hM]
    exact All.mono (mulM_all (q := ShI) n1 n2 C1 C2 fun xs ys hl h0 a b => leastG_sh a b hl h0) fun v h => h.itm
  obtain ⟨oM, wM, eM⟩ := M_ok hz nM cM
  have P6 := P5.go nm.same
  obtain ⟨D, ps, rfl, Fd⟩ := Fnd.of P5 nm
  refine ⟨_, rfl, _, dM M, rfl, nm.lm.da cM, oM, by omega, by omega, _, rfl, _, rfl, v1, v2, xss, yss, n, rfl, m1.same P6.s, m2.same P6.s, n1, n2, hz, C1, C2, fun v6 H7 nm2 => ?_⟩
  rw [← hM] at nm2
  refine ⟨_, dM M, rfl, nm2.lm.da cM, oM, by omega, by omega, rfl, _, rfl, eq0 ?_⟩
  have Fd := Fd.go nm2.same
  refine ⟨_, rfl, D, rfl, ⟨_, SqL.of Fd.at_⟩, ?_⟩
  have lps := Fd.ls.len
  refine for_list (xs := ps.map V.ref) (fun i σ H' => ∃ o8, σ = [some (.ref p), some (.int n), some v1, some v2, some v3, some v4, some (.str d.shown), some (.ref D), o8, none, none] ∧ Fnd G4 p D ps (grown (.int 1) i M) H') ⟨_, rfl, by rw [grown_0]; exact Fd⟩ (fun i σ H' _ ⟨_, _, f⟩ => SqL.of f.at_) ?_ ?_
  · rintro i x _ H8 hx ⟨o9, rfl, f⟩
    rw [List.getElem?_map] at hx
    cases eq : ps[i]? with
    | none => rw [eq] at hx; exact nomatch hx
    | some qi =>
      rw [eq] at hx
      cases hx
      obtain ⟨xs, hxs, hat⟩ := f.ls.get eq
      have hi : i < M.length := by rw [← lps]; exact (List.getElem?_eq_some_iff.mp eq).1
      obtain ⟨g1, g2⟩ := grown_get (z := .int 1) (List.getElem?_eq_getElem hi)
      rw [g1] at hxs
      cases hxs
      have lx := nM.2 _ (List.getElem_mem hi)
      exact ⟨_, rfl, .inl ⟨rfl, _, SqL.of hat⟩, qi, _, _, rfl, rfl, hat, by omega, _, rfl, by rw [← g2]; exact f.put eq⟩
  rintro _ H8 ⟨o9, rfl, f⟩
  rw [List.length_map, lps, grown_all] at f
  have hlen : ∀ xs ∈ M.map (· ++ [V.int 1]), xs.length = n + 1 := fun xs hx => by
    obtain ⟨ys, hy, rfl⟩ := List.mem_map.mp hx
    rw [List.length_append, nM.2 ys hy] <;> rfl
  refine ⟨_, rfl, D, rfl, ⟨_, SqL.of f.at_⟩, fun L hL => ?_⟩
  refine lc_len (i := 8) f.at_ f.ls hlen (by rw [List.length_map, nM.1]; exact hz) hL (fun q xs H' R h r => ⟨_, rfl, q, xs, rfl, .inl h, r⟩) (fun _ => rfl) fun H9 v => ?_
  have en : ((n + 1 : Nat) : Int) = (n : Int) + 1 := by omega
  rw [List.length_map, nM.1, en, rep_ints] at v
  have z62 : n < 2 ^ 62 := by
    have : (2 : Nat) ^ 62 = 4611686018427387904 := by decide
    omega
  refine ⟨_, rfl, _, _, rfl, rfl, by show 1 ≤ sizeLine; omega, fun l2 hl2 => ⟨_, rfl, l2, n, _, rfl, rfl, upd_same, by omega, by omega, ?_, fun l3 hl3 => ?_⟩⟩
  · show 1 * (n : Int).toNat ≤ sizeLine
    omega
  have k9 : Same H9 (upd (upd H9 l2 (.lst [.int (n + 1)])) l3 (.lst (List.replicate (n : Int).toNat [V.int (n + 1)]).flatten)) := (upd_new hl2).trans (upd_new hl3)
  have at3 : (upd (upd H9 l2 (.lst [.int (n + 1)])) l3 (.lst (List.replicate (n : Int).toNat [V.int (n + 1)]).flatten)) l3 = some (.lst ((List.replicate n ((n : Int) + 1)).map V.int)) := by
    rw [upd_same, flat_one, rep_ints]
    rfl
  refine ⟨_, _, .lst (SqL.of (k9 _ _ v.at_)) (dp_ints _), .lst (SqL.of at3) (dp_ints _), shaped_L _, shaped_L _, _, rfl, ?_⟩
  rw [show PyData.eqv (.list ((List.replicate n ((n : Int) + 1)).map PyData.int)) (.list ((List.replicate n ((n : Int) + 1)).map PyData.int)) = true from eqv_self (shaped_L _)]
  refine iteF ?_
  have f := (f.go v.same).go k9
  generalize (upd (upd H9 l2 (.lst [.int (n + 1)])) l3 (.lst (List.replicate (n : Int).toNat [V.int (n + 1)]).flatten)) = H10 at f ⊢
  refine ⟨_, rfl, 8, rfl, by decide, by decide, ?_⟩
  refine for_range (n := 8) (fun i σ H' => ∃ o8 o10 pw pss G', σ = [some (.ref p), some (.int n), some v1, some v2, some v3, some v4, some (.str d.shown), some (.ref D), o8, some pw, o10] ∧ Pool G' H' p ∧ Same G4 G' ∧ LMat G' pw pss ∧ Sqr n pss ∧ All ShI pss) ⟨_, _, v1, xss, G4, rfl, f.P, Same.refl _, m1, n1, C1⟩ ?_ ?_
  · rintro i _ H11 hi ⟨o8, o10, pw, pss, G', rfl, P11, S11, mp, np, cp⟩
    refine ⟨_, rfl, _, rfl, p, pw, pss, n, G', rfl, P11, hz, mp, np, fun v7 H12 G12 P12 S12 m7 => ?_⟩
    refine ⟨v7, pss, n, rfl, m7.same P12.s, np, hz, cp, fun H13 s13 => ?_⟩
    have P13 := P12.go s13
    have mp := mp.same S12
    have ip : All Itm pss := All.mono cp fun v h => h.itm
    have cN : All ShI (mulM leastG n pss pss) := mulM_all (q := ShI) np np cp cp fun xs ys hl h0 a b => leastG_sh a b hl h0
    have iN : All Itm (mulM leastG n pss pss) := All.mono cN fun v h => h.itm
    refine ⟨_, rfl, _, rfl, pw, pw, pss, pss, n, rfl, mp.same P13.s, mp.same P13.s, np, np, hz, cp, cp, fun v8 H14 nm8 => ?_⟩
    have P14 := P13.go nm8.same
    refine ⟨_, rfl, _, _, nm8.lm.dp iN, (mp.same P14.s).dp ip, shaped_M _, shaped_M _, rfl, _, rfl, ?_⟩
    refine iteB (fun c => by simp at c) fun _ => ?_
    refine ⟨_, rfl, _, rfl, pw, pw, pss, pss, n, rfl, mp.same P14.s, mp.same P14.s, np, np, hz, cp, cp, fun v9 H15 nm9 => ?_⟩
    obtain ⟨Pa, Sa⟩ := (P14.go nm9.same).all
    exact ⟨_, _, v9, _, _, rfl, Pa, S11.trans (S12.trans Sa), nm9.gp P14, mulM_sqr np, cN⟩
  · rintro _ H11 ⟨o8, o10, pw, pss, G', rfl, P11, S11, mp, np, cp⟩
    refine ⟨_, rfl, _, rfl, by show 2 ≤ sizeLine; omega, fun l5 hl5 => ?_⟩
    have P12 := P11.go (upd_new (o := .lst [v3, v4]) hl5)
    refine ⟨.ref l5, d, rfl, D_ _ l5 (S11.trans P12.s) upd_same, dok, dw, dd, _, rfl, rfl, ?_⟩
    have fin := q _ (pool_kept (S04.trans S11) P12)
    simpa using fin
end
end KM

namespace KM
open PySem L2 Gd Zn
def spLaw (K : PySem.W.Frag) : Sp := fun vs H Q _ => ∃ (a : Addr) (ns : List Int), vs = [.ref a] ∧ SqL K H a (ns.map V.int) ∧ ns.length ≤ 63 ∧ ∀ H', Q (.bl true) H'
section
variable {P : Program} {w : World} {K : PySem.W.Frag} {mg : Str → Option Value} {base : Heap}
abbrev slaw : Stmt := top 40
theorem sclaw : FnScope ["_law_script", "_law_k", "_law_box_here", "_law_size"] ["_law_script"] (defScope slaw) := ⟨rfl, rfl, rfl, by decide +kernel, rfl, by decide +kernel, by decide +kernel⟩
theorem ok_law {f f1 f2 f3 f4 : Addr} {fd fd1 fd2 fd3 fd4 : FuncData} (F : Fun K "law" "law" slaw f fd) (T : Txt mg base)
    (D__law_cell : Df P w K mg base CX0 1 "_law_cell" f1 fd1 ["_law_script", "_law_k"] (spScr K)) (D__law_box : Df P w K mg base CX0 1 "_law_box" f2 fd2 ["_law_cell_here"] spBox)
    (D__law_costs_right : Df P w K mg base CX0 6 "_law_costs_right" f3 fd3 ["_law_box_here", "_law_size"] spRight) (D__law_shapes_right : Df P w K mg base CX0 7 "_law_shapes_right" f4 fd4 ["_law_box_here", "_law_size"] spRight) :
    FnG P w K mg base CX0 8 f fd ["_law_script"] (spLaw K) := by
  refine okG F sclaw (fun vs H Q E h => ?_) (fun cdv A outer s H vs Q E hc hr h => ?_)
  · obtain ⟨a, ns, rfl, _⟩ := h
    rfl
  obtain ⟨a, ns, rfl, ha, hns, q⟩ := h
  refine ⟨_, (pss_cons (ps_for (passes_of rfl) rfl (pi_range1 rfl T.z_range (pa_cons (pe_callB (call_max2 rfl) (by rfl) T.z_max (by decide +kernel) (pa_cons pe_int (pa_cons (pe_callB (call_min2 rfl) (by rfl) T.z_min (by decide +kernel) (pa_cons (pe_callB call_len_seq (by rfl) T.z_len (by decide +kernel) (pa_cons (pv 0) pa_nil)) (pa_cons pe_int pa_nil))) pa_nil))) pa_nil)) (pg_name (i := 1) sclaw.nd rfl (Or.inl rfl))
  (pss_cons (ps_set (i := 2) sclaw.nd rfl (Or.inl rfl) (pe_d D__law_box hc (hr.mono (by decide)) (by rfl) (fun _ => passN) (pa_cons (pe_d D__law_cell hc (hr.mono (by decide)) (by rfl) (fun _ => passN) (pa_cons (pv 0) (pa_cons (pv 1) pa_nil))) pa_nil)))
 (pss_one (ps_for (passes_of rfl) rfl (pi_list (pe_lst (pa_cons pe_int (pa_cons pe_int (pa_cons pe_int (pa_cons pe_int (pa_cons pe_int (pa_cons pe_int (pa_cons pe_int (pa_cons pe_int pa_nil)))))))))) (pg_name (i := 3) sclaw.nd rfl (Or.inl rfl))
  (pss_one (ps_if (PW.pt (pw_or (pt_not (pt_val (pe_d D__law_costs_right hc (hr.mono (by decide)) (by rfl) (fun _ => passN) (pa_cons (pv 2) (pa_cons (pv 3) pa_nil))))) (pw_or1 (pt_not (pt_val (pe_d D__law_shapes_right hc (hr.mono (by decide)) (by rfl) (fun _ => passN) (pa_cons (pv 2) (pa_cons (pv 3) pa_nil))))))))
  (pss_one (ps_ret pe_bl)) pss_nil))))))
 (pss_one (ps_ret pe_bl))), ?_⟩
  have z16 := sizeLine_eq
  refine ⟨_, rfl, a, _, rfl, .inl ha, _, _, rfl, _, _, rfl, _, rfl, ?_, ?_, ?_⟩
  · split <;> split <;> omega
  · split <;> split <;> omega
  refine for_range (fun i σ H' => ∃ o1 o2 o3, σ = [some (.ref a), o1, o2, o3] ∧ SqL K H' a (ns.map V.int)) ⟨none, none, none, rfl, ha⟩ ?_ (fun _ _ _ => q _)
  rintro i _ H1 hi ⟨o1, o2, o3, rfl, h1⟩
  have hi8 : i < 1000 := by
    refine Nat.lt_of_lt_of_le hi ?_
    split <;> split <;> omega
  refine ⟨_, rfl, _, rfl, a, ns, _, rfl, h1, ?_, ?_, fun z => ⟨z, rfl, fun p o hp hb => ?_⟩⟩
  · omega
  · omega
  refine ⟨by show 8 ≤ sizeLine; omega, fun l hl => ⟨l, rfl, ⟨_, SqL.of upd_same⟩, ?_⟩⟩
  have hlp : l ≠ p := fun e => by rw [e, upd_same] at hl; exact nomatch hl
  have hb2 := hb.upd (o := .lst [.int 0, .int 1, .int 2, .int 3, .int 4, .int 5, .int 6, .int 9]) hl
  have back : ∀ {H'}, Kept (upd (upd H1 p o) l (.lst [.int 0, .int 1, .int 2, .int 3, .int 4, .int 5, .int 6, .int 9])) H' p → Same H1 H' := fun k b u e => by
    have n1 := ne_of_none e hp
    have e2 : upd H1 p o b = some u := by rw [upd_ne n1]; exact e
    exact k.2 b u n1 (by rw [upd_ne (ne_of_none e2 hl)]; exact e2)
  refine for_list (xs := [.int 0, .int 1, .int 2, .int 3, .int 4, .int 5, .int 6, .int 9]) (fun j σ H' => ∃ o3, σ = [some (.ref a), some (.int (0 + (i : Nat))), some (.ref p), o3] ∧ Kept (upd (upd H1 p o) l (.lst [.int 0, .int 1, .int 2, .int 3, .int 4, .int 5, .int 6, .int 9])) H' p) ⟨_, rfl, Kept.refl hb2⟩ (fun j σ H' _ ⟨_, _, k⟩ => SqL.of (k.2 _ _ hlp upd_same)) ?_ ?_
  · rintro j x _ H2 hx ⟨o3, rfl, k⟩
    have : ∃ n : Nat, n ≤ 12 ∧ x = .int n := by
      have hm := List.mem_of_getElem? hx
      simp only [List.mem_cons, List.not_mem_nil, or_false] at hm
      rcases hm with rfl | rfl | rfl | rfl | rfl | rfl | rfl | rfl
      · exact ⟨0, by decide, rfl⟩
      · exact ⟨1, by decide, rfl⟩
      · exact ⟨2, by decide, rfl⟩
      · exact ⟨3, by decide, rfl⟩
      · exact ⟨4, by decide, rfl⟩
      · exact ⟨5, by decide, rfl⟩
      · exact ⟨6, by decide, rfl⟩
      · exact ⟨9, by decide, rfl⟩
    obtain ⟨n, hn, rfl⟩ := this
    refine ⟨_, rfl, _, rfl, p, n, rfl, k.box, hn, fun H3 k3 => ⟨_, rfl, iteF ?_⟩⟩
    have k3 := k.trans k3
    refine ⟨_, rfl, _, rfl, p, n, rfl, k3.box, hn, fun H4 k4 => ⟨_, rfl, ?_⟩⟩
    exact iteF ⟨_, rfl, k3.trans k4⟩
  · rintro _ H2 ⟨o3, rfl, k⟩
    exact ⟨_, _, _, rfl, (back k).seq h1⟩
end
end KM

namespace KM
open PySem PySem.Spec PyProof.Rows L2 Gd Zn
theorem exm_selfG {K : PySem.W.Frag} {S : Addr} (h1 : PySem.W.subIn K (.ref S) (.type "BaseException") = some true) (h2 : PySem.W.isClsIn K S = true) (h3 : PySem.W.typeIn K (.ref S) = some (.type "type")) (h4 : PySem.W.subIn K (.ref S) (.ref S) = some true) :
    PySem.W.exmOne K (.ref S) (.ref S) = some true := by
  have e1 : (PySem.W.subIn K (.ref S) (.type "BaseException") == some true) = true := by rw [h1] <;> rfl
  have e2 : ((PySem.W.clsIn K S).isSome && PySem.W.typeIn K (.ref S) == some (.type "type")) = true := by
    have h2' : (PySem.W.clsIn K S).isSome = true := h2
    rw [h2', h3] <;> rfl
  show (if (PySem.W.subIn K (.ref S) (.type "BaseException") == some true) = true then (if ((PySem.W.clsIn K S).isSome && PySem.W.typeIn K (.ref S) == some (.type "type")) = true then PySem.W.subIn K (.ref S) (.ref S) else none) else none) = some true
  rw [if_pos e1, if_pos e2]
  exact h4
open PySem.W in
theorem all_mk {P : Program} {w : World} {K : PySem.W.Frag} {h : Heap} {mg : Str → Option Value} {fa : Addr} (X : K.In h) (G : h.Ns mainGlobals mg) (hfa : mg "law" = some (.ref fa))
    {f0 : Addr} {od0 an0 : Option Addr} {sl0 : Array (Option Value)} {oc0 kV0 dc0 pm0 cd0 ct0 : Value}
    {f1 : Addr} {od1 an1 : Option Addr} {sl1 : Array (Option Value)} {oc1 kV1 dc1 pm1 cd1 ct1 : Value}
    {f2 : Addr} {od2 an2 : Option Addr} {sl2 : Array (Option Value)} {oc2 kV2 dc2 pm2 cd2 ct2 : Value}
    {f3 : Addr} {od3 an3 : Option Addr} {sl3 : Array (Option Value)} {oc3 kV3 dc3 pm3 cd3 ct3 : Value}
    {f4 : Addr} {od4 an4 : Option Addr} {sl4 : Array (Option Value)} {oc4 kV4 dc4 pm4 cd4 ct4 : Value}
    {f5 : Addr} {od5 an5 : Option Addr} {sl5 : Array (Option Value)} {oc5 kV5 dc5 pm5 cd5 ct5 : Value}
    {f6 : Addr} {od6 an6 : Option Addr} {sl6 : Array (Option Value)} {oc6 kV6 dc6 pm6 cd6 ct6 : Value}
    {f7 : Addr} {od7 an7 : Option Addr} {sl7 : Array (Option Value)} {oc7 kV7 dc7 pm7 cd7 ct7 : Value}
    {f8 : Addr} {od8 an8 : Option Addr} {sl8 : Array (Option Value)} {oc8 kV8 dc8 pm8 cd8 ct8 : Value}
    {f9 : Addr} {od9 an9 : Option Addr} {sl9 : Array (Option Value)} {oc9 kV9 dc9 pm9 cd9 ct9 : Value}
    {f10 : Addr} {od10 an10 : Option Addr} {sl10 : Array (Option Value)} {oc10 kV10 dc10 pm10 cd10 ct10 : Value}
    {f11 : Addr} {od11 an11 : Option Addr} {sl11 : Array (Option Value)} {oc11 kV11 dc11 pm11 cd11 ct11 : Value}
    {f12 : Addr} {od12 an12 : Option Addr} {sl12 : Array (Option Value)} {oc12 kV12 dc12 pm12 cd12 ct12 : Value}
    {f13 : Addr} {od13 an13 : Option Addr} {sl13 : Array (Option Value)} {oc13 kV13 dc13 pm13 cd13 ct13 : Value}
    {f14 : Addr} {od14 an14 : Option Addr} {sl14 : Array (Option Value)} {oc14 kV14 dc14 pm14 cd14 ct14 : Value}
    {f15 : Addr} {od15 an15 : Option Addr} {sl15 : Array (Option Value)} {oc15 kV15 dc15 pm15 cd15 ct15 : Value}
    {f16 : Addr} {od16 an16 : Option Addr} {sl16 : Array (Option Value)} {oc16 kV16 dc16 pm16 cd16 ct16 : Value}
    {f17 : Addr} {od17 an17 : Option Addr} {sl17 : Array (Option Value)} {oc17 kV17 dc17 pm17 cd17 ct17 : Value}
    {f18 : Addr} {od18 an18 : Option Addr} {sl18 : Array (Option Value)} {oc18 kV18 dc18 pm18 cd18 ct18 : Value}
    {f19 : Addr} {od19 an19 : Option Addr} {sl19 : Array (Option Value)} {oc19 kV19 dc19 pm19 cd19 ct19 : Value}
    {f20 : Addr} {od20 an20 : Option Addr} {sl20 : Array (Option Value)} {oc20 kV20 dc20 pm20 cd20 ct20 : Value}
    {f21 : Addr} {od21 an21 : Option Addr} {sl21 : Array (Option Value)} {oc21 kV21 dc21 pm21 cd21 ct21 : Value}
    {f22 : Addr} {od22 an22 : Option Addr} {sl22 : Array (Option Value)} {oc22 kV22 dc22 pm22 cd22 ct22 : Value}
    {f23 : Addr} {od23 an23 : Option Addr} {sl23 : Array (Option Value)} {oc23 kV23 dc23 pm23 cd23 ct23 : Value}
    {f24 : Addr} {od24 an24 : Option Addr} {sl24 : Array (Option Value)} {oc24 kV24 dc24 pm24 cd24 ct24 : Value}
    {f25 : Addr} {od25 an25 : Option Addr} {sl25 : Array (Option Value)} {oc25 kV25 dc25 pm25 cd25 ct25 : Value}
    {f26 : Addr} {od26 an26 : Option Addr} {sl26 : Array (Option Value)} {oc26 kV26 dc26 pm26 cd26 ct26 : Value}
    {f27 : Addr} {od27 an27 : Option Addr} {sl27 : Array (Option Value)} {oc27 kV27 dc27 pm27 cd27 ct27 : Value}
    {f28 : Addr} {od28 an28 : Option Addr} {sl28 : Array (Option Value)} {oc28 kV28 dc28 pm28 cd28 ct28 : Value}
    {f29 : Addr} {od29 an29 : Option Addr} {sl29 : Array (Option Value)} {oc29 kV29 dc29 pm29 cd29 ct29 : Value}
    {f30 : Addr} {od30 an30 : Option Addr} {sl30 : Array (Option Value)} {oc30 kV30 dc30 pm30 cd30 ct30 : Value}
    {tN tS tF : Tok}
    (a0 : PySem.W.nsIn K mainGlobals "is_integer" = some (some (.ref f0)))
    (l0 : K.lookup f0 = some ⟨oc0, od0, .func (PySem.W.fnOf "is_integer" "is_integer" (defArgs sis_integer) (defBody sis_integer) (defScope sis_integer) .none kV0 dc0 pm0 an0 cd0 ct0), sl0⟩)
    (c0 : PySem.W.codeIn K cd0 "is_integer" = true)
    (k0 : PySem.W.keepIn K (.ref f0) = true)
    (a1 : PySem.W.nsIn K mainGlobals "is_list" = some (some (.ref f1)))
    (l1 : K.lookup f1 = some ⟨oc1, od1, .func (PySem.W.fnOf "is_list" "is_list" (defArgs sis_list) (defBody sis_list) (defScope sis_list) .none kV1 dc1 pm1 an1 cd1 ct1), sl1⟩)
    (c1 : PySem.W.codeIn K cd1 "is_list" = true)
    (k1 : PySem.W.keepIn K (.ref f1) = true)
    (a2 : PySem.W.nsIn K mainGlobals "is_index" = some (some (.ref f2)))
    (l2 : K.lookup f2 = some ⟨oc2, od2, .func (PySem.W.fnOf "is_index" "is_index" (defArgs sis_index) (defBody sis_index) (defScope sis_index) .none kV2 dc2 pm2 an2 cd2 ct2), sl2⟩)
    (c2 : PySem.W.codeIn K cd2 "is_index" = true)
    (k2 : PySem.W.keepIn K (.ref f2) = true)
    (a3 : PySem.W.nsIn K mainGlobals "is_grid" = some (some (.ref f3)))
    (l3 : K.lookup f3 = some ⟨oc3, od3, .func (PySem.W.fnOf "is_grid" "is_grid" (defArgs sis_grid) (defBody sis_grid) (defScope sis_grid) .none kV3 dc3 pm3 an3 cd3 ct3), sl3⟩)
    (c3 : PySem.W.codeIn K cd3 "is_grid" = true)
    (k3 : PySem.W.keepIn K (.ref f3) = true)
    (a4 : PySem.W.nsIn K mainGlobals "is_cost" = some (some (.ref f4)))
    (l4 : K.lookup f4 = some ⟨oc4, od4, .func (PySem.W.fnOf "is_cost" "is_cost" (defArgs sis_cost) (defBody sis_cost) (defScope sis_cost) .none kV4 dc4 pm4 an4 cd4 ct4), sl4⟩)
    (c4 : PySem.W.codeIn K cd4 "is_cost" = true)
    (k4 : PySem.W.keepIn K (.ref f4) = true)
    (a5 : PySem.W.nsIn K mainGlobals "cost_sum" = some (some (.ref f5)))
    (l5 : K.lookup f5 = some ⟨oc5, od5, .func (PySem.W.fnOf "cost_sum" "cost_sum" (defArgs scost_sum) (defBody scost_sum) (defScope scost_sum) .none kV5 dc5 pm5 an5 cd5 ct5), sl5⟩)
    (c5 : PySem.W.codeIn K cd5 "cost_sum" = true)
    (k5 : PySem.W.keepIn K (.ref f5) = true)
    (a6 : PySem.W.nsIn K mainGlobals "flipped" = some (some (.ref f6)))
    (l6 : K.lookup f6 = some ⟨oc6, od6, .func (PySem.W.fnOf "flipped" "flipped" (defArgs sflipped) (defBody sflipped) (defScope sflipped) .none kV6 dc6 pm6 an6 cd6 ct6), sl6⟩)
    (c6 : PySem.W.codeIn K cd6 "flipped" = true)
    (k6 : PySem.W.keepIn K (.ref f6) = true)
    (a7 : PySem.W.nsIn K mainGlobals "is_square" = some (some (.ref f7)))
    (l7 : K.lookup f7 = some ⟨oc7, od7, .func (PySem.W.fnOf "is_square" "is_square" (defArgs sis_square) (defBody sis_square) (defScope sis_square) .none kV7 dc7 pm7 an7 cd7 ct7), sl7⟩)
    (c7 : PySem.W.codeIn K cd7 "is_square" = true)
    (k7 : PySem.W.keepIn K (.ref f7) = true)
    (a8 : PySem.W.nsIn K mainGlobals "require_cost_matrix" = some (some (.ref f8)))
    (l8 : K.lookup f8 = some ⟨oc8, od8, .func (PySem.W.fnOf "require_cost_matrix" "require_cost_matrix" (defArgs srequire_cost_matrix) (defBody srequire_cost_matrix) (defScope srequire_cost_matrix) .none kV8 dc8 pm8 an8 cd8 ct8), sl8⟩)
    (c8 : PySem.W.codeIn K cd8 "require_cost_matrix" = true)
    (k8 : PySem.W.keepIn K (.ref f8) = true)
    (a9 : PySem.W.nsIn K mainGlobals "is_shape" = some (some (.ref f9)))
    (l9 : K.lookup f9 = some ⟨oc9, od9, .func (PySem.W.fnOf "is_shape" "is_shape" (defArgs sis_shape) (defBody sis_shape) (defScope sis_shape) .none kV9 dc9 pm9 an9 cd9 ct9), sl9⟩)
    (c9 : PySem.W.codeIn K cd9 "is_shape" = true)
    (k9 : PySem.W.keepIn K (.ref f9) = true)
    (a10 : PySem.W.nsIn K mainGlobals "require_shape" = some (some (.ref f10)))
    (l10 : K.lookup f10 = some ⟨oc10, od10, .func (PySem.W.fnOf "require_shape" "require_shape" (defArgs srequire_shape) (defBody srequire_shape) (defScope srequire_shape) .none kV10 dc10 pm10 an10 cd10 ct10), sl10⟩)
    (c10 : PySem.W.codeIn K cd10 "require_shape" = true)
    (k10 : PySem.W.keepIn K (.ref f10) = true)
    (a11 : PySem.W.nsIn K mainGlobals "require_same_size" = some (some (.ref f11)))
    (l11 : K.lookup f11 = some ⟨oc11, od11, .func (PySem.W.fnOf "require_same_size" "require_same_size" (defArgs srequire_same_size) (defBody srequire_same_size) (defScope srequire_same_size) .none kV11 dc11 pm11 an11 cd11 ct11), sl11⟩)
    (c11 : PySem.W.codeIn K cd11 "require_same_size" = true)
    (k11 : PySem.W.keepIn K (.ref f11) = true)
    (a12 : PySem.W.nsIn K mainGlobals "least_sum" = some (some (.ref f12)))
    (l12 : K.lookup f12 = some ⟨oc12, od12, .func (PySem.W.fnOf "least_sum" "least_sum" (defArgs sleast_sum) (defBody sleast_sum) (defScope sleast_sum) .none kV12 dc12 pm12 an12 cd12 ct12), sl12⟩)
    (c12 : PySem.W.codeIn K cd12 "least_sum" = true)
    (k12 : PySem.W.keepIn K (.ref f12) = true)
    (a13 : PySem.W.nsIn K mainGlobals "multiply_costs" = some (some (.ref f13)))
    (l13 : K.lookup f13 = some ⟨oc13, od13, .func (PySem.W.fnOf "multiply_costs" "multiply_costs" (defArgs smultiply_costs) (defBody smultiply_costs) (defScope smultiply_costs) .none kV13 dc13 pm13 an13 cd13 ct13), sl13⟩)
    (c13 : PySem.W.codeIn K cd13 "multiply_costs" = true)
    (k13 : PySem.W.keepIn K (.ref f13) = true)
    (a14 : PySem.W.nsIn K mainGlobals "shape_item" = some (some (.ref f14)))
    (l14 : K.lookup f14 = some ⟨oc14, od14, .func (PySem.W.fnOf "shape_item" "shape_item" (defArgs sshape_item) (defBody sshape_item) (defScope sshape_item) .none kV14 dc14 pm14 an14 cd14 ct14), sl14⟩)
    (c14 : PySem.W.codeIn K cd14 "shape_item" = true)
    (k14 : PySem.W.keepIn K (.ref f14) = true)
    (a15 : PySem.W.nsIn K mainGlobals "shape_of" = some (some (.ref f15)))
    (l15 : K.lookup f15 = some ⟨oc15, od15, .func (PySem.W.fnOf "shape_of" "shape_of" (defArgs sshape_of) (defBody sshape_of) (defScope sshape_of) .none kV15 dc15 pm15 an15 cd15 ct15), sl15⟩)
    (c15 : PySem.W.codeIn K cd15 "shape_of" = true)
    (k15 : PySem.W.keepIn K (.ref f15) = true)
    (a16 : PySem.W.nsIn K mainGlobals "least_greater" = some (some (.ref f16)))
    (l16 : K.lookup f16 = some ⟨oc16, od16, .func (PySem.W.fnOf "least_greater" "least_greater" (defArgs sleast_greater) (defBody sleast_greater) (defScope sleast_greater) .none kV16 dc16 pm16 an16 cd16 ct16), sl16⟩)
    (c16 : PySem.W.codeIn K cd16 "least_greater" = true)
    (k16 : PySem.W.keepIn K (.ref f16) = true)
    (a17 : PySem.W.nsIn K mainGlobals "shape_product" = some (some (.ref f17)))
    (l17 : K.lookup f17 = some ⟨oc17, od17, .func (PySem.W.fnOf "shape_product" "shape_product" (defArgs sshape_product) (defBody sshape_product) (defScope sshape_product) .none kV17 dc17 pm17 an17 cd17 ct17), sl17⟩)
    (c17 : PySem.W.codeIn K cd17 "shape_product" = true)
    (k17 : PySem.W.keepIn K (.ref f17) = true)
    (a18 : PySem.W.nsIn K mainGlobals "multiply_shapes" = some (some (.ref f18)))
    (l18 : K.lookup f18 = some ⟨oc18, od18, .func (PySem.W.fnOf "multiply_shapes" "multiply_shapes" (defArgs smultiply_shapes) (defBody smultiply_shapes) (defScope smultiply_shapes) .none kV18 dc18 pm18 an18 cd18 ct18), sl18⟩)
    (c18 : PySem.W.codeIn K cd18 "multiply_shapes" = true)
    (k18 : PySem.W.keepIn K (.ref f18) = true)
    (a19 : PySem.W.nsIn K mainGlobals "is_stable_shape" = some (some (.ref f19)))
    (l19 : K.lookup f19 = some ⟨oc19, od19, .func (PySem.W.fnOf "is_stable_shape" "is_stable_shape" (defArgs sis_stable_shape) (defBody sis_stable_shape) (defScope sis_stable_shape) .none kV19 dc19 pm19 an19 cd19 ct19), sl19⟩)
    (c19 : PySem.W.codeIn K cd19 "is_stable_shape" = true)
    (k19 : PySem.W.keepIn K (.ref f19) = true)
    (a20 : PySem.W.nsIn K mainGlobals "is_stable" = some (some (.ref f20)))
    (l20 : K.lookup f20 = some ⟨oc20, od20, .func (PySem.W.fnOf "is_stable" "is_stable" (defArgs sis_stable) (defBody sis_stable) (defScope sis_stable) .none kV20 dc20 pm20 an20 cd20 ct20), sl20⟩)
    (c20 : PySem.W.codeIn K cd20 "is_stable" = true)
    (k20 : PySem.W.keepIn K (.ref f20) = true)
    (a21 : PySem.W.nsIn K mainGlobals "_law_cell" = some (some (.ref f21)))
    (l21 : K.lookup f21 = some ⟨oc21, od21, .func (PySem.W.fnOf "_law_cell" "_law_cell" (defArgs s_law_cell) (defBody s_law_cell) (defScope s_law_cell) .none kV21 dc21 pm21 an21 cd21 ct21), sl21⟩)
    (c21 : PySem.W.codeIn K cd21 "_law_cell" = true)
    (k21 : PySem.W.keepIn K (.ref f21) = true)
    (a22 : PySem.W.nsIn K mainGlobals "_law_box" = some (some (.ref f22)))
    (l22 : K.lookup f22 = some ⟨oc22, od22, .func (PySem.W.fnOf "_law_box" "_law_box" (defArgs s_law_box) (defBody s_law_box) (defScope s_law_box) .none kV22 dc22 pm22 an22 cd22 ct22), sl22⟩)
    (c22 : PySem.W.codeIn K cd22 "_law_box" = true)
    (k22 : PySem.W.keepIn K (.ref f22) = true)
    (a23 : PySem.W.nsIn K mainGlobals "_law_take" = some (some (.ref f23)))
    (l23 : K.lookup f23 = some ⟨oc23, od23, .func (PySem.W.fnOf "_law_take" "_law_take" (defArgs s_law_take) (defBody s_law_take) (defScope s_law_take) .none kV23 dc23 pm23 an23 cd23 ct23), sl23⟩)
    (c23 : PySem.W.codeIn K cd23 "_law_take" = true)
    (k23 : PySem.W.keepIn K (.ref f23) = true)
    (a24 : PySem.W.nsIn K mainGlobals "_law_drawn" = some (some (.ref f24)))
    (l24 : K.lookup f24 = some ⟨oc24, od24, .func (PySem.W.fnOf "_law_drawn" "_law_drawn" (defArgs s_law_drawn) (defBody s_law_drawn) (defScope s_law_drawn) .none kV24 dc24 pm24 an24 cd24 ct24), sl24⟩)
    (c24 : PySem.W.codeIn K cd24 "_law_drawn" = true)
    (k24 : PySem.W.keepIn K (.ref f24) = true)
    (a25 : PySem.W.nsIn K mainGlobals "_law_given" = some (some (.ref f25)))
    (l25 : K.lookup f25 = some ⟨oc25, od25, .func (PySem.W.fnOf "_law_given" "_law_given" (defArgs s_law_given) (defBody s_law_given) (defScope s_law_given) .none kV25 dc25 pm25 an25 cd25 ct25), sl25⟩)
    (c25 : PySem.W.codeIn K cd25 "_law_given" = true)
    (k25 : PySem.W.keepIn K (.ref f25) = true)
    (a26 : PySem.W.nsIn K mainGlobals "_law_sums" = some (some (.ref f26)))
    (l26 : K.lookup f26 = some ⟨oc26, od26, .func (PySem.W.fnOf "_law_sums" "_law_sums" (defArgs s_law_sums) (defBody s_law_sums) (defScope s_law_sums) .none kV26 dc26 pm26 an26 cd26 ct26), sl26⟩)
    (c26 : PySem.W.codeIn K cd26 "_law_sums" = true)
    (k26 : PySem.W.keepIn K (.ref f26) = true)
    (a27 : PySem.W.nsIn K mainGlobals "_law_paths" = some (some (.ref f27)))
    (l27 : K.lookup f27 = some ⟨oc27, od27, .func (PySem.W.fnOf "_law_paths" "_law_paths" (defArgs s_law_paths) (defBody s_law_paths) (defScope s_law_paths) .none kV27 dc27 pm27 an27 cd27 ct27), sl27⟩)
    (c27 : PySem.W.codeIn K cd27 "_law_paths" = true)
    (k27 : PySem.W.keepIn K (.ref f27) = true)
    (a28 : PySem.W.nsIn K mainGlobals "_law_costs_right" = some (some (.ref f28)))
    (l28 : K.lookup f28 = some ⟨oc28, od28, .func (PySem.W.fnOf "_law_costs_right" "_law_costs_right" (defArgs s_law_costs_right) (defBody s_law_costs_right) (defScope s_law_costs_right) .none kV28 dc28 pm28 an28 cd28 ct28), sl28⟩)
    (c28 : PySem.W.codeIn K cd28 "_law_costs_right" = true)
    (k28 : PySem.W.keepIn K (.ref f28) = true)
    (a29 : PySem.W.nsIn K mainGlobals "_law_shapes_right" = some (some (.ref f29)))
    (l29 : K.lookup f29 = some ⟨oc29, od29, .func (PySem.W.fnOf "_law_shapes_right" "_law_shapes_right" (defArgs s_law_shapes_right) (defBody s_law_shapes_right) (defScope s_law_shapes_right) .none kV29 dc29 pm29 an29 cd29 ct29), sl29⟩)
    (c29 : PySem.W.codeIn K cd29 "_law_shapes_right" = true)
    (k29 : PySem.W.keepIn K (.ref f29) = true)
    (a30 : PySem.W.nsIn K mainGlobals "law" = some (some (.ref f30)))
    (l30 : K.lookup f30 = some ⟨oc30, od30, .func (PySem.W.fnOf "law" "law" (defArgs slaw) (defBody slaw) (defScope slaw) .none kV30 dc30 pm30 an30 cd30 ct30), sl30⟩)
    (c30 : PySem.W.codeIn K cd30 "law" = true)
    (k30 : PySem.W.keepIn K (.ref f30) = true)
    (gN : PySem.W.nsIn K mainGlobals "NEVER" = some (some (.int 3 tN)))
    (gS : PySem.W.nsIn K mainGlobals "SOME" = some (some (.int 1 tS)))
    (gF : PySem.W.nsIn K mainGlobals "FREE" = some (some (.int 0 tF)))
    (z_isinstance : PySem.W.nsIn K mainGlobals "isinstance" = some none)
    (z_int : PySem.W.nsIn K mainGlobals "int" = some none)
    (z_bool : PySem.W.nsIn K mainGlobals "bool" = some none)
    (z_list : PySem.W.nsIn K mainGlobals "list" = some none)
    (z_tuple : PySem.W.nsIn K mainGlobals "tuple" = some none)
    (z_len : PySem.W.nsIn K mainGlobals "len" = some none)
    (z_all : PySem.W.nsIn K mainGlobals "all" = some none)
    (z_max : PySem.W.nsIn K mainGlobals "max" = some none)
    (z_min : PySem.W.nsIn K mainGlobals "min" = some none)
    (z_range : PySem.W.nsIn K mainGlobals "range" = some none)
    (z_repr : PySem.W.nsIn K mainGlobals "repr" = some none)
    (z_zip : PySem.W.nsIn K mainGlobals "zip" = some none)
    : ∃ fd : FuncData, (∀ (s : Shared) (u : Value), BindsTo s fd ⟨[u], []⟩ [("_law_script", u)]) ∧ ∀ base : Heap, K.In base → base.Ns mainGlobals mg → SysIn base → FnG P w K mg base CX0 8 fa fd ["_law_script"] (spLaw K) := by
  have e := hfa.symm.trans (PySem.W.mg_of X G a30)
  cases e
  have F0 := fun_mk (st := sis_integer) l0 c0 k0
  have m0 := PySem.W.mg_of X G a0
  have F1 := fun_mk (st := sis_list) l1 c1 k1
  have m1 := PySem.W.mg_of X G a1
  have F2 := fun_mk (st := sis_index) l2 c2 k2
  have m2 := PySem.W.mg_of X G a2
  have F3 := fun_mk (st := sis_grid) l3 c3 k3
  have m3 := PySem.W.mg_of X G a3
  have F4 := fun_mk (st := sis_cost) l4 c4 k4
  have m4 := PySem.W.mg_of X G a4
  have F5 := fun_mk (st := scost_sum) l5 c5 k5
  have m5 := PySem.W.mg_of X G a5
  have F6 := fun_mk (st := sflipped) l6 c6 k6
  have m6 := PySem.W.mg_of X G a6
  have F7 := fun_mk (st := sis_square) l7 c7 k7
  have m7 := PySem.W.mg_of X G a7
  have F8 := fun_mk (st := srequire_cost_matrix) l8 c8 k8
  have m8 := PySem.W.mg_of X G a8
  have F9 := fun_mk (st := sis_shape) l9 c9 k9
  have m9 := PySem.W.mg_of X G a9
  have F10 := fun_mk (st := srequire_shape) l10 c10 k10
  have m10 := PySem.W.mg_of X G a10
  have F11 := fun_mk (st := srequire_same_size) l11 c11 k11
  have m11 := PySem.W.mg_of X G a11
  have F12 := fun_mk (st := sleast_sum) l12 c12 k12
  have m12 := PySem.W.mg_of X G a12
  have F13 := fun_mk (st := smultiply_costs) l13 c13 k13
  have m13 := PySem.W.mg_of X G a13
  have F14 := fun_mk (st := sshape_item) l14 c14 k14
  have m14 := PySem.W.mg_of X G a14
  have F15 := fun_mk (st := sshape_of) l15 c15 k15
  have m15 := PySem.W.mg_of X G a15
  have F16 := fun_mk (st := sleast_greater) l16 c16 k16
  have m16 := PySem.W.mg_of X G a16
  have F17 := fun_mk (st := sshape_product) l17 c17 k17
  have m17 := PySem.W.mg_of X G a17
  have F18 := fun_mk (st := smultiply_shapes) l18 c18 k18
  have m18 := PySem.W.mg_of X G a18
  have F19 := fun_mk (st := sis_stable_shape) l19 c19 k19
  have m19 := PySem.W.mg_of X G a19
  have F20 := fun_mk (st := sis_stable) l20 c20 k20
  have m20 := PySem.W.mg_of X G a20
  have F21 := fun_mk (st := s_law_cell) l21 c21 k21
  have m21 := PySem.W.mg_of X G a21
  have F22 := fun_mk (st := s_law_box) l22 c22 k22
  have m22 := PySem.W.mg_of X G a22
  have F23 := fun_mk (st := s_law_take) l23 c23 k23
  have m23 := PySem.W.mg_of X G a23
  have F24 := fun_mk (st := s_law_drawn) l24 c24 k24
  have m24 := PySem.W.mg_of X G a24
  have F25 := fun_mk (st := s_law_given) l25 c25 k25
  have m25 := PySem.W.mg_of X G a25
  have F26 := fun_mk (st := s_law_sums) l26 c26 k26
  have m26 := PySem.W.mg_of X G a26
  have F27 := fun_mk (st := s_law_paths) l27 c27 k27
  have m27 := PySem.W.mg_of X G a27
  have F28 := fun_mk (st := s_law_costs_right) l28 c28 k28
  have m28 := PySem.W.mg_of X G a28
  have F29 := fun_mk (st := s_law_shapes_right) l29 c29 k29
  have m29 := PySem.W.mg_of X G a29
  have F30 := fun_mk (st := slaw) l30 c30 k30
  have m30 := PySem.W.mg_of X G a30
  have b0 := F0.binds (ps := ["value"]) fun _ _ _ _ _ _ us hl => match us, hl with | [_], _ => rfl
  have b1 := F1.binds (ps := ["value"]) fun _ _ _ _ _ _ us hl => match us, hl with | [_], _ => rfl
  have b2 := F2.binds (ps := ["value", "size"]) fun _ _ _ _ _ _ us hl => match us, hl with | [_, _], _ => rfl
  have b3 := F3.binds (ps := ["value", "height", "width"]) fun _ _ _ _ _ _ us hl => match us, hl with | [_, _, _], _ => rfl
  have b4 := F4.binds (ps := ["value"]) fun _ _ _ _ _ _ us hl => match us, hl with | [_], _ => rfl
  have b5 := F5.binds (ps := ["cost", "other"]) fun _ _ _ _ _ _ us hl => match us, hl with | [_, _], _ => rfl
  have b6 := F6.binds (ps := ["matrix"]) fun _ _ _ _ _ _ us hl => match us, hl with | [_], _ => rfl
  have b7 := F7.binds (ps := ["value"]) fun _ _ _ _ _ _ us hl => match us, hl with | [_], _ => rfl
  have b8 := F8.binds (ps := ["value"]) fun _ _ _ _ _ _ us hl => match us, hl with | [_], _ => rfl
  have b9 := F9.binds (ps := ["value"]) fun _ _ _ _ _ _ us hl => match us, hl with | [_], _ => rfl
  have b10 := F10.binds (ps := ["value"]) fun _ _ _ _ _ _ us hl => match us, hl with | [_], _ => rfl
  have b11 := F11.binds (ps := ["one", "other"]) fun _ _ _ _ _ _ us hl => match us, hl with | [_, _], _ => rfl
  have b12 := F12.binds (ps := ["row", "column"]) fun _ _ _ _ _ _ us hl => match us, hl with | [_, _], _ => rfl
  have b13 := F13.binds (ps := ["one", "other"]) fun _ _ _ _ _ _ us hl => match us, hl with | [_, _], _ => rfl
  have b14 := F14.binds (ps := ["cost"]) fun _ _ _ _ _ _ us hl => match us, hl with | [_], _ => rfl
  have b15 := F15.binds (ps := ["matrix"]) fun _ _ _ _ _ _ us hl => match us, hl with | [_], _ => rfl
  have b16 := F16.binds (ps := ["row", "column"]) fun _ _ _ _ _ _ us hl => match us, hl with | [_, _], _ => rfl
  have b17 := F17.binds (ps := ["one", "other"]) fun _ _ _ _ _ _ us hl => match us, hl with | [_, _], _ => rfl
  have b18 := F18.binds (ps := ["one", "other"]) fun _ _ _ _ _ _ us hl => match us, hl with | [_, _], _ => rfl
  have b19 := F19.binds (ps := ["shape"]) fun _ _ _ _ _ _ us hl => match us, hl with | [_], _ => rfl
  have b20 := F20.binds (ps := ["shape"]) fun _ _ _ _ _ _ us hl => match us, hl with | [_], _ => rfl
  have b21 := F21.binds (ps := ["_law_script", "_law_k"]) fun _ _ _ _ _ _ us hl => match us, hl with | [_, _], _ => rfl
  have b22 := F22.binds (ps := ["_law_cell_here"]) fun _ _ _ _ _ _ us hl => match us, hl with | [_], _ => rfl
  have b23 := F23.binds (ps := ["_law_box_here", "_law_size"]) fun _ _ _ _ _ _ us hl => match us, hl with | [_, _], _ => rfl
  have b24 := F24.binds (ps := ["_law_box_here", "_law_size", "_law_items"]) fun _ _ _ _ _ _ us hl => match us, hl with | [_, _, _], _ => rfl
  have b25 := F25.binds (ps := ["_law_box_here", "_law_matrix"]) fun _ _ _ _ _ _ us hl => match us, hl with | [_, _], _ => rfl
  have b26 := F26.binds (ps := ["_law_one", "_law_other"]) fun _ _ _ _ _ _ us hl => match us, hl with | [_, _], _ => rfl
  have b27 := F27.binds (ps := ["_law_one", "_law_other"]) fun _ _ _ _ _ _ us hl => match us, hl with | [_, _], _ => rfl
  have b28 := F28.binds (ps := ["_law_box_here", "_law_size"]) fun _ _ _ _ _ _ us hl => match us, hl with | [_, _], _ => rfl
  have b29 := F29.binds (ps := ["_law_box_here", "_law_size"]) fun _ _ _ _ _ _ us hl => match us, hl with | [_, _], _ => rfl
  refine ⟨PySem.W.fnOf "law" "law" (defArgs slaw) (defBody slaw) (defScope slaw) .none kV30 dc30 pm30 an30 cd30 ct30, fun s u => .of_eq rfl, fun base _ _ hs => ?_⟩
  have T : Txt mg base := { sys := hs, g_NEVER := ⟨_, PySem.W.mg_of X G gN, ⟨_, rfl⟩⟩, g_SOME := ⟨_, PySem.W.mg_of X G gS, ⟨_, rfl⟩⟩, g_FREE := ⟨_, PySem.W.mg_of X G gF, ⟨_, rfl⟩⟩, z_isinstance := PySem.W.mg_none_of X G z_isinstance, z_int := PySem.W.mg_none_of X G z_int, z_bool := PySem.W.mg_none_of X G z_bool, z_list := PySem.W.mg_none_of X G z_list, z_tuple := PySem.W.mg_none_of X G z_tuple, z_len := PySem.W.mg_none_of X G z_len, z_all := PySem.W.mg_none_of X G z_all, z_max := PySem.W.mg_none_of X G z_max, z_min := PySem.W.mg_none_of X G z_min, z_range := PySem.W.mg_none_of X G z_range, z_repr := PySem.W.mg_none_of X G z_repr, z_zip := PySem.W.mg_none_of X G z_zip }
  have D0 : Df P w K mg base CX0 1 "is_integer" _ _ ["value"] spIsInt := ⟨ok_isint F0 T, m0, k0, b0⟩
  have D1 : Df P w K mg base CX0 1 "is_list" _ _ ["value"] spIsList := ⟨ok_islist F1 T, m1, k1, b1⟩
  have D2 : Df P w K mg base CX0 2 "is_index" _ _ ["value", "size"] spIsIndex := ⟨ok_isindex F2 T D0, m2, k2, b2⟩
  have D3 : Df P w K mg base CX0 2 "is_grid" _ _ ["value", "height", "width"] spGrid := ⟨ok_grid F3 T D1, m3, k3, b3⟩
  have D4 : Df P w K mg base CX0 2 "is_cost" _ _ ["value"] spIsCost := ⟨ok_iscost F4 T D0, m4, k4, b4⟩
  have D5 : Df P w K mg base CX0 1 "cost_sum" _ _ ["cost", "other"] spSum := ⟨ok_costsum F5 T, m5, k5, b5⟩
  have D6 : Df P w K mg base CX0 1 "flipped" _ _ ["matrix"] spFlip := ⟨ok_flipped F6 T, m6, k6, b6⟩
  have D7 : Df P w K mg base CX0 3 "is_square" _ _ ["value"] spSquare := ⟨ok_square F7 T D1 D3, m7, k7, b7⟩
  have D8 : Df P w K mg base CX0 4 "require_cost_matrix" _ _ ["value"] (spReq Cost) := ⟨ok_reqC F8 T D7 D4, m8, k8, b8⟩
  have D9 : Df P w K mg base CX0 4 "is_shape" _ _ ["value"] (spIs ShI) := ⟨ok_isS F9 T D7 D2, m9, k9, b9⟩
  have D10 : Df P w K mg base CX0 5 "require_shape" _ _ ["value"] (spReq ShI) := ⟨ok_reqS F10 T D9, m10, k10, b10⟩
  have D11 : Df P w K mg base CX0 1 "require_same_size" _ _ ["one", "other"] spSize := ⟨ok_size F11 T, m11, k11, b11⟩
  have D12 : Df P w K mg base CX0 2 "least_sum" _ _ ["row", "column"] (spLeast Cost leastC 0) := ⟨ok_leastsum F12 T D5, m12, k12, b12⟩
  have D13 : Df P w K mg base CX0 5 "multiply_costs" _ _ ["one", "other"] (spMul Cost leastC) := ⟨ok_mulcosts F13 T D8 D11 D6 D12, m13, k13, b13⟩
  have D14 : Df P w K mg base CX0 1 "shape_item" _ _ ["cost"] spItem := ⟨ok_shapeitem F14 T, m14, k14, b14⟩
  have D15 : Df P w K mg base CX0 5 "shape_of" _ _ ["matrix"] spShape := ⟨ok_shapeof F15 T D8 D14, m15, k15, b15⟩
  have D16 : Df P w K mg base CX0 1 "least_greater" _ _ ["row", "column"] (spLeast ShI leastG 1) := ⟨ok_leastgr F16 T, m16, k16, b16⟩
  have D17 : Df P w K mg base CX0 2 "shape_product" _ _ ["one", "other"] (spMul ShI leastG) := ⟨ok_shprod F17 T D6 D16, m17, k17, b17⟩
  have D18 : Df P w K mg base CX0 6 "multiply_shapes" _ _ ["one", "other"] (spMul ShI leastG) := ⟨ok_mulshapes F18 T D10 D11 D17, m18, k18, b18⟩
  have D19 : Df P w K mg base CX0 2 "is_stable_shape" _ _ ["shape"] spStable := ⟨ok_stableS F19 T D6 D16, m19, k19, b19⟩
  have D20 : Df P w K mg base CX0 6 "is_stable" _ _ ["shape"] spStable := ⟨ok_stable F20 T D10 D19, m20, k20, b20⟩
  have D21 : Df P w K mg base CX0 1 "_law_cell" _ _ ["_law_script", "_law_k"] (spScr K) := ⟨ok_cell F21 T, m21, k21, b21⟩
  have D22 : Df P w K mg base CX0 1 "_law_box" _ _ ["_law_cell_here"] spBox := ⟨ok_box F22 T, m22, k22, b22⟩
  have D23 : Df P w K mg base CX0 1 "_law_take" _ _ ["_law_box_here", "_law_size"] spTake := ⟨ok_take F23, m23, k23, b23⟩
  have D24 : Df P w K mg base CX0 2 "_law_drawn" _ _ ["_law_box_here", "_law_size", "_law_items"] spDrawn := ⟨ok_drawn F24 T D23, m24, k24, b24⟩
  have D25 : Df P w K mg base CX0 2 "_law_given" _ _ ["_law_box_here", "_law_matrix"] spGiven := ⟨ok_given F25 T D23, m25, k25, b25⟩
  have D26 : Df P w K mg base CX0 1 "_law_sums" _ _ ["_law_one", "_law_other"] spSums := ⟨ok_sums F26 T, m26, k26, b26⟩
  have D27 : Df P w K mg base CX0 1 "_law_paths" _ _ ["_law_one", "_law_other"] spPaths := ⟨ok_paths F27 T, m27, k27, b27⟩
  have D28 : Df P w K mg base CX0 6 "_law_costs_right" _ _ ["_law_box_here", "_law_size"] spRight := ⟨ok_costsright F28 T D24 D25 D13 D26 D15, m28, k28, b28⟩
  have D29 : Df P w K mg base CX0 7 "_law_shapes_right" _ _ ["_law_box_here", "_law_size"] spRight := ⟨ok_shapesright F29 T D24 D25 D18 D27 D20, m29, k29, b29⟩
  exact ok_law F30 T D21 D22 D28 D29
theorem walk {l : PySem.W.OpenLaw} {q : Program} {loose : List Str} {XP : (Str → Option Value) → Heap → Prop} {YP : World → Heap → Prop} {d : DefRec} {K : Params → PySem.W.Frag} (hn : l.most = some 63) (hdf : d.params.defaults = []) (himp : importsNone q = true)
    (hY : ∀ (w : World) (h : Heap), YP w h → (K w.params).In h)
    (F : ∀ (w : World) (mg : Str → Option Value) (fa : Addr) (h : Heap), (K w.params).In h → h.Ns mainGlobals mg → mg d.name = some (.ref fa) →
      ∃ fd : FuncData, (∀ (s : Shared) (u : Value), BindsTo s fd ⟨[u], []⟩ [("_law_script", u)]) ∧ ∀ base : Heap, (K w.params).In base → base.Ns mainGlobals mg → SysIn base → FnG l.prog w (K w.params) mg base CX0 8 fa fd ["_law_script"] (spLaw (K w.params))) :
    PySem.W.WalkO q loose XP YP l.row.toRowW d [] (fun f vs => PySem.call f vs) :=
  Gd.walkG (n := 63) (k := 8) (x := "_law_script") (CX := fun _ => CX0) (sp := fun w => spLaw (K w.params)) hn (by decide) hdf ⟨rfl, by decide, by decide⟩ himp hY F
    (fun _ _ a ns hl _ hS => ⟨a, ns, rfl, hS, hl, fun _ => rfl⟩) fun _ _ _ _ _ z => z
end KM
open PySem PySem.W PyProof.Rows
set_option maxRecDepth 100000 in
set_option maxHeartbeats 0 in
theorem PySem.Challenge.cw_formatrepair_k35_products_and_shapes_holds : PySem.Challenge.rw_formatrepair_k35_products_and_shapes.Holds := by
  w_on; o_law; k_head; (case hw => w_witness2)
  k_fill
  refine KM.walk (l := PySem.Challenge.rw_formatrepair_k35_products_and_shapes) rfl rfl rfl (fun w h Y => PySem.W.kIn_of Y) ?F
  case F =>
    intro w mg fa h KX G hmg
    refine' KM.all_mk KX G hmg ?a0 ?l0 ?c0 ?k0 ?a1 ?l1 ?c1 ?k1 ?a2 ?l2 ?c2 ?k2 ?a3 ?l3 ?c3 ?k3 ?a4 ?l4 ?c4 ?k4 ?a5 ?l5 ?c5 ?k5 ?a6 ?l6 ?c6 ?k6 ?a7 ?l7 ?c7 ?k7 ?a8 ?l8 ?c8 ?k8 ?a9 ?l9 ?c9 ?k9 ?a10 ?l10 ?c10 ?k10 ?a11 ?l11 ?c11 ?k11 ?a12 ?l12 ?c12 ?k12 ?a13 ?l13 ?c13 ?k13 ?a14 ?l14 ?c14 ?k14 ?a15 ?l15 ?c15 ?k15 ?a16 ?l16 ?c16 ?k16 ?a17 ?l17 ?c17 ?k17 ?a18 ?l18 ?c18 ?k18 ?a19 ?l19 ?c19 ?k19 ?a20 ?l20 ?c20 ?k20 ?a21 ?l21 ?c21 ?k21 ?a22 ?l22 ?c22 ?k22 ?a23 ?l23 ?c23 ?k23 ?a24 ?l24 ?c24 ?k24 ?a25 ?l25 ?c25 ?k25 ?a26 ?l26 ?c26 ?k26 ?a27 ?l27 ?c27 ?k27 ?a28 ?l28 ?c28 ?k28 ?a29 ?l29 ?c29 ?k29 ?a30 ?l30 ?c30 ?k30 ?gN ?gS ?gF ?z_isinstance ?z_int ?z_bool ?z_list ?z_tuple ?z_len ?z_all ?z_max ?z_min ?z_range ?z_repr ?z_zip
    (case a0 => k_is)
    (case l0 => k_is)
    (case c0 => k_is)
    (case k0 => k_is)
    (case a1 => k_is)
    (case l1 => k_is)
    (case c1 => k_is)
    (case k1 => k_is)
    (case a2 => k_is)
    (case l2 => k_is)
    (case c2 => k_is)
    (case k2 => k_is)
    (case a3 => k_is)
    (case l3 => k_is)
    (case c3 => k_is)
    (case k3 => k_is)
    (case a4 => k_is)
    (case l4 => k_is)
    (case c4 => k_is)
    (case k4 => k_is)
    (case a5 => k_is)
    (case l5 => k_is)
    (case c5 => k_is)
    (case k5 => k_is)
    (case a6 => k_is)
    (case l6 => k_is)
    (case c6 => k_is)
    (case k6 => k_is)
    (case a7 => k_is)
    (case l7 => k_is)
    (case c7 => k_is)
    (case k7 => k_is)
    (case a8 => k_is)
    (case l8 => k_is)
    (case c8 => k_is)
    (case k8 => k_is)
    (case a9 => k_is)
    (case l9 => k_is)
    (case c9 => k_is)
    (case k9 => k_is)
    (case a10 => k_is)
    (case l10 => k_is)
    (case c10 => k_is)
    (case k10 => k_is)
    (case a11 => k_is)
    (case l11 => k_is)
    (case c11 => k_is)
    (case k11 => k_is)
    (case a12 => k_is)
    (case l12 => k_is)
    (case c12 => k_is)
    (case k12 => k_is)
    (case a13 => k_is)
    (case l13 => k_is)
    (case c13 => k_is)
    (case k13 => k_is)
    (case a14 => k_is)
    (case l14 => k_is)
    (case c14 => k_is)
    (case k14 => k_is)
    (case a15 => k_is)
    (case l15 => k_is)
    (case c15 => k_is)
    (case k15 => k_is)
    (case a16 => k_is)
    (case l16 => k_is)
    (case c16 => k_is)
    (case k16 => k_is)
    (case a17 => k_is)
    (case l17 => k_is)
    (case c17 => k_is)
    (case k17 => k_is)
    (case a18 => k_is)
    (case l18 => k_is)
    (case c18 => k_is)
    (case k18 => k_is)
    (case a19 => k_is)
    (case l19 => k_is)
    (case c19 => k_is)
    (case k19 => k_is)
    (case a20 => k_is)
    (case l20 => k_is)
    (case c20 => k_is)
    (case k20 => k_is)
    (case a21 => k_is)
    (case l21 => k_is)
    (case c21 => k_is)
    (case k21 => k_is)
    (case a22 => k_is)
    (case l22 => k_is)
    (case c22 => k_is)
    (case k22 => k_is)
    (case a23 => k_is)
    (case l23 => k_is)
    (case c23 => k_is)
    (case k23 => k_is)
    (case a24 => k_is)
    (case l24 => k_is)
    (case c24 => k_is)
    (case k24 => k_is)
    (case a25 => k_is)
    (case l25 => k_is)
    (case c25 => k_is)
    (case k25 => k_is)
    (case a26 => k_is)
    (case l26 => k_is)
    (case c26 => k_is)
    (case k26 => k_is)
    (case a27 => k_is)
    (case l27 => k_is)
    (case c27 => k_is)
    (case k27 => k_is)
    (case a28 => k_is)
    (case l28 => k_is)
    (case c28 => k_is)
    (case k28 => k_is)
    (case a29 => k_is)
    (case l29 => k_is)
    (case c29 => k_is)
    (case k29 => k_is)
    (case a30 => k_is)
    (case l30 => k_is)
    (case c30 => k_is)
    (case k30 => k_is)
    (case gN => k_is)
    (case gS => k_is)
    (case gF => k_is)
    (case z_isinstance => k_is)
    (case z_int => k_is)
    (case z_bool => k_is)
    (case z_list => k_is)
    (case z_tuple => k_is)
    (case z_len => k_is)
    (case z_all => k_is)
    (case z_max => k_is)
    (case z_min => k_is)
    (case z_range => k_is)
    (case z_repr => k_is)
    (case z_zip => k_is)
