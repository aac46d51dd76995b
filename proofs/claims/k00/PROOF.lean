import PyProof.Rows.All
import PySem.Challenge.RW_tallgrass_k00_meadow_names
import HandS.ForMost
import HandS.DictTup
import HandS.Exc
import HandS.TryOnly
import HandS.TryMany
import HandS.ExcOwn
import KE.KDictKeyed
import HandS.DictComp
import HandS.Conv
import HandS.RaiseMore
import HandS.NoneIn
import HandS.Defaults
import HandS.MakeKwOnly
import HandS.IsInst
import HandS.StrMore
import HandS.Text
import HandS.SortRule
import HandS.Style
import HandS.TupAny
import HandS.ExcInit
import HandS.ExcField
import HandS.ExcIs
import HandS.Sort
import HandS.Keys
import HandS.Deep
import HandS.ClsMeth
import KE.SortData
import HandS.HeadHook1
import HandS.HeadHook2
import HandS.Head0
import HandS.Head1
import HandS.Head2
import HandS.HeadEnd
import KE.KStateDown
set_option Elab.async false
set_option linter.all false
section
set_option maxRecDepth 100000
set_option maxHeartbeats 1000000
namespace DL
open PySem PySem.Spec L2

/-! ## values as trees -/
inductive D where
  | non | bl (b : Bool) | int (i : Int) | str (x : Str) | ty (n : String) | ref (a : Addr)
  | tup (l : List D) | lst (l : List D)
  | dk (l : List (Key × D)) | dt (l : List (List Key × D))
  | ins (C : Addr) (fs : List (Str × D))
  | exc (a d : Addr) (fs : List (Str × D))
  | ktup (ks : List Key)
  | fz (l : List (Key × D)) | fzt (l : List (List Key × D))
  | nd (P : Program) (w : World) (l : List (NestedKey × D))
  | rlst (l : List D)

mutual
/-- v stands for a key that may be a tuple of tuples -/
def KeyR (K : PySem.W.Frag) (M : Addr → Prop) (H : Hp) : NestedKey → V → Prop
  | .none, v => v = .non
  | .num i, v => v = .int i
  | .text x, v => v = .str x
  | .tup l, v => ∃ a vs, v = .ref a ∧ ((¬ M a ∧ H a = some (.tup vs)) ∨ ∀ G, SqT K G a vs) ∧ KeyRs K M H l vs
def KeyRs (K : PySem.W.Frag) (M : Addr → Prop) (H : Hp) : List NestedKey → List V → Prop
  | [], vs => vs = []
  | k :: ks, vs => ∃ v r, vs = v :: r ∧ KeyR K M H k v ∧ KeyRs K M H ks r
end
/-- the object at a is o -/
def pinO (a : Addr) (o : Obj) : Heap → Prop := fun h => h.get? a = some o ∧ (a == sysModules) = false
/-- o is a dict with such entries, its keys tuples -/
def NdB (P : Program) (w : World) (o : Obj) (xs : List (NestedKey × Addr × Value)) : Prop := o.ExactDict ∧ (∃ es ep, o.data = .dict es ep ∧ es.toList = xs.map (entryOfKey (nestedKind P w))) ∧ (xs.map (·.1)).Nodup
def NdO (P : Program) (w : World) (H : Hp) (a : Addr) (xs : List (NestedKey × Addr × Value)) : Prop := ∃ o, H a = some (.ext (pinO a o)) ∧ NdB P w o xs
mutual
/-- v stands for the tree d, at places outside of M (those that may still change) -/
def Rep (K : PySem.W.Frag) (M : Addr → Prop) (H : Hp) : D → V → Prop
  | .non, v => v = .non
  | .bl b, v => v = .bl b
  | .int i, v => v = .int i
  | .str x, v => v = .str x
  | .ty n, v => v = .ty n
  | .ref a, v => v = .ref a
  | .tup l, v => ∃ a vs, v = .ref a ∧ ((¬ M a ∧ H a = some (.tup vs)) ∨ ∀ G, SqT K G a vs) ∧ Reps K M H l vs
  | .lst l, v => ∃ a vs, v = .ref a ∧ (¬ M a ∧ H a = some (.lst vs)) ∧ Reps K M H l vs
  | .dk l, v => ∃ a vs, v = .ref a ∧ ¬ M a ∧ Rd H a (.dK vs) ∧ RepK K M H l vs
  | .dt l, v => ∃ a vs, v = .ref a ∧ ¬ M a ∧ Rd H a (.dT vs) ∧ RepT K M H l vs
  | .ins C l, v => ∃ a dx vs, v = .ref a ∧ ¬ M a ∧ H a = some (.ins C dx vs) ∧ RepF K M H l vs
  | .exc a d l, v => ∃ vs, v = .ref a ∧ ¬ M d ∧ H d = some (.xd vs) ∧ RepF K M H l vs
  | .ktup ks, v => ∃ a, v = .ref a ∧ ¬ M a ∧ H a = some (.tup (ks.map kV))
  | .fz l, v => ∃ a o vs, v = .ref a ∧ ¬ M a ∧ H a = some (.frz o (.dK vs)) ∧ RepK K M H l vs
  | .fzt l, v => ∃ a o vs, v = .ref a ∧ ¬ M a ∧ H a = some (.frz o (.dT vs)) ∧ RepT K M H l vs
  | .nd P w l, v => ∃ a xs, v = .ref a ∧ ¬ M a ∧ NdO P w H a xs ∧ RepN K M H l xs
  | .rlst l, v => ∃ a vs, v = .ref a ∧ ((¬ M a ∧ ∃ o, H a = some (.frz o (.lst vs))) ∨ ∀ G, SqL K G a vs) ∧ Reps K M H l vs
def Reps (K : PySem.W.Frag) (M : Addr → Prop) (H : Hp) : List D → List V → Prop
  | [], vs => vs = []
  | d :: ds, vs => ∃ v r, vs = v :: r ∧ Rep K M H d v ∧ Reps K M H ds r
def RepK (K : PySem.W.Frag) (M : Addr → Prop) (H : Hp) : List (Key × D) → List (Key × V) → Prop
  | [], vs => vs = []
  | (k, d) :: ds, vs => ∃ v r, vs = (k, v) :: r ∧ Rep K M H d v ∧ RepK K M H ds r
def RepT (K : PySem.W.Frag) (M : Addr → Prop) (H : Hp) : List (List Key × D) → List (List Key × V) → Prop
  | [], vs => vs = []
  | (k, d) :: ds, vs => ∃ v r, vs = (k, v) :: r ∧ Rep K M H d v ∧ RepT K M H ds r
def RepN (K : PySem.W.Frag) (M : Addr → Prop) (H : Hp) : List (NestedKey × D) → List (NestedKey × Addr × Value) → Prop
  | [], xs => xs = []
  | (k, d) :: ds, xs => ∃ q v u r, xs = (k, q, u) :: r ∧ KeyR K M H k (.ref q) ∧ k.depth ≤ 8 ∧ RelV v u ∧ Rep K M H d v ∧ RepN K M H ds r
def RepF (K : PySem.W.Frag) (M : Addr → Prop) (H : Hp) : List (Str × D) → List (Str × V) → Prop
  | [], vs => vs = []
  | (k, d) :: ds, vs => ∃ v r, vs = (k, v) :: r ∧ Rep K M H d v ∧ RepF K M H ds r
end

/-- what lies outside of M stays -/
def Kp (M : Addr → Prop) (H H' : Hp) : Prop := ∀ b o, ¬ M b → H b = some o → H' b = some o
theorem Kp.refl {M : Addr → Prop} {H : Hp} : Kp M H H := fun _ _ _ e => e
theorem Kp.trans {M : Addr → Prop} {H H1 H2 : Hp} (a : Kp M H H1) (b : Kp M H1 H2) : Kp M H H2 := fun c o n e => b c o n (a c o n e)
theorem Kp.rd {M : Addr → Prop} {H H1 : Hp} {a : Addr} {u : HO} (k : Kp M H H1) (n : ¬ M a) (r : Rd H a u) : Rd H1 a u := by
  rcases r with r | ⟨o, r⟩
  · exact .inl (k _ _ n r)
  · exact .inr ⟨o, k _ _ n r⟩

section
variable {K : PySem.W.Frag} {M M' : Addr → Prop} {H H' : Hp}
/-- M' is another M; the places that a tree uses stay outside -/
structure Mv (M M' : Addr → Prop) (H H' : Hp) : Prop where
  out : ∀ b o, ¬ M b → H b = some o → ¬ M' b
  kp : Kp M H H'
theorem Mv.rd {a : Addr} {u : HO} (k : Mv M M' H H') (n : ¬ M a) (r : Rd H a u) : ¬ M' a ∧ Rd H' a u := by
  refine ⟨?_, k.kp.rd n r⟩
  rcases r with r | ⟨o, r⟩
  · exact k.out _ _ n r
  · exact k.out _ _ n r
mutual
theorem KeyR.mv (k : Mv M M' H H') : ∀ {d : NestedKey} {v : V}, KeyR K M H d v → KeyR K M' H' d v
  | .none, _, h => h
  | .num _, _, h => h
  | .text _, _, h => h
  | .tup l, v, ⟨a, vs, e, r, q⟩ => ⟨a, vs, e, r.imp (fun r => ⟨k.out _ _ r.1 r.2, k.kp _ _ r.1 r.2⟩) id, KeyRs.mv k q⟩
theorem KeyRs.mv (k : Mv M M' H H') : ∀ {d : List NestedKey} {v : List V}, KeyRs K M H d v → KeyRs K M' H' d v
  | [], _, h => h
  | d :: ds, vs, ⟨v, r, e, h, t⟩ => ⟨v, r, e, KeyR.mv k h, KeyRs.mv k t⟩
end
theorem NdO.eq {P : Program} {w : World} {a : Addr} {xs : List (NestedKey × Addr × Value)} (h : NdO P w H a xs) (e : ∀ o, H a = some o → H' a = some o) : NdO P w H' a xs :=
  let ⟨o, h1, h2⟩ := h; ⟨o, e _ h1, h2⟩
mutual
theorem Rep.mv (k : Mv M M' H H') : ∀ {d : D} {v : V}, Rep K M H d v → Rep K M' H' d v
  | .non, _, h => h
  | .bl _, _, h => h
  | .int _, _, h => h
  | .str _, _, h => h
  | .ty _, _, h => h
  | .ref _, _, h => h
  | .tup l, v, ⟨a, vs, e, r, q⟩ => ⟨a, vs, e, r.imp (fun r => ⟨k.out _ _ r.1 r.2, k.kp _ _ r.1 r.2⟩) id, Reps.mv k q⟩
  | .lst l, v, ⟨a, vs, e, r, q⟩ => ⟨a, vs, e, ⟨k.out _ _ r.1 r.2, k.kp _ _ r.1 r.2⟩, Reps.mv k q⟩
  | .dk l, v, ⟨a, vs, e, n, r, q⟩ => ⟨a, vs, e, (k.rd n r).1, (k.rd n r).2, RepK.mv k q⟩
  | .dt l, v, ⟨a, vs, e, n, r, q⟩ => ⟨a, vs, e, (k.rd n r).1, (k.rd n r).2, RepT.mv k q⟩
  | .ins C l, v, ⟨a, dx, vs, e, n, r, q⟩ => ⟨a, dx, vs, e, k.out _ _ n r, k.kp _ _ n r, RepF.mv k q⟩
  | .exc a d l, v, ⟨vs, e, n, r, q⟩ => ⟨vs, e, k.out _ _ n r, k.kp _ _ n r, RepF.mv k q⟩
  | .ktup ks, v, ⟨a, e, n, r⟩ => ⟨a, e, k.out _ _ n r, k.kp _ _ n r⟩
  | .fz l, v, ⟨a, o, vs, e, n, r, q⟩ => ⟨a, o, vs, e, k.out _ _ n r, k.kp _ _ n r, RepK.mv k q⟩
  | .fzt l, v, ⟨a, o, vs, e, n, r, q⟩ => ⟨a, o, vs, e, k.out _ _ n r, k.kp _ _ n r, RepT.mv k q⟩
  | .nd P w l, v, ⟨a, xs, e, n, r, q⟩ => ⟨a, xs, e, (let ⟨_, h, _⟩ := r; k.out _ _ n h), r.eq fun o h => k.kp _ _ n h, RepN.mv k q⟩
  | .rlst l, v, ⟨a, vs, e, r, q⟩ => ⟨a, vs, e, r.imp (fun ⟨n, o, h⟩ => ⟨k.out _ _ n h, o, k.kp _ _ n h⟩) id, Reps.mv k q⟩
theorem Reps.mv (k : Mv M M' H H') : ∀ {d : List D} {v : List V}, Reps K M H d v → Reps K M' H' d v
  | [], _, h => h
  | d :: ds, vs, ⟨v, r, e, h, t⟩ => ⟨v, r, e, Rep.mv k h, Reps.mv k t⟩
theorem RepK.mv (k : Mv M M' H H') : ∀ {d : List (Key × D)} {v : List (Key × V)}, RepK K M H d v → RepK K M' H' d v
  | [], _, h => h
  | (_, d) :: ds, vs, ⟨v, r, e, h, t⟩ => ⟨v, r, e, Rep.mv k h, RepK.mv k t⟩
theorem RepT.mv (k : Mv M M' H H') : ∀ {d : List (List Key × D)} {v : List (List Key × V)}, RepT K M H d v → RepT K M' H' d v
  | [], _, h => h
  | (_, d) :: ds, vs, ⟨v, r, e, h, t⟩ => ⟨v, r, e, Rep.mv k h, RepT.mv k t⟩
theorem RepN.mv (k : Mv M M' H H') : ∀ {d : List (NestedKey × D)} {v : List (NestedKey × Addr × Value)}, RepN K M H d v → RepN K M' H' d v
  | [], _, h => h
  | (_, d) :: ds, xs, ⟨q, v, u, r, e, h1, h2, h3, h, t⟩ => ⟨q, v, u, r, e, h1.mv k, h2, h3, Rep.mv k h, RepN.mv k t⟩
theorem RepF.mv (k : Mv M M' H H') : ∀ {d : List (Str × D)} {v : List (Str × V)}, RepF K M H d v → RepF K M' H' d v
  | [], _, h => h
  | (_, d) :: ds, vs, ⟨v, r, e, h, t⟩ => ⟨v, r, e, Rep.mv k h, RepF.mv k t⟩
end
theorem Kp.mv (k : Kp M H H') : Mv M M H H' := ⟨fun _ _ n _ => n, k⟩

theorem Reps.length : ∀ {ds : List D} {vs : List V}, Reps K M H ds vs → vs.length = ds.length
  | [], _, h => by
    have e : _ = ([] : List V) := h
    rw [e]
    rfl
  | d :: ds, _, ⟨v, r, e, _, t⟩ => by rw [e, List.length_cons, List.length_cons, Reps.length t]
theorem Reps.get : ∀ {ds : List D} {vs : List V} {i : Nat} {d : D}, Reps K M H ds vs → ds[i]? = some d → ∃ v, vs[i]? = some v ∧ Rep K M H d v
  | [], _, i, d, _, e => by simp at e
  | d :: ds, _, 0, d', ⟨v, r, e, h, t⟩, q => by
    have : d = d' := by simpa using q
    subst this
    exact ⟨v, by rw [e]; rfl, h⟩
  | d :: ds, _, i + 1, d', ⟨v, r, e, h, t⟩, q => by
    obtain ⟨u, h1, h2⟩ := Reps.get (i := i) t (by simpa using q)
    exact ⟨u, by rw [e]; simpa using h1, h2⟩
theorem Reps.cons {d : D} {v : V} {ds : List D} {vs : List V} (h : Rep K M H d v) (t : Reps K M H ds vs) : Reps K M H (d :: ds) (v :: vs) := ⟨v, vs, rfl, h, t⟩
theorem Reps.nil : Reps K M H [] [] := rfl
theorem Reps.append : ∀ {ds es : List D} {vs us : List V}, Reps K M H ds vs → Reps K M H es us → Reps K M H (ds ++ es) (vs ++ us)
  | [], _, _, _, h, q => by
    have e : _ = ([] : List V) := h
    subst e
    exact q
  | d :: ds, _, _, _, ⟨v, r, e, h, t⟩, q => by
    subst e
    exact ⟨v, r ++ _, rfl, h, Reps.append t q⟩
theorem Reps.set : ∀ {ds : List D} {vs : List V} {d : D} {v : V} (i : Nat), Reps K M H ds vs → Rep K M H d v → Reps K M H (ds.set i d) (vs.set i v)
  | [], _, _, _, _, h, _ => by
    have e : _ = ([] : List V) := h
    subst e
    exact rfl
  | d :: ds, _, _, _, 0, ⟨v, r, e, h, t⟩, q => by
    subst e
    exact ⟨_, r, rfl, q, t⟩
  | d :: ds, _, _, _, i + 1, ⟨v, r, e, h, t⟩, q => by
    subst e
    exact ⟨v, _, rfl, h, Reps.set i t q⟩
theorem Reps.take : ∀ {ds : List D} {vs : List V} (i : Nat), Reps K M H ds vs → Reps K M H (ds.take i) (vs.take i)
  | _, _, 0, _ => by simp; exact rfl
  | [], _, i + 1, h => by
    have e : _ = ([] : List V) := h
    subst e
    exact rfl
  | d :: ds, _, i + 1, ⟨v, r, e, h, t⟩ => by
    subst e
    exact ⟨v, _, rfl, h, Reps.take i t⟩
theorem Reps.drop : ∀ {ds : List D} {vs : List V} (i : Nat), Reps K M H ds vs → Reps K M H (ds.drop i) (vs.drop i)
  | _, _, 0, h => by simpa using h
  | [], _, i + 1, h => by
    have e : _ = ([] : List V) := h
    subst e
    exact rfl
  | d :: ds, _, i + 1, ⟨v, r, e, h, t⟩ => by
    subst e
    exact Reps.drop i t
theorem RepF.lookup : ∀ {ds : List (Str × D)} {vs : List (Str × V)} {f : Str} {d : D}, RepF K M H ds vs → ds.lookup f = some d → ∃ v, vs.lookup f = some v ∧ Rep K M H d v
  | [], _, f, d, _, e => by simp at e
  | (g, d) :: ds, _, f, d', ⟨v, r, e, h, t⟩, q => by
    subst e
    rw [List.lookup_cons] at q ⊢
    cases c : (f == g) with
    | true =>
      rw [c] at q
      have : d = d' := Option.some.inj q
      subst this
      exact ⟨v, rfl, h⟩
    | false =>
      rw [c] at q
      exact RepF.lookup t q
theorem RepF.lookup_none : ∀ {ds : List (Str × D)} {vs : List (Str × V)} {f : Str}, RepF K M H ds vs → ds.lookup f = none → vs.lookup f = none
  | [], _, f, h, _ => by
    have e : _ = ([] : List (Str × V)) := h
    subst e
    rfl
  | (g, d) :: ds, _, f, ⟨v, r, e, h, t⟩, q => by
    subst e
    rw [List.lookup_cons] at q ⊢
    cases c : (f == g) with
    | true => rw [c] at q; cases q
    | false => rw [c] at q; exact RepF.lookup_none t q
end

/-- an object that is no tuple -/
def Ob (x : Option HO) : Prop := ∃ o : { o : HO // ∀ vs, o ≠ .tup vs }, x = some o.1
theorem Ob.mk {x : Option HO} {o : HO} (e : x = some o) (h : ∀ vs, o ≠ HO.tup vs) : Ob x := ⟨⟨o, h⟩, e⟩
theorem Ob.upd {H : Hp} {p : Addr} {o : HO} (h : ∀ vs, o ≠ HO.tup vs) : Ob (upd H p o p) := ⟨⟨o, h⟩, upd_same⟩
theorem Ob.nt {x : Option HO} {vs : List V} (h : Ob x) : x ≠ some (.tup vs) := fun e => by
  obtain ⟨o, q⟩ := h
  rw [e] at q
  exact o.2 vs (Option.some.inj q).symm
/-! ## the state of a def -/
/-- what a slot holds: not known; a tree; the place a, which this def may change, with the tree d -/
inductive Sl where
  | un | ok (d : D) | own (a : Addr) (d : D)

/-- an object that may be changed, at a -/
def OOk (K : PySem.W.Frag) (M : Addr → Prop) (H : Hp) (a : Addr) : D → Prop
  | .lst l => ∃ vs, H a = some (.lst vs) ∧ Reps K M H l vs
  | .dk l => ∃ vs, H a = some (.dK vs) ∧ RepK K M H l vs
  | .dt l => ∃ vs, H a = some (.dT vs) ∧ RepT K M H l vs
  | .nd P w l => ∃ xs, NdO P w H a xs ∧ RepN K M H l xs
  | .ins C l => ∃ dx vs, H a = some (.ins C dx vs) ∧ RepF K M H l vs
  | _ => False
def SlOk (K : PySem.W.Frag) (M : Addr → Prop) (H : Hp) (ov : Option (Option V)) : Sl → Prop
  | .un => True
  | .ok d => ∃ v, ov = some (some v) ∧ Rep K M H d v
  | .own a d => ov = some (some (.ref a)) ∧ M a ∧ OOk K M H a d

/-- the def's entry: what nobody but its owner may change, the heap, what was handed in to be changed -/
structure Entry where
  M0 : Addr → Prop
  H0 : Hp
  S0 : Addr → Prop

structure AtM (K : PySem.W.Frag) (E : Entry) (M : Addr → Prop) (Γ : List Sl) (σ : St) (H : Hp) : Prop where
  len : σ.length = Γ.length
  get : ∀ (i : Nat) (s : Sl), Γ[i]? = some s → SlOk K M H (σ[i]?) s
  uniq : ∀ (i j : Nat) (a : Addr) (d e : D), Γ[i]? = some (.own a d) → Γ[j]? = some (.own a e) → i = j
  m0 : ∀ b, E.M0 b → M b
  new : ∀ b, M b → E.M0 b ∨ E.H0 b = none
  kept : ∀ b o, ¬ E.S0 b → E.H0 b = some o → H b = some o
  owns : ∀ (i : Nat) (a : Addr) (d : D), Γ[i]? = some (.own a d) → E.S0 a ∨ E.H0 a = none
  dom : ∀ b, M b → Ob (H b)
  s0 : ∀ b, E.S0 b → E.M0 b
  d0 : ∀ b, E.M0 b → Ob (E.H0 b)

section
variable {K : PySem.W.Frag} {E : Entry} {M M' : Addr → Prop} {Γ : List Sl} {σ : St} {H H' : Hp}
theorem OOk.mono {a : Addr} {d : D} (k : Mv M M' H H') (e : H' a = H a) (h : OOk K M H a d) : OOk K M' H' a d := by
  cases d with
  | lst l => obtain ⟨vs, h1, h2⟩ := h; exact ⟨vs, by rw [e]; exact h1, h2.mv k⟩
  | dk l => obtain ⟨vs, h1, h2⟩ := h; exact ⟨vs, by rw [e]; exact h1, h2.mv k⟩
  | dt l => obtain ⟨vs, h1, h2⟩ := h; exact ⟨vs, by rw [e]; exact h1, h2.mv k⟩
  | nd P w l => obtain ⟨xs, h1, h2⟩ := h; exact ⟨xs, h1.eq fun o q => by rw [e]; exact q, h2.mv k⟩
  | ins C l => obtain ⟨dx, vs, h1, h2⟩ := h; exact ⟨dx, vs, by rw [e]; exact h1, h2.mv k⟩
  | _ => exact h.elim
theorem AtM.fresh (A : AtM K E M Γ σ H) {p : Addr} (h : H p = none) : ¬ M p := fun m => by
  obtain ⟨o, e⟩ := A.dom p m
  rw [h] at e; cases e
theorem AtM.fresh0 (A : AtM K E M Γ σ H) {p : Addr} (h : H p = none) : E.H0 p = none := by
  cases q : E.H0 p with
  | none => rfl
  | some o =>
    have n : ¬ E.S0 p := fun z => A.fresh h (A.m0 p (A.s0 p z))
    have := A.kept p o n q
    rw [h] at this; cases this
/-- the heap grows by new objects -/
theorem AtM.grow (A : AtM K E M Γ σ H) (k : ∀ b o, H b = some o → H' b = some o) : AtM K E M Γ σ H' := by
  have kp : Kp M H H' := fun b o _ e => k b o e
  refine ⟨A.len, fun i s hs => ?_, A.uniq, A.m0, A.new, fun b o n e => k b o (A.kept b o n e), A.owns, fun b m => ?_, A.s0, A.d0⟩
  · have q := A.get i s hs
    cases s with
    | un => trivial
    | ok d => obtain ⟨v, e, r⟩ := q; exact ⟨v, e, r.mv kp.mv⟩
    | own a d =>
      obtain ⟨e, m, o⟩ := q
      refine ⟨e, m, o.mono kp.mv ?_⟩
      obtain ⟨u, hu⟩ := A.dom a m
      rw [hu, k a u hu]
  · obtain ⟨o, e⟩ := A.dom b m
    exact ⟨o, k b o e⟩
theorem grow_upd {p : Addr} {o : HO} (h : H p = none) : ∀ b u, H b = some u → upd H p o b = some u := fun b u e => by
  rw [upd_ne (ne_of_none e h)]; exact e
theorem kp_upd {p : Addr} {o : HO} (h : H p = none) : Kp M H (upd H p o) := fun b u _ e => grow_upd h b u e
theorem get_set {Γ : List Sl} {i j : Nat} {s t : Sl} (h : (Γ.set i s)[j]? = some t) : (i = j ∧ t = s) ∨ (i ≠ j ∧ Γ[j]? = some t) := by
  rw [List.getElem?_set] at h
  by_cases c : i = j
  · rw [if_pos c] at h
    by_cases l : i < Γ.length
    · rw [if_pos l] at h
      exact .inl ⟨c, (Option.some.inj h).symm⟩
    · rw [if_neg l] at h; cases h
  · rw [if_neg c] at h
    exact .inr ⟨c, h⟩
/-- a slot is stored -/
theorem AtM.setOk (A : AtM K E M Γ σ H) {i : Nat} {d : D} {v : V} (hi : i < Γ.length) (r : Rep K M H d v) : AtM K E M (Γ.set i (.ok d)) (σ.set i (some v)) H := by
  have own_of : ∀ (j : Nat) (a : Addr) (e : D), (Γ.set i (.ok d))[j]? = some (.own a e) → Γ[j]? = some (.own a e) := fun j a e h => by
    rcases get_set h with ⟨_, z⟩ | ⟨_, z⟩
    · cases z
    · exact z
  refine ⟨by rw [List.length_set, List.length_set]; exact A.len, fun j s hs => ?_, fun j k a x y h1 h2 => A.uniq j k a x y (own_of _ _ _ h1) (own_of _ _ _ h2), A.m0, A.new, A.kept, fun j a x h => A.owns j a x (own_of _ _ _ h), A.dom, A.s0, A.d0⟩
  rw [List.getElem?_set] at hs ⊢
  by_cases c : i = j
  · subst c
    rw [if_pos rfl, if_pos hi] at hs
    rw [if_pos rfl, if_pos (by rw [A.len]; exact hi)]
    cases hs
    exact ⟨v, rfl, r⟩
  · rw [if_neg c] at hs ⊢
    exact A.get j s hs

/-- M and the place p -/
def Mp (M : Addr → Prop) (p : Addr) : Addr → Prop := fun b => M b ∨ b = p
theorem mv_new {p : Addr} (hp : H p = none) (k : ∀ b o, H b = some o → H' b = some o) : Mv M (Mp M p) H H' :=
  ⟨fun b o n e z => z.elim n (fun q => by
    rw [q, hp] at e
    cases e), fun b o _ e => k b o e⟩
/-- a new object at p, not yet in a slot -/
theorem AtM.alloc (A : AtM K E M Γ σ H) {p : Addr} (hp : H p = none) (k : ∀ b o, H b = some o → H' b = some o) (hd : Ob (H' p)) : AtM K E (Mp M p) Γ σ H' := by
  have mv : Mv M (Mp M p) H H' := mv_new hp k
  refine ⟨A.len, fun i s hs => ?_, A.uniq, fun b m => .inl (A.m0 b m), fun b m => ?_, fun b o n e => k b o (A.kept b o n e), A.owns, fun b m => ?_, A.s0, A.d0⟩
  · have q := A.get i s hs
    cases s with
    | un => trivial
    | ok d => obtain ⟨v, e, r⟩ := q; exact ⟨v, e, r.mv mv⟩
    | own a d =>
      obtain ⟨e, m, o⟩ := q
      refine ⟨e, .inl m, o.mono mv ?_⟩
      obtain ⟨u, hu⟩ := A.dom a m
      rw [hu, k a u hu]
  · rcases m with m | rfl
    · exact A.new b m
    · exact .inr (A.fresh0 hp)
  · rcases m with m | rfl
    · obtain ⟨o, e⟩ := A.dom b m
      exact ⟨o, k b o e⟩
    · exact hd
/-- it is let go: from now on it does not change -/
theorem mv_drop {p : Addr} : Mv (Mp M p) M H H := ⟨fun b o n _ z => n (.inl z), fun _ _ _ e => e⟩
theorem AtM.drop {p : Addr} (A : AtM K E (Mp M p) Γ σ H) (hm : ∀ b, E.M0 b → M b) (hn : ∀ (j : Nat) (e : D), Γ[j]? ≠ some (.own p e)) : AtM K E M Γ σ H := by
  refine ⟨A.len, fun i s hs => ?_, A.uniq, hm, fun b m => A.new b (.inl m), A.kept, A.owns, fun b m => A.dom b (.inl m), A.s0, A.d0⟩
  have q := A.get i s hs
  cases s with
  | un => trivial
  | ok d => obtain ⟨v, e, r⟩ := q; exact ⟨v, e, r.mv mv_drop⟩
  | own a d =>
    obtain ⟨e, m, o⟩ := q
    refine ⟨e, m.elim id (fun z => ?_), o.mono mv_drop rfl⟩
    subst z
    exact absurd hs (hn i d)
theorem OOk.rep {p : Addr} {d : D} (hm : ¬ M p) (o : OOk K (Mp M p) H p d) : Rep K M H d (.ref p) := by
  cases d with
  | lst l => obtain ⟨vs, h1, h2⟩ := o; exact ⟨p, vs, rfl, ⟨hm, h1⟩, h2.mv mv_drop⟩
  | dk l => obtain ⟨vs, h1, h2⟩ := o; exact ⟨p, vs, rfl, hm, .inl h1, h2.mv mv_drop⟩
  | dt l => obtain ⟨vs, h1, h2⟩ := o; exact ⟨p, vs, rfl, hm, .inl h1, h2.mv mv_drop⟩
  | nd P w l => obtain ⟨xs, h1, h2⟩ := o; exact ⟨p, xs, rfl, hm, h1, h2.mv mv_drop⟩
  | ins C l => obtain ⟨dx, vs, h1, h2⟩ := o; exact ⟨p, dx, vs, rfl, hm, h1, h2.mv mv_drop⟩
  | _ => exact o.elim
theorem OOk.there {p : Addr} {d : D} (o : OOk K M H p d) : Ob (H p) := by
  cases d with
  | lst l => obtain ⟨vs, h1, h2⟩ := o; exact .mk h1 fun _ z => nomatch z
  | dk l => obtain ⟨vs, h1, h2⟩ := o; exact .mk h1 fun _ z => nomatch z
  | dt l => obtain ⟨vs, h1, h2⟩ := o; exact .mk h1 fun _ z => nomatch z
  | nd P w l => obtain ⟨xs, ⟨o, h1, _⟩, h2⟩ := o; exact .mk h1 fun _ z => nomatch z
  | ins C l => obtain ⟨dx, vs, h1, h2⟩ := o; exact .mk h1 fun _ z => nomatch z
  | _ => exact o.elim
/-- slot i takes it -/
theorem AtM.setOwn (A : AtM K E M Γ σ H) {i : Nat} {d : D} {p : Addr} (hi : i < Γ.length) (hp : E.S0 p ∨ E.H0 p = none) (hm : M p) (hn : ∀ (j : Nat) (e : D), Γ[j]? = some (.own p e) → j = i) (o : OOk K M H p d) :
    AtM K E M (Γ.set i (.own p d)) (σ.set i (some (.ref p))) H := by
  have own_of : ∀ (j : Nat) (a : Addr) (e : D), (Γ.set i (.own p d))[j]? = some (.own a e) → (j = i ∧ a = p) ∨ (j ≠ i ∧ Γ[j]? = some (.own a e)) := fun j a e h => by
    rcases get_set h with ⟨c, z⟩ | ⟨c, z⟩
    · cases z; exact .inl ⟨c.symm, rfl⟩
    · exact .inr ⟨fun z => c z.symm, z⟩
  refine ⟨by rw [List.length_set, List.length_set]; exact A.len, fun j s hs => ?_, fun j k a x y h1 h2 => ?_, A.m0, A.new, A.kept, fun j a x h => ?_, A.dom, A.s0, A.d0⟩
  · rw [List.getElem?_set] at hs ⊢
    by_cases c : i = j
    · subst c
      rw [if_pos rfl, if_pos hi] at hs
      rw [if_pos rfl, if_pos (by rw [A.len]; exact hi)]
      cases hs
      exact ⟨rfl, hm, o⟩
    · rw [if_neg c] at hs ⊢
      exact A.get j s hs
  · rcases own_of _ _ _ h1 with ⟨e1, e2⟩ | ⟨n1, g1⟩
    · rcases own_of _ _ _ h2 with ⟨e3, _⟩ | ⟨n2, g2⟩
      · rw [e1, e3]
      · subst e2; exact absurd (hn _ _ g2) n2
    · rcases own_of _ _ _ h2 with ⟨_, e4⟩ | ⟨_, g2⟩
      · subst e4; exact absurd (hn _ _ g1) n1
      · exact A.uniq j k a x y g1 g2
  · rcases own_of _ _ _ h with ⟨_, e2⟩ | ⟨_, g⟩
    · subst e2; exact hp
    · exact A.owns j a x g
/-- the object at p, in slot i, is changed -/
theorem AtM.change (A : AtM K E M Γ σ H) {i : Nat} {d d' : D} {p : Addr} (hs : Γ[i]? = some (.own p d)) (k : ∀ b o, b ≠ p → H b = some o → H' b = some o) (o : OOk K M H' p d') :
    AtM K E M (Γ.set i (.own p d')) σ H' := by
  have hi : i < Γ.length := by
    by_cases c : i < Γ.length
    · exact c
    · rw [List.getElem?_eq_none (by omega)] at hs; cases hs
  have hm : M p := (A.get i _ hs).2.1
  have mv : Mv M M H H' := ⟨fun _ _ n _ => n, fun b u n e => k b u (fun z => n (z ▸ hm)) e⟩
  have ow := A.owns i p d hs
  have get2 : ∀ (j : Nat) (s : Sl), j ≠ i → Γ[j]? = some s → SlOk K M H' (σ[j]?) s := fun j s hj h => by
    have q := A.get j s h
    cases s with
    | un => trivial
    | ok x => obtain ⟨v, e, r⟩ := q; exact ⟨v, e, r.mv mv⟩
    | own a x =>
      obtain ⟨e, m, u⟩ := q
      have na : a ≠ p := fun z => by subst z; exact hj (A.uniq j i a x d h hs)
      refine ⟨e, m, u.mono mv ?_⟩
      obtain ⟨w, hw⟩ := A.dom a m
      rw [hw, k a w na hw]
  have own_of : ∀ (j : Nat) (a : Addr) (e : D), (Γ.set i (.own p d'))[j]? = some (.own a e) → (j = i ∧ a = p) ∨ (j ≠ i ∧ Γ[j]? = some (.own a e)) := fun j a e h => by
    rcases get_set h with ⟨c, z⟩ | ⟨c, z⟩
    · cases z; exact .inl ⟨c.symm, rfl⟩
    · exact .inr ⟨fun z => c z.symm, z⟩
  refine ⟨by rw [List.length_set]; exact A.len, fun j s h => ?_, fun j l a x y h1 h2 => ?_, A.m0, A.new, fun b u n e => ?_, fun j a x h => ?_, fun b m => ?_, A.s0, A.d0⟩
  · rw [List.getElem?_set] at h
    by_cases c : i = j
    · subst c
      rw [if_pos rfl, if_pos hi] at h
      cases h
      exact ⟨(A.get i _ hs).1, hm, o⟩
    · rw [if_neg c] at h
      exact get2 j s (fun z => c z.symm) h
  · rcases own_of _ _ _ h1 with ⟨e1, e2⟩ | ⟨n1, g1⟩
    · rcases own_of _ _ _ h2 with ⟨e3, _⟩ | ⟨n2, g2⟩
      · rw [e1, e3]
      · subst e2; exact absurd (A.uniq _ _ _ _ _ g2 hs) n2
    · rcases own_of _ _ _ h2 with ⟨_, e4⟩ | ⟨_, g2⟩
      · subst e4; exact absurd (A.uniq _ _ _ _ _ g1 hs) n1
      · exact A.uniq j l a x y g1 g2
  · by_cases c : b = p
    · subst c
      rcases ow with z | z
      · exact absurd z n
      · rw [z] at e; cases e
    · exact k b u c (A.kept b u n e)
  · rcases own_of _ _ _ h with ⟨_, e2⟩ | ⟨_, g⟩
    · subst e2; exact ow
    · exact A.owns j a x g
  · by_cases c : b = p
    · subst c; exact o.there
    · obtain ⟨u, hu⟩ := A.dom b m
      exact ⟨u, k b u c hu⟩
end

/-! ## a part of a def: its own entry -/
section
variable {K : PySem.W.Frag} {E : Entry} {M M' : Addr → Prop} {Γ Γ' : List Sl} {σ σ' : L2.St} {H H' : Hp}
def subE (M : Addr → Prop) (Γ : List Sl) (H : Hp) : Entry := ⟨M, H, fun b => ∃ (i : Nat) (d : D), Γ[i]? = some (.own b d)⟩
theorem AtM.down (A : AtM K E M Γ σ H) : AtM K (subE M Γ H) M Γ σ H :=
  ⟨A.len, A.get, A.uniq, fun _ m => m, fun _ m => .inl m, fun _ _ _ e => e, fun i a d h => .inl ⟨i, d, h⟩, A.dom, fun b ⟨i, d, h⟩ => (A.get i _ h).2.1, A.dom⟩
theorem AtM.up (A : AtM K E M Γ σ H) (B : AtM K (subE M Γ H) M' Γ' σ' H') : AtM K E M' Γ' σ' H' := by
  refine ⟨B.len, B.get, B.uniq, fun b m => B.m0 b (A.m0 b m), fun b m => ?_, fun b o n e => ?_, fun i a d h => ?_, B.dom, A.s0, A.d0⟩
  · rcases B.new b m with m | z
    · exact A.new b m
    · exact .inr (A.fresh0 z)
  · refine B.kept b o (fun z => ?_) (A.kept b o n e)
    obtain ⟨i, d, h⟩ := z
    rcases A.owns i b d h with q | q
    · exact n q
    · rw [q] at e; cases e
  · rcases B.owns i a d h with z | z
    · obtain ⟨j, x, hj⟩ := z
      exact A.owns j a x hj
    · exact .inr (A.fresh0 z)
/-- behind the part: what was outside of M stays -/
theorem AtM.kpDown (A : AtM K E M Γ σ H) (B : AtM K (subE M Γ H) M' Γ' σ' H') : Kp M H H' := fun b o n e =>
  B.kept b o (fun ⟨i, d, h⟩ => n (A.get i _ h).2.1) e
theorem AtM.mvDown (A : AtM K E M Γ σ H) (B : AtM K (subE M Γ H) M' Γ' σ' H') : Mv M M' H H' :=
  ⟨fun b o n e z => (B.new b z).elim n (fun q => by
    have q : H b = none := q
    rw [q] at e
    cases e), A.kpDown B⟩
end

/-- the places that the slots own -/
def ownL (Γ : List Sl) : List Addr := Γ.filterMap fun s => match s with
  | .own a _ => some a
  | _ => none
theorem mem_ownL {Γ : List Sl} {b : Addr} : (∃ (i : Nat) (d : D), Γ[i]? = some (.own b d)) ↔ b ∈ ownL Γ := by
  constructor
  · rintro ⟨i, d, h⟩
    exact List.mem_filterMap.mpr ⟨_, List.mem_of_getElem? h, rfl⟩
  · intro h
    obtain ⟨s, hs, e⟩ := List.mem_filterMap.mp h
    obtain ⟨i, hi⟩ := List.getElem?_of_mem hs
    cases s with
    | own a d => cases e; exact ⟨i, d, hi⟩
    | un => cases e
    | ok d => cases e
/-! ## judgements -/
/-- the weakest reading -/
def we (X : Cx) (e : Expr) : TE := fun σ H Q => ∃ t, PE X e t ∧ t σ H Q
theorem pe_we {X : Cx} {e : Expr} : PE X e (we X e) := ⟨fun pins s σ H Q I ⟨_, h, q⟩ => h.run pins s σ H Q I q⟩
def wt (X : Cx) (e : Expr) : TT := fun σ H Q => ∃ t, PT X e t ∧ t σ H Q
theorem pt_wt {X : Cx} {e : Expr} : PT X e (wt X e) := ⟨fun pins s σ H Q I ⟨_, h, q⟩ => h.run pins s σ H Q I q⟩
def ww (X : Cx) (e : Expr) : TT := fun σ H Q => ∃ t, PW X e t ∧ t σ H Q
theorem pw_ww {X : Cx} {e : Expr} : PW X e (ww X e) := ⟨fun wh pins s σ H Q I ⟨_, h, q⟩ => h.run wh pins s σ H Q I q⟩
def wa (X : Cx) (es : List Expr) : TA := fun σ H Q => ∃ t, PA X es t ∧ t σ H Q
theorem pa_wa {X : Cx} {es : List Expr} : PA X es (wa X es) := ⟨fun po pins s σ H Q I ⟨_, h, q⟩ => h.run po pins s σ H Q I q⟩
def ws (X : Cx) (st : Stmt) : TS := fun D σ H => ∃ t, PS X st t ∧ t D σ H
theorem ps_ws {X : Cx} {st : Stmt} : PS X st (ws X st) := ⟨fun pins s σ H D I ⟨_, h, q⟩ => h.run pins s σ H D I q⟩
def wss (X : Cx) (st : List Stmt) : TS := fun D σ H => ∃ t, PSs X st t ∧ t D σ H
theorem pss_wss {X : Cx} {st : List Stmt} : PSs X st (wss X st) := ⟨fun pins s σ H D I ⟨_, h, q⟩ => h.run pins s σ H D I q⟩

/-- an exception that leaves: the class at C, its fields -/
abbrev Ex := Addr → List (Str × D) → List Sl → Prop
/-- how it is handed on -/
def ExD (X : Cx) (E : Entry) (W : WX) (Ψ : Ex) (σ : L2.St) : Prop := ∀ (C d : Addr) (fs : List (Str × D)) (vs : List (Str × V)) (Γ : List Sl) (M : Addr → Prop) (H : Hp), Ψ C fs Γ → AtM X.K E M Γ σ H → H d = some (.xd vs) → RepF X.K M H fs vs → ¬ M d → E.H0 d = none → W (.ref C) (some d) σ H

/-- an expression: from the slots Γ it gives a tree, or lets an exception out -/
structure EV (X : Cx) (W : WX) (Γ : List Sl) (e : Expr) (Φ : D → List Sl → Prop) (Ψ : Ex) : Prop where
  run : ∀ (E : Entry) (M : Addr → Prop) (σ : L2.St) (H : Hp) (Q : VK), AtM X.K E M Γ σ H → ExD X E W Ψ σ → (∀ d Γ' v H', Φ d Γ' → AtM X.K E M Γ' σ H' → Kp M H H' → Rep X.K M H' d v → Q v H') → we X e σ H Q
/-- .. a new object that this def may still change -/
structure EF (X : Cx) (W : WX) (Γ : List Sl) (e : Expr) (Φ : D → List Sl → Prop) (Ψ : Ex) : Prop where
  run : ∀ (E : Entry) (M : Addr → Prop) (σ : L2.St) (H : Hp) (Q : VK), AtM X.K E M Γ σ H → ExD X E W Ψ σ → (∀ d Γ' p H', Φ d Γ' → ¬ M p → AtM X.K E (Mp M p) Γ' σ H' → Kp M H H' → OOk X.K (Mp M p) H' p d → (∀ (j : Nat) (x : D), Γ'[j]? ≠ some (.own p x)) → Q (.ref p) H') → we X e σ H Q
/-- several -/
structure EA (X : Cx) (W : WX) (Γ : List Sl) (es : List Expr) (Φ : List D → List Sl → Prop) (Ψ : Ex) : Prop where
  run : ∀ (E : Entry) (M : Addr → Prop) (σ : L2.St) (H : Hp) (Q : List V → Hp → Prop), AtM X.K E M Γ σ H → ExD X E W Ψ σ → (∀ ds Γ' vs H', Φ ds Γ' → AtM X.K E M Γ' σ H' → Kp M H H' → Reps X.K M H' ds vs → Q vs H') → wa X es σ H Q
/-- a test -/
structure ET (X : Cx) (W : WX) (Γ : List Sl) (e : Expr) (Φ : Bool → List Sl → Prop) (Ψ : Ex) : Prop where
  run : ∀ (E : Entry) (M : Addr → Prop) (σ : L2.St) (H : Hp) (Q : Bool → Hp → Prop), AtM X.K E M Γ σ H → ExD X E W Ψ σ → (∀ b Γ' H', Φ b Γ' → AtM X.K E M Γ' σ H' → Kp M H H' → Q b H') → wt X e σ H Q
structure EW (X : Cx) (W : WX) (Γ : List Sl) (e : Expr) (Φ : Bool → List Sl → Prop) (Ψ : Ex) : Prop where
  run : ∀ (E : Entry) (M : Addr → Prop) (σ : L2.St) (H : Hp) (Q : Bool → Hp → Prop), AtM X.K E M Γ σ H → ExD X E W Ψ σ → (∀ b Γ' H', Φ b Γ' → AtM X.K E M Γ' σ H' → Kp M H H' → Q b H') → ww X e σ H Q

/-- what is wanted behind a statement; fr: what is returned is new -/
structure Post where
  nx : List Sl → Prop
  rt : D → List Sl → Prop
  bk : List Sl → Prop := fun _ => False
  ct : List Sl → Prop := fun _ => False
  ex : Ex := fun _ _ _ => False
structure Dlv (X : Cx) (E : Entry) (W : WX) (fr : Bool) (P : Post) (D' : Ends) : Prop where
  nx : ∀ M Γ σ H, P.nx Γ → AtM X.K E M Γ σ H → D'.nx σ H
  bk : ∀ M Γ σ H, P.bk Γ → AtM X.K E M Γ σ H → D'.bk σ H
  ct : ∀ M Γ σ H, P.ct Γ → AtM X.K E M Γ σ H → D'.ct σ H
  rt : fr = false → ∀ M d Γ σ v H, P.rt d Γ → AtM X.K E M Γ σ H → Rep X.K M H d v → D'.rt v H
  rf : fr = true → ∀ M d Γ σ p H, P.rt d Γ → ¬ M p → E.H0 p = none → AtM X.K E (Mp M p) Γ σ H → OOk X.K (Mp M p) H p d → (∀ (j : Nat) (x : D), Γ[j]? ≠ some (.own p x)) → D'.rt (.ref p) H
  ro : fr = false → ∀ M d Γ σ q H (i : Nat), i ≠ 0 → P.rt d Γ → Γ[i]? = some (.own q d) → AtM X.K E M Γ σ H → D'.rt (.ref q) H
  ex : ∀ σ, ExD X E W P.ex σ
structure SV (X : Cx) (W : WX) (fr : Bool) (S : List Addr) (Γ : List Sl) (st : List Stmt) (P : Post) : Prop where
  run : ∀ (E : Entry) (M : Addr → Prop) (σ : L2.St) (H : Hp) (D' : Ends), (∀ b, E.S0 b ↔ b ∈ S) → AtM X.K E M Γ σ H → Dlv X E W fr P D' → wss X st D' σ H
structure S1 (X : Cx) (W : WX) (fr : Bool) (S : List Addr) (Γ : List Sl) (st : Stmt) (P : Post) : Prop where
  run : ∀ (E : Entry) (M : Addr → Prop) (σ : L2.St) (H : Hp) (D' : Ends), (∀ b, E.S0 b ↔ b ∈ S) → AtM X.K E M Γ σ H → Dlv X E W fr P D' → ws X st D' σ H
end DL
end

section
set_option maxRecDepth 100000
set_option maxHeartbeats 1000000
namespace DL
open PySem PySem.Spec L2
section
variable {X : Cx} {W : WX} {Γ : List Sl} {Φ : D → List Sl → Prop} {Ψ : Ex} {pos : Pos}

def Gr (H H' : Hp) : Prop := ∀ b o, H b = some o → H' b = some o
theorem Gr.refl {H : Hp} : Gr H H := fun _ _ e => e
theorem Gr.kp {M : Addr → Prop} {H H' : Hp} (g : Gr H H') : Kp M H H' := fun b o _ e => g b o e
theorem Gr.upd {H : Hp} {p : Addr} {o : HO} (h : H p = none) : Gr H (upd H p o) := grow_upd h

theorem EV.imp {e : Expr} {Φ' : D → List Sl → Prop} (h : EV X W Γ e Φ Ψ) (i : ∀ d G, Φ d G → Φ' d G) : EV X W Γ e Φ' Ψ :=
  ⟨fun E M σ H Q A x q => h.run E M σ H Q A x fun d G v H' p => q d G v H' (i d G p)⟩
theorem EF.ev {e : Expr} (h : EF X W Γ e Φ Ψ) : EV X W Γ e Φ Ψ :=
  ⟨fun E M σ H Q A x q => h.run E M σ H Q A x fun d G p H' hp hm A' k o hn => q d G (.ref p) H' hp (A'.drop A.m0 hn) k (o.rep hm)⟩

/-! ### names, constants -/
theorem ev_name {i : Nat} {x : Str} {d : D} (hΓ : Γ[i]? = some (.ok d)) (hN : X.N[i]? = some x) (hv : Vis X.env.scope x) (h : Φ d Γ) (hd : (x == ("__debug__" : Str)) = false := by decide)
    (hcd : (x == ("__classdict__" : Str)) = false := by decide) : EV X W Γ (.Name x pos) Φ Ψ :=
  ⟨fun E M σ H Q A _ q => by
    obtain ⟨v, e, r⟩ := A.get i _ hΓ
    exact ⟨_, pe_var hN hv hd hcd, v, e, q d Γ v H h A .refl r⟩⟩
theorem ev_int {i j} (h : Φ (.int i) Γ) : EV X W Γ (.Constant (.int i) j pos) Φ Ψ := ⟨fun E M σ H Q A _ q => ⟨_, pe_int, q _ Γ _ H h A .refl rfl⟩⟩
theorem ev_bl {b j} (h : Φ (.bl b) Γ) : EV X W Γ (.Constant (.bool b) j pos) Φ Ψ := ⟨fun E M σ H Q A _ q => ⟨_, pe_bl, q _ Γ _ H h A .refl rfl⟩⟩
theorem ev_non {j} (h : Φ .non Γ) : EV X W Γ (.Constant .none j pos) Φ Ψ := ⟨fun E M σ H Q A _ q => ⟨_, pe_non, q _ Γ _ H h A .refl rfl⟩⟩
theorem ev_str {x j} (h : Φ (.str x) Γ) : EV X W Γ (.Constant (.str x) j pos) Φ Ψ := ⟨fun E M σ H Q A _ q => ⟨_, pe_str, q _ Γ _ H h A .refl rfl⟩⟩
/-- a module's constant -/
theorem ev_glob {x : Str} {v : V} {u : Value} {d : D} (hg : Gl X x) (hm : X.mg x = some u) (r : RelV v u) (rd : ∀ M H, Rep X.K M H d v) (h : Φ d Γ) (hd : (x == ("__debug__" : Str)) = false := by decide) : EV X W Γ (.Name x pos) Φ Ψ :=
  ⟨fun E M σ H Q A _ q => ⟨_, pe_glob hg hm r hd, q _ Γ _ H h A .refl (rd M H)⟩⟩

/-! ### two-place operations -/
def wop (X : Cx) (f : Value → Value → Sem Value) : R2 := fun x y H Q => ∃ r, OpR X f r ∧ r x y H Q
theorem opr_wop {f : Value → Value → Sem Value} : OpR X f (wop X f) := fun pins s σ H x y v u Q I rx ry ⟨_, h, q⟩ => h pins s σ H x y v u Q I rx ry q
/-- by trees: of da and db it makes some d with P d -/
structure OpD (X : Cx) (f : Value → Value → Sem Value) (da db : D) (P : D → Prop) : Prop where
  run : ∀ (M : Addr → Prop) (H : Hp) (va vb : V) (Q : VK), (∀ b, M b → Ob (H b)) → Rep X.K M H da va → Rep X.K M H db vb → (∀ d v H', P d → Gr H H' → Rep X.K M H' d v → Q v H') → wop X f va vb H Q
theorem ev_op {op : Operator} {a b : Expr} (ha : EV X W Γ a (fun da Γ1 => EV X W Γ1 b (fun db Γ2 => OpD X (binaryOp op) da db (fun d => Φ d Γ2)) Ψ) Ψ) : EV X W Γ (.BinOp a op b pos) Φ Ψ := by
  refine ⟨fun E M σ H Q A x q => ⟨_, pe_op opr_wop pe_we pe_we, ?_⟩⟩
  refine ha.run E M σ H _ A x fun da Γ1 va H1 hb A1 k1 ra => ?_
  refine hb.run E M σ H1 _ A1 x fun db Γ2 vb H2 ho A2 k2 rb => ?_
  exact ho.run M H2 va vb _ A2.dom (ra.mv k2.mv) rb fun d v H3 p g r => q d Γ2 v H3 p (A2.grow g) (k1.trans (k2.trans g.kp)) r
theorem ev_cmp {op : CmpOp} {a b : Expr} (ha : EV X W Γ a (fun da Γ1 => EV X W Γ1 b (fun db Γ2 => OpD X (compareOp op) da db (fun d => Φ d Γ2)) Ψ) Ψ) (hm : behindInMarks op b = false := by rfl) : EV X W Γ (.Compare a [op] [b] pos) Φ Ψ := by
  refine ⟨fun E M σ H Q A x q => ⟨_, pe_cmpR opr_wop pe_we pe_we hm, ?_⟩⟩
  refine ha.run E M σ H _ A x fun da Γ1 va H1 hb A1 k1 ra => ?_
  refine hb.run E M σ H1 _ A1 x fun db Γ2 vb H2 ho A2 k2 rb => ?_
  exact ho.run M H2 va vb _ A2.dom (ra.mv k2.mv) rb fun d v H3 p g r => q d Γ2 v H3 p (A2.grow g) (k1.trans (k2.trans g.kp)) r
variable {Θ : Bool → List Sl → Prop}
theorem et_cmp {op : CmpOp} {a b : Expr} (ha : EV X W Γ a (fun da Γ1 => EV X W Γ1 b (fun db Γ2 => OpD X (compareOp op) da db (fun d => ∃ k, d = .bl k ∧ Θ k Γ2)) Ψ) Ψ) (hm : behindInMarks op b = false := by rfl) : ET X W Γ (.Compare a [op] [b] pos) Θ Ψ := by
  refine ⟨fun E M σ H Q A x q => ⟨_, pt_cmpR opr_wop pe_we pe_we hm, ?_⟩⟩
  refine ha.run E M σ H _ A x fun da Γ1 va H1 hb A1 k1 ra => ?_
  refine hb.run E M σ H1 _ A1 x fun db Γ2 vb H2 ho A2 k2 rb => ?_
  refine ho.run M H2 va vb _ A2.dom (ra.mv k2.mv) rb fun d v H3 p g r => ?_
  obtain ⟨k, rfl, p⟩ := p
  exact ⟨k, r, q k Γ2 H3 p (A2.grow g) (k1.trans (k2.trans g.kp))⟩
/-- a value that is a bool, as a test -/
theorem et_val {e : Expr} (h : EV X W Γ e (fun d Γ1 => ∃ k, d = .bl k ∧ Θ k Γ1) Ψ) (he : ∀ whole, isTrue e X.env whole = (do let v ← whole; standAt e.pos; holding [v] (truthy v)) := by intro _; rfl) : ET X W Γ e Θ Ψ := by
  refine ⟨fun E M σ H Q A x q => ⟨_, pt_val pe_we he, ?_⟩⟩
  refine h.run E M σ H _ A x fun d Γ1 v H1 p A1 k1 r => ?_
  obtain ⟨k, rfl, p⟩ := p
  exact ⟨k, r, q k Γ1 H1 p A1 k1⟩
theorem et_not {a : Expr} (h : ET X W Γ a (fun b Γ1 => Θ (!b) Γ1) Ψ) : ET X W Γ (.UnaryOp .Not a pos) Θ Ψ :=
  ⟨fun E M σ H Q A x q => ⟨_, pt_not pt_wt, h.run E M σ H _ A x fun b Γ1 H1 p A1 k1 => q (!b) Γ1 H1 p A1 k1⟩⟩
theorem et_w {e : Expr} (h : EW X W Γ e Θ Ψ) : ET X W Γ e Θ Ψ := ⟨fun E M σ H Q A x q => by
  obtain ⟨t, h1, h2⟩ := h.run E M σ H Q A x q
  exact ⟨t, h1.pt, h2⟩⟩
theorem ew_and1 {a : Expr} (h : ET X W Γ a Θ Ψ) : EW X W Γ (.BoolOp .And [a] pos) Θ Ψ := ⟨fun E M σ H Q A x q => ⟨_, pw_and1 pt_wt, h.run E M σ H Q A x q⟩⟩
theorem ew_or1 {a : Expr} (h : ET X W Γ a Θ Ψ) : EW X W Γ (.BoolOp .Or [a] pos) Θ Ψ := ⟨fun E M σ H Q A x q => ⟨_, pw_or1 pt_wt, h.run E M σ H Q A x q⟩⟩
theorem ew_and {a b : Expr} {rest : List Expr} (h : ET X W Γ a (fun k Γ1 => (k = true → EW X W Γ1 (.BoolOp .And (b :: rest) pos) Θ Ψ) ∧ (k = false → Θ false Γ1)) Ψ) : EW X W Γ (.BoolOp .And (a :: b :: rest) pos) Θ Ψ := by
  refine ⟨fun E M σ H Q A x q => ⟨_, pw_and pt_wt pw_ww, ?_⟩⟩
  refine h.run E M σ H _ A x fun k Γ1 H1 p A1 k1 => ?_
  cases k with
  | true => exact if_pos rfl ▸ ((p.1 rfl).run E M σ H1 _ A1 x fun b Γ2 H2 p2 A2 k2 => q b Γ2 H2 p2 A2 (k1.trans k2))
  | false => exact (if_neg Bool.false_ne_true ▸ q false Γ1 H1 (p.2 rfl) A1 k1)
theorem ew_or {a b : Expr} {rest : List Expr} (h : ET X W Γ a (fun k Γ1 => (k = true → Θ true Γ1) ∧ (k = false → EW X W Γ1 (.BoolOp .Or (b :: rest) pos) Θ Ψ)) Ψ) : EW X W Γ (.BoolOp .Or (a :: b :: rest) pos) Θ Ψ := by
  refine ⟨fun E M σ H Q A x q => ⟨_, pw_or pt_wt pw_ww, ?_⟩⟩
  refine h.run E M σ H _ A x fun k Γ1 H1 p A1 k1 => ?_
  cases k with
  | true => exact (if_pos rfl ▸ q true Γ1 H1 (p.1 rfl) A1 k1)
  | false => exact if_neg Bool.false_ne_true ▸ ((p.2 rfl).run E M σ H1 _ A1 x fun b Γ2 H2 p2 A2 k2 => q b Γ2 H2 p2 A2 (k1.trans k2))
/-- and, or, not as values (bools) -/
theorem ev_one {op} {a : Expr} (h : EV X W Γ a Φ Ψ) : EV X W Γ (.BoolOp op [a] pos) Φ Ψ := ⟨fun E M σ H Q A x q => ⟨_, pe_one pe_we, h.run E M σ H Q A x q⟩⟩
theorem ev_and {a b : Expr} {rest : List Expr} (h : EV X W Γ a (fun d Γ1 => ∃ k, d = .bl k ∧ (k = true → EV X W Γ1 (.BoolOp .And (b :: rest) pos) Φ Ψ) ∧ (k = false → Φ (.bl false) Γ1)) Ψ) : EV X W Γ (.BoolOp .And (a :: b :: rest) pos) Φ Ψ := by
  refine ⟨fun E M σ H Q A x q => ⟨_, pe_and pe_we pe_we, ?_⟩⟩
  refine h.run E M σ H _ A x fun d Γ1 v H1 p A1 k1 r => ?_
  obtain ⟨k, rfl, p⟩ := p
  refine ⟨k, r, ?_⟩
  cases k with
  | true => exact if_pos rfl ▸ ((p.1 rfl).run E M σ H1 _ A1 x fun d Γ2 v H2 p2 A2 k2 r2 => q d Γ2 v H2 p2 A2 (k1.trans k2) r2)
  | false => exact (if_neg Bool.false_ne_true ▸ q _ Γ1 _ H1 (p.2 rfl) A1 k1 rfl)
theorem ev_or {a b : Expr} {rest : List Expr} (h : EV X W Γ a (fun d Γ1 => ∃ k, d = .bl k ∧ (k = true → Φ (.bl true) Γ1) ∧ (k = false → EV X W Γ1 (.BoolOp .Or (b :: rest) pos) Φ Ψ)) Ψ) : EV X W Γ (.BoolOp .Or (a :: b :: rest) pos) Φ Ψ := by
  refine ⟨fun E M σ H Q A x q => ⟨_, pe_or pe_we pe_we, ?_⟩⟩
  refine h.run E M σ H _ A x fun d Γ1 v H1 p A1 k1 r => ?_
  obtain ⟨k, rfl, p⟩ := p
  refine ⟨k, r, ?_⟩
  cases k with
  | true => exact (if_pos rfl ▸ q _ Γ1 _ H1 (p.1 rfl) A1 k1 rfl)
  | false => exact if_neg Bool.false_ne_true ▸ ((p.2 rfl).run E M σ H1 _ A1 x fun d Γ2 v H2 p2 A2 k2 r2 => q d Γ2 v H2 p2 A2 (k1.trans k2) r2)
theorem ev_not {a : Expr} (h : EV X W Γ a (fun d Γ1 => ∃ k, d = .bl k ∧ Φ (.bl (!k)) Γ1) Ψ) : EV X W Γ (.UnaryOp .Not a pos) Φ Ψ :=
  ⟨fun E M σ H Q A x q => ⟨_, pe_not pe_we, h.run E M σ H _ A x fun d Γ1 v H1 p A1 k1 r => by
    obtain ⟨k, rfl, p⟩ := p
    exact ⟨k, r, q _ Γ1 _ H1 p A1 k1 rfl⟩⟩⟩
theorem ev_if {c a b : Expr} (h : ET X W Γ c (fun k Γ1 => (k = true → EV X W Γ1 a Φ Ψ) ∧ (k = false → EV X W Γ1 b Φ Ψ)) Ψ) : EV X W Γ (.IfExp c a b pos) Φ Ψ := by
  refine ⟨fun E M σ H Q A x q => ⟨_, pe_ifExp pt_wt pe_we pe_we, ?_⟩⟩
  refine h.run E M σ H _ A x fun k Γ1 H1 p A1 k1 => ?_
  cases k with
  | true => exact if_pos rfl ▸ ((p.1 rfl).run E M σ H1 _ A1 x fun d Γ2 v H2 p2 A2 k2 r2 => q d Γ2 v H2 p2 A2 (k1.trans k2) r2)
  | false => exact if_neg Bool.false_ne_true ▸ ((p.2 rfl).run E M σ H1 _ A1 x fun d Γ2 v H2 p2 A2 k2 r2 => q d Γ2 v H2 p2 A2 (k1.trans k2) r2)

/-! ### what the operations make -/
variable {P : D → Prop}
theorem gen_op {f : Value → Value → Sem Value} {r : R2} {da db d : D} (o : OpR X f r) (h : P d) (w : ∀ M H va vb Q, (∀ b, M b → Ob (H b)) → Rep X.K M H da va → Rep X.K M H db vb → (∀ v H', Gr H H' → Rep X.K M H' d v → Q v H') → r va vb H Q) : OpD X f da db P :=
  ⟨fun M H va vb Q dm ra rb q => ⟨r, o, w M H va vb Q dm ra rb fun v H' g rr => q d v H' h g rr⟩⟩
theorem d_add {i j : Int} (h : P (.int (i + j))) : OpD X (binaryOp .Add) (.int i) (.int j) P := gen_op op_add h fun M H va vb Q _ ra rb q => ⟨i, j, ra, rb, q _ H .refl rfl⟩
theorem d_sub {i j : Int} (h : P (.int (i - j))) : OpD X (binaryOp .Sub) (.int i) (.int j) P := gen_op op_sub h fun M H va vb Q _ ra rb q => ⟨i, j, ra, rb, q _ H .refl rfl⟩
theorem d_mul {i j : Int} (c : CMul i j) (h : P (.int (i * j))) : OpD X (binaryOp .Mult) (.int i) (.int j) P := gen_op op_mul h fun M H va vb Q _ ra rb q => ⟨i, j, ra, rb, c, q _ H .refl rfl⟩
theorem d_mod {i j : Int} (c : 0 < j) (h : P (.int (i % j))) : OpD X (binaryOp .Mod) (.int i) (.int j) P := gen_op op_mod h fun M H va vb Q _ ra rb q => ⟨i, j, ra, rb, c, q _ H .refl rfl⟩
theorem d_fdiv {i j : Int} (c : CDiv i j) (h : P (.int (i / j))) : OpD X (binaryOp .FloorDiv) (.int i) (.int j) P := gen_op op_fdiv h fun M H va vb Q _ ra rb q => ⟨i, j, ra, rb, c, q _ H .refl rfl⟩
theorem d_adds {i j : Str} (c : i.length + j.length ≤ sizeLine) (h : P (.str (i ++ j))) : OpD X (binaryOp .Add) (.str i) (.str j) P := gen_op op_add_str h fun M H va vb Q _ ra rb q => ⟨i, j, ra, rb, c, q _ H .refl rfl⟩
theorem d_lt {i j : Int} (h : P (.bl (decide (i < j)))) : OpD X (compareOp .Lt) (.int i) (.int j) P := gen_op op_lt h fun M H va vb Q _ ra rb q => ⟨i, j, ra, rb, q _ H .refl rfl⟩
theorem d_le {i j : Int} (h : P (.bl (decide (i ≤ j)))) : OpD X (compareOp .LtE) (.int i) (.int j) P := gen_op op_le h fun M H va vb Q _ ra rb q => ⟨i, j, ra, rb, q _ H .refl rfl⟩
theorem d_gt {i j : Int} (h : P (.bl (decide (j < i)))) : OpD X (compareOp .Gt) (.int i) (.int j) P := gen_op op_gt h fun M H va vb Q _ ra rb q => ⟨i, j, ra, rb, q _ H .refl rfl⟩
theorem d_ge {i j : Int} (h : P (.bl (decide (j ≤ i)))) : OpD X (compareOp .GtE) (.int i) (.int j) P := gen_op op_ge h fun M H va vb Q _ ra rb q => ⟨i, j, ra, rb, q _ H .refl rfl⟩
theorem d_eqi {i j : Int} (h : P (.bl (decide (i = j)))) : OpD X (compareOp .Eq) (.int i) (.int j) P := gen_op op_eq h fun M H va vb Q _ ra rb q => by
  have ea : va = .int i := ra
  have eb : vb = .int j := rb
  subst ea eb
  refine ⟨rfl, ?_⟩
  rw [dec_int, Bool.beq_eq_decide_eq]
  exact q _ H .refl rfl
theorem d_eqs {i j : Str} (h : P (.bl (decide (i = j)))) : OpD X (compareOp .Eq) (.str i) (.str j) P := gen_op op_eq h fun M H va vb Q _ ra rb q => by
  have ea : va = .str i := ra
  have eb : vb = .str j := rb
  subst ea eb
  refine ⟨rfl, ?_⟩
  rw [dec_str, show (i == j) = decide (i = j) by by_cases c : i = j <;> simp [c]]
  exact q _ H .refl rfl
theorem d_nei {i j : Int} (h : P (.bl (!decide (i = j)))) : OpD X (compareOp .NotEq) (.int i) (.int j) P := gen_op op_ne h fun M H va vb Q _ ra rb q => by
  have ea : va = .int i := ra
  have eb : vb = .int j := rb
  subst ea eb
  refine ⟨rfl, ?_⟩
  rw [dec_int, Bool.beq_eq_decide_eq]
  exact q _ H .refl rfl
theorem d_nes {i j : Str} (h : P (.bl (!decide (i = j)))) : OpD X (compareOp .NotEq) (.str i) (.str j) P := gen_op op_ne h fun M H va vb Q _ ra rb q => by
  have ea : va = .str i := ra
  have eb : vb = .str j := rb
  subst ea eb
  refine ⟨rfl, ?_⟩
  rw [dec_str, show (i == j) = decide (i = j) by by_cases c : i = j <;> simp [c]]
  exact q _ H .refl rfl
end
end DL
namespace DL
open PySem PySem.Spec L2
theorem d_pow {X : Cx} {P : D → Prop} {i j : Int} (c : CPow i j) (h : P (.int (i ^ j.toNat))) : OpD X (binaryOp .Pow) (.int i) (.int j) P := gen_op op_pow h fun M H va vb Q _ ra rb q => ⟨i, j, ra, rb, c, q _ H .refl rfl⟩
end DL
namespace DL
theorem leb {m n : Nat} (h : Nat.ble m n = true) : m ≤ n := Nat.le_of_ble_eq_true h
theorem xo {α : Sort _} {P Q : α → Prop} {a : α} (h : P a) (q : Q a) : ∃ a, P a ∧ Q a := ⟨a, h, q⟩
theorem xa {P Q : Prop} (h : P) (q : Q) : P ∧ Q := ⟨h, q⟩
theorem xs {α β γ : Sort _} {P Q R S : α → β → γ → Prop} {a : α} {b : β} {c : γ} (h1 : P a b c) (h2 : Q a b c) (h3 : R a b c) (q : S a b c) : ∃ a b c, P a b c ∧ Q a b c ∧ R a b c ∧ S a b c := ⟨a, b, c, h1, h2, h3, q⟩
end DL
namespace DL
open PySem PySem.Spec L2
def CPowB (i j : Int) : Prop := 0 ≤ j ∧ (Builtin.Int.intBits i : Int) * j ≤ 2 ^ 27
theorem op_powB {X : Cx} : OpR X (binaryOp .Pow) (rI CPowB fun i j => .int (i ^ j.toNat)) := opI fun _ _ _ _ _ _ _ hc q => PyProof.Rows.pow_int hc.1 hc.2 q
theorem d_powB {X : Cx} {P : D → Prop} {i j : Int} (c : CPowB i j) (h : P (.int (i ^ j.toNat))) : OpD X (binaryOp .Pow) (.int i) (.int j) P := gen_op op_powB h fun M H va vb Q _ ra rb q => ⟨i, j, ra, rb, c, q _ H .refl rfl⟩
end DL
end

section
set_option maxRecDepth 100000
set_option maxHeartbeats 1000000
namespace DLC
open PySem PySem.Spec PyProof.Rows L2
section
variable {prog : Program} {w : World} {A : Around} {R : Result → Shared → Prop} {s : Shared} {elt kx vx tg iter tg1 iter1 : Expr} {ifs ifs1 : List Expr} {gens : List Comprehension} {scope : Scope} {pos : Pos} {it acc : Value} {env : Env} {k : Nat}
/-- what is wanted of an exception here -/
abbrev NB (prog : Program) (w : World) (A : Around) (env : Env) (R : Result → Shared → Prop) : Value → Shared → Prop :=
  notedBy (model prog w) A env (fun x s' => R (.error x) s')
/-- the tests of a clause, one behind the other -/
abbrev testsOf (env : Env) (ifs : List Expr) : Sem Bool :=
  forIn ifs true fun c r =>
    if r = true then do
      let ok ← isTrue c env (eval c env)
      pure (ForInStep.yield ok)
    else pure (ForInStep.yield r)
/-- one turn: the next item is stored and tested; go: what follows -/
abbrev TurnOf (prog : Program) (w : World) (A : Around) (env : Env) (R : Result → Shared → Prop) (tg : Expr) (ifs : List Expr) (it : Value) (go : Shared → Prop) (no : Shared → Prop) (s : Shared) : Prop :=
  wpAny (model prog w) A (pyNext it) (fun r s1 => match r with
    | none => R (.ok .next) s1
    | some v => wpAny (model prog w) A (letOwnedTupleGo tg it v) (fun _ s2 =>
        wpAny (model prog w) A (assign tg env v) (fun _ s3 =>
          wpAny (model prog w) A (testsOf env ifs) (fun ok s4 => if ok = true then go s4 else no s4) (NB prog w A env R) s3)
          (NB prog w A env R) s2) (NB prog w A env R) s1) (NB prog w A env R) s
/-- the last clause of a list's -/
theorem loop_last (hg : gens[k]? = some ⟨tg, iter, ifs, 0⟩) (hl : gens[k + 1]? = none) (I : Nat → Shared → Prop)
    (turn : ∀ n s, I n s → TurnOf prog w A env R tg ifs it (fun s3 => wpAny (model prog w) A (eval elt env) (fun x s4 =>
      wpAny (model prog w) A (call (.builtin "list.append") [acc, x]) (fun _ s5 => ∃ m, m < n ∧ I m s5) (NB prog w A env R) s4) (NB prog w A env R) s3) (fun s3 => ∃ m, m < n ∧ I m s3) s)
    (n : Nat) (h : I n s) : codeAny (model prog w) A (.compLoop (.ListComp elt gens scope pos) k it acc env) R s := by
  refine codeAny_loop rfl I (fun n s atn => ?_) n h
  show wpAny _ A ((compTurn (.ListComp elt gens scope pos) k it acc env).onRaise _) _ _ s
  refine wpAny_noted ?_
  unfold compTurn
  simp only [hg, hl]
  refine wpAny_bind (wpAny_standAt (wpAny_bind (wpAny_mono (turn n s atn) (fun r s1 h1 => ?_) fun _ _ z => z)))
  cases r with
  | none => exact wpAny_pure h1
  | some v =>
    refine wpAny_bind (wpAny_mono h1 (fun _ s2 h2 => ?_) fun _ _ z => z)
    refine wpAny_bind (wpAny_mono h2 (fun _ s3 h3 => wpAny_bind (wpAny_mono h3 (fun ok s4 h4 => ?_) fun _ _ z => z)) fun _ _ z => z)
    cases ok with
    | false => exact wpAny_pure ⟨rfl, h4⟩
    | true => exact wpAny_bind (wpAny_bind (wpAny_mono h4 (fun x s5 h5 => wpAny_bind (wpAny_mono h5 (fun _ s6 h6 => wpAny_pure (wpAny_pure ⟨rfl, h6⟩)) fun _ _ z => z)) fun _ _ z => z))
/-- .. of a dict's -/
theorem loop_lastD {D : Addr} (hg : gens[k]? = some ⟨tg, iter, ifs, 0⟩) (hl : gens[k + 1]? = none) (I : Nat → Shared → Prop)
    (turn : ∀ n s, I n s → TurnOf prog w A env R tg ifs it (fun s3 => wpAny (model prog w) A (eval kx env) (fun kv s4 => wpAny (model prog w) A (eval vx env) (fun vv s5 =>
      wpAny (model prog w) A (dictSet D kv vv) (fun _ s6 => ∃ m, m < n ∧ I m s6) (NB prog w A env R) s5) (NB prog w A env R) s4) (NB prog w A env R) s3) (fun s3 => ∃ m, m < n ∧ I m s3) s)
    (n : Nat) (h : I n s) : codeAny (model prog w) A (.compLoop (.DictComp kx vx gens scope pos) k it (.ref D) env) R s := by
  refine codeAny_loop rfl I (fun n s atn => ?_) n h
  show wpAny _ A ((compTurn (.DictComp kx vx gens scope pos) k it (.ref D) env).onRaise _) _ _ s
  refine wpAny_noted ?_
  unfold compTurn
  simp only [hg, hl]
  refine wpAny_bind (wpAny_standAt (wpAny_bind (wpAny_mono (turn n s atn) (fun r s1 h1 => ?_) fun _ _ z => z)))
  cases r with
  | none => exact wpAny_pure h1
  | some v =>
    refine wpAny_bind (wpAny_mono h1 (fun _ s2 h2 => ?_) fun _ _ z => z)
    refine wpAny_bind (wpAny_mono h2 (fun _ s3 h3 => wpAny_bind (wpAny_mono h3 (fun ok s4 h4 => ?_) fun _ _ z => z)) fun _ _ z => z)
    cases ok with
    | false => exact wpAny_pure ⟨rfl, h4⟩
    | true => exact wpAny_bind (wpAny_bind (wpAny_mono h4 (fun kv s5 h5 => wpAny_bind (wpAny_holding (wpAny_mono h5 (fun vv s6 h6 => wpAny_bind (wpAny_standAt (wpAny_holding (wpAny_mono h6 (fun _ s7 h7 => wpAny_pure ⟨rfl, h7⟩) fun _ _ z => z)))) fun _ _ z => z))) fun _ _ z => z))
/-- a clause with another behind it; c: the comprehension -/
theorem loop_mid (hg : gens[k]? = some ⟨tg, iter, ifs, 0⟩) (hl : gens[k + 1]? = some ⟨tg1, iter1, ifs1, 0⟩) (hs : ∀ x, foldedSetIterable iter1 env x = pure x) (I : Nat → Shared → Prop)
    (turn : ∀ n s, I n s → TurnOf prog w A env R tg ifs it (fun s3 => wpAny (model prog w) A (eval iter1 env) (fun x s4 => wpAny (model prog w) A (pyIter x) (fun it1 s5 =>
      codeAny (model prog w) A (.compStart (.ListComp elt gens scope pos) (k + 1) it1 acc env) (fun r s' => (∃ f, r = .ok f) ∧ ∃ m, m < n ∧ I m s') s5) (NB prog w A env R) s4) (NB prog w A env R) s3) (fun s3 => ∃ m, m < n ∧ I m s3) s)
    (n : Nat) (h : I n s) : codeAny (model prog w) A (.compLoop (.ListComp elt gens scope pos) k it acc env) R s := by
  refine codeAny_loop rfl I (fun n s atn => ?_) n h
  show wpAny _ A ((compTurn (.ListComp elt gens scope pos) k it acc env).onRaise _) _ _ s
  refine wpAny_noted ?_
  unfold compTurn
  simp only [hg, hl]
  refine wpAny_bind (wpAny_standAt (wpAny_bind (wpAny_mono (turn n s atn) (fun r s1 h1 => ?_) fun _ _ z => z)))
  cases r with
  | none => exact wpAny_pure h1
  | some v =>
    refine wpAny_bind (wpAny_mono h1 (fun _ s2 h2 => ?_) fun _ _ z => z)
    refine wpAny_bind (wpAny_mono h2 (fun _ s3 h3 => wpAny_bind (wpAny_mono h3 (fun ok s4 h4 => ?_) fun _ _ z => z)) fun _ _ z => z)
    cases ok with
    | false => exact wpAny_pure ⟨rfl, h4⟩
    | true =>
      refine wpAny_bind (wpAny_mono h4 (fun x s5 h5 => ?_) fun _ _ z => z)
      refine wpAny_bind (wpAny_standAt (wpAny_bind (wpAny_of_eq (hs x) (wpAny_bind (wpAny_holding (wpAny_mono h5 (fun it1 s6 h6 => ?_) fun _ _ z => z))))))
      refine wpAny_bind (wpAny_runOwn ?_)
      rw [Around.mark_none]
      refine codeAny_mono h6 fun r s' res => ?_
      obtain ⟨⟨f, rfl⟩, res⟩ := res
      first
        | exact wpAny_pure ⟨rfl, res⟩
        | exact wpAny_bind (wpAny_pure (wpAny_pure ⟨rfl, res⟩))
theorem loop_midD {D : Addr} (hg : gens[k]? = some ⟨tg, iter, ifs, 0⟩) (hl : gens[k + 1]? = some ⟨tg1, iter1, ifs1, 0⟩) (hs : ∀ x, foldedSetIterable iter1 env x = pure x) (I : Nat → Shared → Prop)
    (turn : ∀ n s, I n s → TurnOf prog w A env R tg ifs it (fun s3 => wpAny (model prog w) A (eval iter1 env) (fun x s4 => wpAny (model prog w) A (pyIter x) (fun it1 s5 =>
      codeAny (model prog w) A (.compStart (.DictComp kx vx gens scope pos) (k + 1) it1 (.ref D) env) (fun r s' => (∃ f, r = .ok f) ∧ ∃ m, m < n ∧ I m s') s5) (NB prog w A env R) s4) (NB prog w A env R) s3) (fun s3 => ∃ m, m < n ∧ I m s3) s)
    (n : Nat) (h : I n s) : codeAny (model prog w) A (.compLoop (.DictComp kx vx gens scope pos) k it (.ref D) env) R s := by
  refine codeAny_loop rfl I (fun n s atn => ?_) n h
  show wpAny _ A ((compTurn (.DictComp kx vx gens scope pos) k it (.ref D) env).onRaise _) _ _ s
  refine wpAny_noted ?_
  unfold compTurn
  simp only [hg, hl]
  refine wpAny_bind (wpAny_standAt (wpAny_bind (wpAny_mono (turn n s atn) (fun r s1 h1 => ?_) fun _ _ z => z)))
  cases r with
  | none => exact wpAny_pure h1
  | some v =>
    refine wpAny_bind (wpAny_mono h1 (fun _ s2 h2 => ?_) fun _ _ z => z)
    refine wpAny_bind (wpAny_mono h2 (fun _ s3 h3 => wpAny_bind (wpAny_mono h3 (fun ok s4 h4 => ?_) fun _ _ z => z)) fun _ _ z => z)
    cases ok with
    | false => exact wpAny_pure ⟨rfl, h4⟩
    | true =>
      refine wpAny_bind (wpAny_mono h4 (fun x s5 h5 => ?_) fun _ _ z => z)
      refine wpAny_bind (wpAny_standAt (wpAny_bind (wpAny_of_eq (hs x) (wpAny_bind (wpAny_holding (wpAny_mono h5 (fun it1 s6 h6 => ?_) fun _ _ z => z))))))
      refine wpAny_bind (wpAny_runOwn ?_)
      rw [Around.mark_none]
      refine codeAny_mono h6 fun r s' res => ?_
      obtain ⟨⟨f, rfl⟩, res⟩ := res
      first
        | exact wpAny_pure ⟨rfl, res⟩
        | exact wpAny_bind (wpAny_pure (wpAny_pure ⟨rfl, res⟩))
/-- a clause's start: its iterator, asked once more or not -/
theorem start_at {c : Expr} (hg : (clausesOf c)[k]? = some ⟨tg, iter, ifs, 0⟩) (hgn : ∀ a b d e, c ≠ .GeneratorExp a b d e) (lp : codeAny (model prog w) A (.compLoop c k it acc env) R s)
    (h : wpAny (model prog w) A (pyIter it) (fun it' s' => codeAny (model prog w) A (.compLoop c k it' acc env) R s') (NB prog w A env R) s) :
    codeAny (model prog w) A (.compStart c k it acc env) R s := by
  refine codeAny_of_tree ?_
  have hfr : (Code.compStart c k it acc env).isFrame = false := by
    cases c <;> first | rfl | exact absurd rfl (hgn _ _ _ _)
  have hA : A.under (.compStart c k it acc env) = A := by
    cases c <;> first | rfl | exact absurd rfl (hgn _ _ _ _)
  rw [hA]
  show wpAny _ _ (if (Code.compStart c k it acc env).isFrame = true then (compStart c k it acc env).onRaise (leaving env) else (compStart c k it acc env).onRaise (fun x => do noteFrame x env; standAt theWindowsPlace)) _ _ s
  rw [hfr]
  refine wpAny_notedAt ?_
  unfold compStart
  simp only [hg]
  show wpAny _ _ (ask >>= _) _ _ s
  refine wpAny_bind ?_
  refine wpAny_askSetting (wpAny_ite ?_)
  split
  · first
      | exact wpAny_bind (wpAny_pure (wpAny_pure (And.intro rfl lp)))
      | exact wpAny_pure (And.intro rfl lp)
  · first
      | exact wpAny_bind (wpAny_rule (wpAny_bind (wpAny_standAt (wpAny_bind (wpAny_mono h (fun it' s' got => wpAny_pure ⟨rfl, got⟩) fun _ _ x => x)))))
      | (refine wpAny_bind (wpAny_rule ?_); refine wpAny_bind (wpAny_standAt (wpAny_bind (wpAny_mono h (fun it' s' got => wpAny_pure ⟨rfl, got⟩) fun _ _ x => x))))
end
end DLC
end

section
set_option maxRecDepth 100000
set_option maxHeartbeats 1000000
namespace DLC
open PySem PySem.Spec L2
/-- one clause: its text, its reading; V: the slots that it and those behind it store -/
structure Cl where
  tg : Expr
  iter : Expr
  ifs : List Expr
  wi : TI
  g : TG
  tt : TT
  V : List Nat
/-- the emission's reading: the new list or dict is a part of the heap -/
abbrev TEm := L2.St → Hp → (Hp → Prop) → Prop
def tLoop (body : TEm) (c : Cl) (J : It) (σ : L2.St) (H1 : Hp) (F : Hp → Prop) : Prop :=
  ∃ T : Nat → Nat → Hp → Prop, (∃ m, T 0 m H1) ∧ ∀ i m H, T i m H →
    (J.stop i H ∧ F H) ∨ (J.go i H ∧ ∃ Nx : Hp → Prop, (∀ H', Nx H' → ∃ m', m' < m ∧ T (i + 1) m' H') ∧
      ∀ x H', J.yld i H x H' → c.g x (wipe σ c.V) H' fun σ2 H2 => wipe σ2 c.V = wipe σ c.V ∧ c.tt σ2 H2 fun b H3 => if b = true then body σ2 H3 Nx else Nx H3)
def tCl (em : TEm) : List Cl → TEm
  | [] => em
  | c :: cs => fun σ H F => c.wi σ H fun J H1 => tLoop (tCl em cs) c J σ H1 F
def heads : List Cl → List Nat
  | [] => []
  | c :: _ => c.V
def chain : List Cl → Prop
  | [] => True
  | c :: cs => (∀ i ∈ heads cs, i ∈ c.V) ∧ chain cs
structure ClOk (Y : Cx) (c : Cl) : Prop where
  pi : PI Y c.tg c.iter c.wi
  pg : PG Y c.tg c.g
  pt : PTs Y c.ifs c.tt
  fs : ∀ x, foldedSetIterable c.iter Y.env x = pure x
section
variable {Y : Cx} {pins : List (Addr × Obj)} {σ : L2.St} {H : Hp} {s : Shared}
theorem thnY {α : Type} {t : Sem α} {Q Q' : α → Shared → Prop} {E : Value → Shared → Prop} (hx : Y.xe = fun _ _ => False) (h : wpAny (model Y.prog Y.w) Y.A t Q Y.xe s) (hQ : ∀ a s, Q a s → Q' a s) : wpAny (model Y.prog Y.w) Y.A t Q' E s :=
  wpAny_mono h hQ fun _ _ z => by rw [hx] at z; exact z.elim
/-- the state behind a turn, as the loop has it ahead of the next -/
theorem back_wipe {σ2 : L2.St} {V V1 : List Nat} (hs : ∀ i ∈ V1, i ∈ V) (hw : wipe σ2 V = wipe σ V) (I : Inv Y pins (wipe σ2 V1) H s) : Inv Y pins (wipe σ V) H s := by
  have hl : (wipe σ V).length = (wipe σ2 V1).length := by rw [← hw, wipe_length, wipe_length]
  refine I.weak hl fun j v e => ?_
  rw [← hw] at e
  obtain ⟨e1, n1⟩ := wipe_some e
  rw [wipe_out fun m => n1 (hs j m)]
  exact e1
variable {gens : List Comprehension} {scope : Scope} {pos : Pos} {D : Addr} {mk : Expr}
/-- what runs behind the tests of the clause ahead of k -/
def AfterOk (Y : Cx) (mk : Expr) (D : Addr) (em : TEm) (cs : List Cl) (k : Nat) : Prop :=
  ∀ (c : Cl) (it : Addr) (fp : List Addr) (tn : Nat → Heap → Prop) (J : It) (pins : List (Addr × Obj)) (s : Shared) (σ : L2.St) (H : Hp) (F : Hp → Prop), (∀ i ∈ heads cs, i ∈ c.V) → ClOk Y c → (clausesOf mk)[k]? = some ⟨c.tg, c.iter, c.ifs, 0⟩ →
    Inv Y pins (wipe σ c.V) H s → Turn Y.prog Y.w Y.K c.tg J fp it tn → tn 0 s.heap → (∀ b ∈ fp, FpOk Y pins H b) → tLoop (tCl em cs) c J σ H F →
    codeAny (model Y.prog Y.w) Y.A (.compLoop mk k (.ref it) (.ref D) Y.env) (fun r s' => (∃ f, r = .ok f) ∧ ∃ H', Inv Y pins (wipe σ c.V) H' s' ∧ F H') s
/-- one clause's loop, by what follows its tests -/
theorem loop_core (hx : Y.xe = fun _ _ => False) (hc : Y.calm = true) {c : Cl} {cs : List Cl} {em : TEm} {it : Addr} {fp : List Addr} {tn : Nat → Heap → Prop} {J : It} {k : Nat} {F : Hp → Prop} (hs : ∀ i ∈ heads cs, i ∈ c.V) (ok : ClOk Y c)
    (I0 : Inv Y pins (wipe σ c.V) H s) (T : Turn Y.prog Y.w Y.K c.tg J fp it tn) (st : tn 0 s.heap) (hf : ∀ b ∈ fp, FpOk Y pins H b) (q : tLoop (tCl em cs) c J σ H F) {R : Result → Shared → Prop}
    (hR : ∀ s' H', Inv Y pins (wipe σ c.V) H' s' → F H' → R (.ok .next) s')
    (go : Shared → (Shared → Prop) → Prop)
    (hgo : ∀ (pins' : List (Addr × Obj)) (s : Shared) (σ2 : L2.St) (H : Hp) (G : Hp → Prop) (N : Shared → Prop), Inv Y pins' σ2 H s → tCl em cs σ2 H G → (∀ s' H', Inv Y pins' (wipe σ2 (heads cs)) H' s' → G H' → N s') → go s N)
    (fin : (∀ (P : Nat → Shared → Prop) (n : Nat), P n s → (∀ n s, P n s → TurnOf Y.prog Y.w Y.A Y.env R c.tg c.ifs (.ref it) (fun s3 => go s3 fun s' => ∃ m, m < n ∧ P m s') (fun s3 => ∃ m, m < n ∧ P m s3) s) → codeAny (model Y.prog Y.w) Y.A (.compLoop mk k (.ref it) (.ref D) Y.env) R s)) :
    codeAny (model Y.prog Y.w) Y.A (.compLoop mk k (.ref it) (.ref D) Y.env) R s := by
  obtain ⟨W, ⟨m0, w0⟩, turn⟩ := q
  have stat : ∀ {H' : Hp}, (∀ b ∈ fp, H' b = none) → ∀ b ∈ fp, FpOk Y pins H' b := fun hn b hb => ⟨hn b hb, (hf b hb).2⟩
  refine fin (fun n s' => ∃ i H', Inv Y pins (wipe σ c.V) H' s' ∧ tn i s'.heap ∧ (∀ b ∈ fp, H' b = none) ∧ W i n H') m0 ⟨0, H, I0, st, fun b hb => (hf b hb).1, w0⟩ ?_
  rintro n s5 ⟨i, H5, I5, st5, n5, w5⟩
  rcases turn i n H5 w5 with ⟨stop, qq⟩ | ⟨go5, Nx, hNx, step⟩
  · refine thnF (T.done Y rfl rfl rfl hc i pins s5 _ H5 (fun _ _ => False) I5 (stat n5) st5 stop) fun r s6 ⟨hr, I6⟩ => ?_
    subst hr
    exact hR s6 H5 I6 qq
  · refine thnF (T.item Y rfl rfl rfl hc i pins s5 _ H5 (fun _ _ => False) I5 (stat n5) st5 go5) fun r s6 ⟨u, hr, h6⟩ => ?_
    subst hr
    refine thnF h6 fun _ s7 ⟨x, H7, I7, r7, ym, st7, nm7⟩ => ?_
    have I7' := I7.pinned (stat nm7) (T.obj _ _ st7)
    refine thnY hx (ok.pg.run _ s7 _ H7 x u _ I7' r7 (step x H7 ym)) fun _ s8 ⟨σ8, H8, I8, hw8, q8⟩ => ?_
    refine thnY hx (ok.pt.run _ s8 σ8 H8 _ I8 q8) fun b s9 ⟨H9, I9, q9⟩ => ?_
    have pin' : ∀ {s' : Shared} {H' : Hp} {σ' : L2.St}, Inv Y (pins ++ pinsAt fp s7.heap) σ' H' s' → ∀ b ∈ fp, ∀ o, s7.heap.get? b = some o → s'.heap.get? b = some o ∧ H' b = none := fun I' b hb o e =>
      let kept := I'.pin (b, o) (List.mem_append_right _ (List.mem_append_right _ (mem_pinsAt hb e)))
      ⟨kept.1, kept.2.1⟩
    have back : ∀ {s' : Shared} {H' : Hp}, Inv Y (pins ++ pinsAt fp s7.heap) (wipe σ c.V) H' s' → Nx H' → ∃ m, m < n ∧ ∃ i H', Inv Y pins (wipe σ c.V) H' s' ∧ tn i s'.heap ∧ (∀ b ∈ fp, H' b = none) ∧ W i m H' := fun {s' H'} I' nx => by
      obtain ⟨m', hm, w'⟩ := hNx H' nx
      refine ⟨m', hm, i + 1, H', I'.unpinned, T.keep _ _ _ st7 fun b hb o e => (pin' I' b hb o e).1, fun b hb => ?_, w'⟩
      obtain ⟨o, e, _⟩ := T.obj _ _ st7 b hb
      exact (pin' I' b hb o e).2
    cases b with
    | false =>
      have q9 : Nx H9 := by simpa using q9
      show (if false = true then _ else _)
      rw [if_neg Bool.false_ne_true]
      exact back (back_wipe (V1 := []) (fun _ m => nomatch m) hw8 I9) q9
    | true =>
      have q9 : tCl em cs σ8 H9 Nx := by simpa using q9
      show (if true = true then _ else _)
      rw [if_pos rfl]
      exact hgo _ s9 σ8 H9 Nx _ I9 q9 fun s' H' I' nx => back (back_wipe hs hw8 I') nx
end
end DLC

namespace DLC
open PySem PySem.Spec L2
section
variable {Y : Cx}
/-- the emission of a list's item; of a dict's pair -/
def emL (D : Addr) (te : TE) : TEm := fun σ H G => te σ H fun y H4 => ∃ acc, H4 D = some (.lst acc) ∧ acc.length < sizeLine ∧ G (upd H4 D (.lst (acc ++ [y])))
def emK (D : Addr) (tk tv : TE) : TEm := fun σ H G => tk σ H fun y H4 => tv σ H4 fun z H5 => ∃ kvs k, y = kV k ∧ H5 D = some (.dK kvs) ∧ kvs.length < sizeLine ∧ G (upd H5 D (.dK (putK kvs k z)))
abbrev RW (Y : Cx) (pins : List (Addr × Obj)) (σ : L2.St) (V : List Nat) (F : Hp → Prop) : Result → Shared → Prop := fun r s' => (∃ f, r = .ok f) ∧ ∃ H', Inv Y pins (wipe σ V) H' s' ∧ F H'
theorem weak_wipe {pins : List (Addr × Obj)} {σ : L2.St} {H : Hp} {s : Shared} {V : List Nat} (I : Inv Y pins σ H s) : Inv Y pins (wipe σ V) H s :=
  I.weak (wipe_length σ V) fun j v e => (wipe_some e).1
theorem after_list (hx : Y.xe = fun _ _ => False) (hc : Y.calm = true) {elt : Expr} {gens : List Comprehension} {scope : Scope} {pos : Pos} {D : Addr} {te : TE} (he : PE Y elt te) :
    ∀ (cs : List Cl) (k : Nat), chain cs → (∀ c ∈ cs, ClOk Y c) → (∀ (j : Nat) (c : Cl), cs[j]? = some c → gens[k + 1 + j]? = some ⟨c.tg, c.iter, c.ifs, 0⟩) → gens.length = k + 1 + cs.length →
      AfterOk Y (.ListComp elt gens scope pos) D (emL D te) cs k
  | [], k, _, _, _, hlen => by
    intro c it fp tn J pins s σ H F hs ok hg I T st hf q
    have hg' : gens[k]? = some ⟨c.tg, c.iter, c.ifs, 0⟩ := hg
    refine loop_core (cs := []) hx hc hs ok I T st hf q (R := RW Y pins σ c.V F) (fun s' H' I' f => ⟨⟨_, rfl⟩, H', I', f⟩)
      (fun s N => wpAny (model Y.prog Y.w) Y.A (eval elt Y.env) (fun x s4 => wpAny (model Y.prog Y.w) Y.A (call (.builtin "list.append") [.ref D, x]) (fun _ s5 => N s5) (NB Y.prog Y.w Y.A Y.env (RW Y pins σ c.V F)) s4) (NB Y.prog Y.w Y.A Y.env (RW Y pins σ c.V F)) s) ?_ ?_
    · intro pins' s σ2 H G N I h hN
      refine thnY hx (he.run pins' s σ2 H _ I h) fun x s1 ⟨y, H1, I1, r1, acc, e1, z1, g1⟩ => ?_
      exact app_ok I1 e1 z1 r1 fun s2 I2 => hN s2 _ (weak_wipe I2) g1
    · intro P n hP turn
      exact loop_last hg' (by rw [List.getElem?_eq_none (by simp only [List.length_nil] at hlen; omega)]) P turn n hP
  | c1 :: cs, k, hch, hcl, hat, hlen => by
    intro c it fp tn J pins s σ H F hs ok hg I T st hf q
    have hg' : gens[k]? = some ⟨c.tg, c.iter, c.ifs, 0⟩ := hg
    have hg1 : gens[k + 1]? = some ⟨c1.tg, c1.iter, c1.ifs, 0⟩ := hat 0 c1 rfl
    have ok1 : ClOk Y c1 := hcl c1 List.mem_cons_self
    have ih := after_list hx hc (elt := elt) (gens := gens) (scope := scope) (pos := pos) (D := D) he cs (k + 1) hch.2 (fun d hd => hcl d (List.mem_cons_of_mem _ hd))
      (fun j d hd => by have := hat (j + 1) d (by simpa using hd); rw [show k + 1 + 1 + j = k + 1 + (j + 1) by omega]; exact this) (by rw [hlen, List.length_cons]; omega)
    refine loop_core (cs := c1 :: cs) hx hc hs ok I T st hf q (R := RW Y pins σ c.V F) (fun s' H' I' f => ⟨⟨_, rfl⟩, H', I', f⟩)
      (fun s N => wpAny (model Y.prog Y.w) Y.A (eval c1.iter Y.env) (fun x s4 => wpAny (model Y.prog Y.w) Y.A (pyIter x) (fun it1 s5 =>
        codeAny (model Y.prog Y.w) Y.A (.compStart (.ListComp elt gens scope pos) (k + 1) it1 (.ref D) Y.env) (fun r s' => (∃ f, r = .ok f) ∧ N s') s5) (NB Y.prog Y.w Y.A Y.env (RW Y pins σ c.V F)) s4) (NB Y.prog Y.w Y.A Y.env (RW Y pins σ c.V F)) s) ?_ ?_
    · intro pins' s σ2 H G N I h hN
      refine thnY hx (ok1.pi.run pins' s σ2 H _ I h) fun x s1 h1 => thnY hx h1 fun itv s2 h2 => ?_
      obtain ⟨it1, fp1, tn1, J1, H2, e, I2, T1, st2, f2, q2⟩ := h2
      subst e
      have loop := ih c1 it1 fp1 tn1 J1 pins' s2 σ2 H2 G hch.1 ok1 hg1 (weak_wipe I2) T1 st2 f2 q2
      refine codeAny_mono (start_at hg1 (fun _ _ _ _ z => nomatch z) loop (T1.self Y.A 0 _ _ _ st2 loop)) fun r s' hr => ?_
      obtain ⟨hf, H', I', g⟩ := hr
      exact ⟨hf, hN s' H' I' g⟩
    · intro P n hP turn
      exact loop_mid hg' hg1 ok1.fs P turn n hP
theorem after_dict (hx : Y.xe = fun _ _ => False) (hc : Y.calm = true) {kx vx : Expr} {gens : List Comprehension} {scope : Scope} {pos : Pos} {D : Addr} {em : TEm}
    (he : ∀ (pins' : List (Addr × Obj)) (s : Shared) (σ2 : L2.St) (H : Hp) (G : Hp → Prop) (N : Shared → Prop) (R : Result → Shared → Prop), Inv Y pins' σ2 H s → em σ2 H G → (∀ s' H', Inv Y pins' σ2 H' s' → G H' → N s') →
      wpAny (model Y.prog Y.w) Y.A (eval kx Y.env) (fun kv s4 => wpAny (model Y.prog Y.w) Y.A (eval vx Y.env) (fun vv s5 => wpAny (model Y.prog Y.w) Y.A (dictSet D kv vv) (fun _ s6 => N s6) (NB Y.prog Y.w Y.A Y.env R) s5) (NB Y.prog Y.w Y.A Y.env R) s4) (NB Y.prog Y.w Y.A Y.env R) s) :
    ∀ (cs : List Cl) (k : Nat), chain cs → (∀ c ∈ cs, ClOk Y c) → (∀ (j : Nat) (c : Cl), cs[j]? = some c → gens[k + 1 + j]? = some ⟨c.tg, c.iter, c.ifs, 0⟩) → gens.length = k + 1 + cs.length →
      AfterOk Y (.DictComp kx vx gens scope pos) D em cs k
  | [], k, _, _, _, hlen => by
    intro c it fp tn J pins s σ H F hs ok hg I T st hf q
    have hg' : gens[k]? = some ⟨c.tg, c.iter, c.ifs, 0⟩ := hg
    refine loop_core (cs := []) hx hc hs ok I T st hf q (R := RW Y pins σ c.V F) (fun s' H' I' f => ⟨⟨_, rfl⟩, H', I', f⟩)
      (fun s N => wpAny (model Y.prog Y.w) Y.A (eval kx Y.env) (fun kv s4 => wpAny (model Y.prog Y.w) Y.A (eval vx Y.env) (fun vv s5 => wpAny (model Y.prog Y.w) Y.A (dictSet D kv vv) (fun _ s6 => N s6) (NB Y.prog Y.w Y.A Y.env (RW Y pins σ c.V F)) s5) (NB Y.prog Y.w Y.A Y.env (RW Y pins σ c.V F)) s4) (NB Y.prog Y.w Y.A Y.env (RW Y pins σ c.V F)) s) ?_ ?_
    · intro pins' s σ2 H G N I h hN
      exact he pins' s σ2 H G N _ I h fun s' H' I' g => hN s' H' (weak_wipe I') g
    · intro P n hP turn
      exact loop_lastD hg' (by rw [List.getElem?_eq_none (by simp only [List.length_nil] at hlen; omega)]) P turn n hP
  | c1 :: cs, k, hch, hcl, hat, hlen => by
    intro c it fp tn J pins s σ H F hs ok hg I T st hf q
    have hg' : gens[k]? = some ⟨c.tg, c.iter, c.ifs, 0⟩ := hg
    have hg1 : gens[k + 1]? = some ⟨c1.tg, c1.iter, c1.ifs, 0⟩ := hat 0 c1 rfl
    have ok1 : ClOk Y c1 := hcl c1 List.mem_cons_self
    have ih := after_dict hx hc (kx := kx) (vx := vx) (gens := gens) (scope := scope) (pos := pos) (D := D) (em := em) he cs (k + 1) hch.2 (fun d hd => hcl d (List.mem_cons_of_mem _ hd))
      (fun j d hd => by have := hat (j + 1) d (by simpa using hd); rw [show k + 1 + 1 + j = k + 1 + (j + 1) by omega]; exact this) (by rw [hlen, List.length_cons]; omega)
    refine loop_core (cs := c1 :: cs) hx hc hs ok I T st hf q (R := RW Y pins σ c.V F) (fun s' H' I' f => ⟨⟨_, rfl⟩, H', I', f⟩)
      (fun s N => wpAny (model Y.prog Y.w) Y.A (eval c1.iter Y.env) (fun x s4 => wpAny (model Y.prog Y.w) Y.A (pyIter x) (fun it1 s5 =>
        codeAny (model Y.prog Y.w) Y.A (.compStart (.DictComp kx vx gens scope pos) (k + 1) it1 (.ref D) Y.env) (fun r s' => (∃ f, r = .ok f) ∧ N s') s5) (NB Y.prog Y.w Y.A Y.env (RW Y pins σ c.V F)) s4) (NB Y.prog Y.w Y.A Y.env (RW Y pins σ c.V F)) s) ?_ ?_
    · intro pins' s σ2 H G N I h hN
      refine thnY hx (ok1.pi.run pins' s σ2 H _ I h) fun x s1 h1 => thnY hx h1 fun itv s2 h2 => ?_
      obtain ⟨it1, fp1, tn1, J1, H2, e, I2, T1, st2, f2, q2⟩ := h2
      subst e
      have loop := ih c1 it1 fp1 tn1 J1 pins' s2 σ2 H2 G hch.1 ok1 hg1 (weak_wipe I2) T1 st2 f2 q2
      refine codeAny_mono (start_at hg1 (fun _ _ _ _ z => nomatch z) loop (T1.self Y.A 0 _ _ _ st2 loop)) fun r s' hr => ?_
      obtain ⟨hf, H', I', g⟩ := hr
      exact ⟨hf, hN s' H' I' g⟩
    · intro P n hP turn
      exact loop_midD hg' hg1 ok1.fs P turn n hP
end
end DLC
end

section
set_option maxRecDepth 100000
set_option maxHeartbeats 1000000
namespace DLC
open PySem PySem.Spec L2
section
variable {X : Cx}
/-- the block of a comprehension over X, by what is known of it -/
def IsBlk (X : Cx) (scope : Scope) (Y : Cx) : Prop :=
  ∃ (s : Shared) (H : Hp) (C : Addr) (cl : List (Str × Addr)) (fp : List Addr), Y = X.blk s H scope (compEnvC scope cl C X.env) fp
theorem comp_core {mk : Expr} {tg iter : Expr} {ifs : List Expr} {gs : List Comprehension} {scope : Scope} {own : List (Str × Nat)} {pos' : Pos} {wi : TI} {c : Cl} {cs : List Cl} {T : String} {dat : Data} {u0 : Addr → HO} {em : Addr → TEm}
    {pins : List (Addr × Obj)} {s : Shared} {σ : L2.St} {H : Hp} {Q : VK} {use : Option (Value → Sem Unit)} {Qf : Value → Shared → Prop}
    (hc : X.calm = true) (hN : X.N.Nodup) (I : Inv X pins σ H s) (hcl : clausesOf mk = ⟨tg, iter, ifs, 0⟩ :: gs) (hgn : ∀ a b d e, mk ≠ .GeneratorExp a b d e) (ok : BlkOk X.N X.env.scope scope own)
    (hi : PI X tg iter wi) (hs : ∀ x, foldedSetIterable iter X.env x = pure x) (ctg : c.tg = tg) (cit : c.iter = iter) (cif : c.ifs = ifs) (cV : c.V = own.map (·.2)) (hch : ∀ i ∈ heads cs, i ∈ c.V)
    (hblk : ∀ Y D, IsBlk X scope Y → ClOk Y c ∧ AfterOk Y mk D (em D) cs 0)
    (hnew : ∀ (s2 : Shared) (H2 : Hp), Inv X pins σ H2 s2 → Inv X pins σ (upd H2 s2.heap.objs.size (u0 s2.heap.objs.size)) { s2 with heap := s2.heap.push { cls := .type T, data := dat } })
    (hsz : ∀ (M : Model) (A : Around) (E : Value → Shared → Prop) (s2 : Shared) (R : Value → Shared → Prop), R (.ref s2.heap.objs.size) { s2 with heap := s2.heap.push { cls := .type T, data := dat } } → wpAny M A (newObj (.type T) dat) R E s2)
    (h : wi σ H fun J H1 => ∀ D, H1 D = none → tLoop (tCl (em D) cs) c J σ (upd H1 D (u0 D)) (fun H' => Q (.ref D) H'))
    (hRR : ∀ O C t m G, Inv X pins σ G t → Q (.ref O) G → t.heap.Ns C m → FpOk X pins G C → compPost (model X.prog X.w) X.A X.xe use Qf (.ref O) C (.ok .next) t) :
    wpAny (model X.prog X.w) X.A (comprehension mk scope X.env pos' (newObj (.type T) dat) false (eval iter X.env) use) Qf X.xe s := by
  have hfree : ∀ y ∈ scope.names, y.2 = .free → ∃ k, X.env.cells.lookup y.1 = some k := fun y hy e =>
    (ok.free y hy e).elim (fun k => I.ok.has _ (.inl k)) (fun k => I.ok.has _ (.inr k))
  refine wpAny_comprehension_free (use := use) hcl hs (closure_ok hfree) ok.kind (fun y hy e => (ok.uniq y hy).trans (congrArg some e))
    (thn (hi.run pins s σ H _ I h) fun xv s1 fx => thn fx fun itv s2 h2 => ?_)
  obtain ⟨it, fp, tn, J, H2, e, I2, TT, st2, f2, q⟩ := h2
  subst e
  refine hsz _ _ _ _ _ (newEnv_comp ?_)
  generalize atD : s2.heap.objs.size = D
  have noD : H2 D = none := I2.hok.fresh (Nat.le_of_eq atD)
  have w := q D noD
  have I3 := hnew s2 H2 I2
  rw [atD] at I3
  generalize hs3 : ({ s2 with heap := s2.heap.push { cls := .type T, data := dat } } : Shared) = s3 at I3
  have h3 : s3.heap = s2.heap.push { cls := .type T, data := dat } := by rw [← hs3]
  have lt2 : ∀ b ∈ fp, b < s2.heap.objs.size := fun b hb =>
    let ⟨_, e, _⟩ := TT.obj _ _ st2 b hb
    Heap.lt_size e
  have f3 : ∀ b ∈ fp, FpOk X pins (upd H2 D (u0 D)) b ∧ b < s3.heap.objs.size := fun b hb => by
    have l := lt2 b hb
    constructor
    · refine ⟨?_, (f2 b hb).2⟩
      rw [upd_ne (atD ▸ Nat.ne_of_lt l)]
      exact (f2 b hb).1
    · rw [h3, Heap.size_push]
      exact Nat.lt_succ_of_lt l
  have st3 : tn 0 s3.heap := TT.keep _ _ _ st2 fun b _ o e => h3 ▸ Heap.get?_push_of_some _ e
  have I4 := block_start I3 ok hN f3
  obtain ⟨okc, aft⟩ := hblk (X.blk s3 (upd H2 D (u0 D)) scope (compEnvC scope (cellsFrom (s3.heap.objs.size + 1) scope.names (cloFrom X.env.cells scope.names [])) s3.heap.objs.size X.env) fp) D ⟨_, _, _, _, _, rfl⟩
  have f4 : ∀ b ∈ fp, FpOk (X.blk s3 (upd H2 D (u0 D)) scope (compEnvC scope (cellsFrom (s3.heap.objs.size + 1) scope.names (cloFrom X.env.cells scope.names [])) s3.heap.objs.size X.env) fp) [] (upd H2 D (u0 D)) b := fun b hb =>
    ⟨(f3 b hb).1.1, (I4.ok.exf b hb).1, I4.ok.exfs b hb, .inl hb, fun x z e => (I4.ok.exf b hb).2 x z e, fun p hp => absurd (show p ∈ ([] : List (Addr × Obj)) ++ [] from hp) (by simp)⟩
  rw [← cV] at I4
  have st4 : tn 0 (pushCells (s3.heap.push { cls := .type "dict", data := .dict #[] }) scope.names) := TT.keep _ _ _ st3 fun b _ o e => pushCells_keeps _ _ _ _ (Heap.get?_push_of_some _ e)
  have hg0 : (clausesOf mk)[0]? = some ⟨c.tg, c.iter, c.ifs, 0⟩ := by rw [hcl, ctg, cit, cif]; rfl
  have loop := aft c it fp tn J [] _ σ _ _ hch okc hg0 I4 (ctg ▸ TT) st4 f4 w
  have fin : ∀ r s', RW (X.blk s3 (upd H2 D (u0 D)) scope (compEnvC scope (cellsFrom (s3.heap.objs.size + 1) scope.names (cloFrom X.env.cells scope.names [])) s3.heap.objs.size X.env) fp) [] σ c.V (fun H' => Q (.ref D) H') r s' →
      compPost (model X.prog X.w) X.A X.xe use Qf (.ref D) s3.heap.objs.size r s' := fun r s6 hr => by
    obtain ⟨⟨f, rfl⟩, H6, I6, q6⟩ := hr
    have I7 : Inv X pins σ H6 s6 := I3.call' (ch := fp) I6.os I6.base I6.hok I6.bare fun b hb => ⟨(f3 b hb).1.2.2.2.1, (f3 b hb).1.2.1, (f3 b hb).1.2.2.2.2.1, (f3 b hb).1.2.2.2.2.2⟩
    obtain ⟨m, hn, _⟩ := I6.loc
    have := hRR D s3.heap.objs.size s6 m H6 I7 q6 hn (I3.fpOk (Nat.le_refl _) I6.free)
    cases use <;> exact this
  rw [← hs3] at loop fin ⊢
  exact codeAny_mono (start_at hg0 hgn loop (TT.self _ 0 _ _ _ (by rw [← hs3] at st4; exact st4) loop)) fin
end
end DLC
end

section
set_option maxRecDepth 100000
set_option maxHeartbeats 1000000
namespace DL
open PySem PySem.Spec L2
/-- v may be read as the tree d, here and now -/
def RepR (K : PySem.W.Frag) (M : Addr → Prop) (H : Hp) : D → V → Prop
  | .tup l, v => ∃ a vs, v = .ref a ∧ SqT K H a vs ∧ Reps K M H l vs
  | .lst l, v => ∃ a vs, v = .ref a ∧ SqL K H a vs ∧ Reps K M H l vs
  | .dk l, v => ∃ a vs, v = .ref a ∧ Rd H a (.dK vs) ∧ RepK K M H l vs
  | .dt l, v => ∃ a vs, v = .ref a ∧ Rd H a (.dT vs) ∧ RepT K M H l vs
  | .nd P w l, v => ∃ a xs, v = .ref a ∧ NdO P w H a xs ∧ RepN K M H l xs
  | .rlst l, v => ∃ a vs, v = .ref a ∧ SqL K H a vs ∧ Reps K M H l vs
  | .ins C l, v => ∃ a dx vs, v = .ref a ∧ H a = some (.ins C dx vs) ∧ RepF K M H l vs
  | d, v => Rep K M H d v
theorem Rep.r {K : PySem.W.Frag} {M : Addr → Prop} {H : Hp} {d : D} {v : V} (h : Rep K M H d v) : RepR K M H d v := by
  cases d with
  | tup l => obtain ⟨a, vs, e, r, q⟩ := h; exact ⟨a, vs, e, r.elim (fun r => .inl (.inl r.2)) (fun r => r H), q⟩
  | lst l => obtain ⟨a, vs, e, r, q⟩ := h; exact ⟨a, vs, e, .inl (.inl r.2), q⟩
  | dk l => obtain ⟨a, vs, e, n, r, q⟩ := h; exact ⟨a, vs, e, r, q⟩
  | dt l => obtain ⟨a, vs, e, n, r, q⟩ := h; exact ⟨a, vs, e, r, q⟩
  | nd P w l => obtain ⟨a, xs, e, n, r, q⟩ := h; exact ⟨a, xs, e, r, q⟩
  | rlst l => obtain ⟨a, vs, e, r, q⟩ := h; exact ⟨a, vs, e, r.elim (fun ⟨_, o, z⟩ => .inl (.inr ⟨o, z⟩)) (fun z => z H), q⟩
  | ins C l => obtain ⟨a, dx, vs, e, n, r, q⟩ := h; exact ⟨a, dx, vs, e, r, q⟩
  | _ => exact h
theorem OOk.r {K : PySem.W.Frag} {M : Addr → Prop} {H : Hp} {d : D} {a : Addr} (h : OOk K M H a d) : RepR K M H d (.ref a) := by
  cases d with
  | lst l => obtain ⟨vs, r, q⟩ := h; exact ⟨a, vs, rfl, .inl (.inl r), q⟩
  | dk l => obtain ⟨vs, r, q⟩ := h; exact ⟨a, vs, rfl, .inl r, q⟩
  | dt l => obtain ⟨vs, r, q⟩ := h; exact ⟨a, vs, rfl, .inl r, q⟩
  | nd P w l => obtain ⟨xs, r, q⟩ := h; exact ⟨a, xs, rfl, r, q⟩
  | ins C l => obtain ⟨dx, vs, r, q⟩ := h; exact ⟨a, dx, vs, rfl, r, q⟩
  | _ => exact h.elim
/-- an expression whose value is read at once -/
structure ER (X : Cx) (W : WX) (Γ : List Sl) (e : Expr) (Φ : D → List Sl → Prop) (Ψ : Ex) : Prop where
  run : ∀ (E : Entry) (M : Addr → Prop) (σ : L2.St) (H : Hp) (Q : VK), AtM X.K E M Γ σ H → ExD X E W Ψ σ → (∀ d Γ' v H', Φ d Γ' → AtM X.K E M Γ' σ H' → Kp M H H' → RepR X.K M H' d v → Q v H') → we X e σ H Q
section
variable {X : Cx} {W : WX} {Γ : List Sl} {Φ : D → List Sl → Prop} {Ψ : Ex} {pos : Pos} {P : D → Prop}
theorem er_ev {e : Expr} (h : EV X W Γ e Φ Ψ) : ER X W Γ e Φ Ψ := ⟨fun E M σ H Q A x q => h.run E M σ H Q A x fun d G v H' p A' k r => q d G v H' p A' k r.r⟩
theorem er_own {i : Nat} {x : Str} {p : Addr} {d : D} (hΓ : Γ[i]? = some (.own p d)) (hN : X.N[i]? = some x) (hv : Vis X.env.scope x) (h : Φ d Γ) (hd : (x == ("__debug__" : Str)) = false := by decide)
    (hcd : (x == ("__classdict__" : Str)) = false := by decide) : ER X W Γ (.Name x pos) Φ Ψ :=
  ⟨fun E M σ H Q A _ q => by
    obtain ⟨e, m, o⟩ := A.get i _ hΓ
    exact ⟨_, pe_var hN hv hd hcd, .ref p, e, q d Γ _ H h A .refl o.r⟩⟩

/-! ### displays -/
theorem ea_nil {Φ : List D → List Sl → Prop} (h : Φ [] Γ) : EA X W Γ [] Φ Ψ := ⟨fun E M σ H Q A x q => ⟨_, pa_nil, q [] Γ [] H h A .refl rfl⟩⟩
theorem ea_cons {e : Expr} {es : List Expr} {Φ : List D → List Sl → Prop} (h : EV X W Γ e (fun d Γ1 => EA X W Γ1 es (fun ds Γ2 => Φ (d :: ds) Γ2) Ψ) Ψ)
    (hs : starEach (e :: es) X.env = (false, eval e X.env) :: starEach es X.env := by rfl) : EA X W Γ (e :: es) Φ Ψ := by
  refine ⟨fun E M σ H Q A x q => ⟨_, pa_cons pe_we pa_wa hs, ?_⟩⟩
  refine h.run E M σ H _ A x fun d Γ1 v H1 p1 A1 k1 r1 => ?_
  exact p1.run E M σ H1 _ A1 x fun ds Γ2 vs H2 p2 A2 k2 r2 => q (d :: ds) Γ2 (v :: vs) H2 p2 A2 (k1.trans k2) ⟨v, vs, rfl, r1.mv k2.mv, r2⟩
theorem own_ne {K : PySem.W.Frag} {E : Entry} {M : Addr → Prop} {σ : L2.St} {H : Hp} (A : AtM K E M Γ σ H) {p : Addr} (h : H p = none) : ∀ (j : Nat) (x : D), Γ[j]? ≠ some (.own p x) := fun j x e => A.fresh h (A.get j _ e).2.1
theorem ev_tup {es : List Expr} {x1} (h : EA X W Γ es (fun ds Γ1 => ds.length ≤ 1000 ∧ Φ (.tup ds) Γ1) Ψ) : EV X W Γ (.Tuple es x1 pos) Φ Ψ := by
  refine ⟨fun E M σ H Q A x q => ⟨_, pe_tup pa_wa, ?_⟩⟩
  refine h.run E M σ H _ A x fun ds Γ1 vs H1 hp A1 k1 r1 => ⟨?_, fun p np => ?_⟩
  · rw [r1.length]; exact Nat.le_of_lt (small1000 hp.1)
  · have g : Gr H1 (upd H1 p (.tup vs)) := Gr.upd np
    exact q _ Γ1 _ _ hp.2 (A1.grow g) (k1.trans g.kp) ⟨p, vs, rfl, .inl ⟨A1.fresh np, upd_same⟩, r1.mv g.kp.mv⟩
theorem ef_lst {es : List Expr} (h : EA X W Γ es (fun ds Γ1 => ds.length ≤ 1000 ∧ Φ (.lst ds) Γ1) Ψ) : EF X W Γ (.List es pos) Φ Ψ := by
  refine ⟨fun E M σ H Q A x q => ⟨_, pe_lst pa_wa, ?_⟩⟩
  refine h.run E M σ H _ A x fun ds Γ1 vs H1 hp A1 k1 r1 => ⟨?_, fun p np => ?_⟩
  · rw [r1.length]; exact Nat.le_of_lt (small1000 hp.1)
  · have g : Gr H1 (upd H1 p (.lst vs)) := Gr.upd np
    exact q _ Γ1 p _ hp.2 (A1.fresh np) (A1.alloc np g (Ob.upd fun _ z => nomatch z)) (k1.trans g.kp) ⟨vs, upd_same, r1.mv (mv_new np g)⟩ (own_ne A1 np)
theorem ev_lst {es : List Expr} (h : EA X W Γ es (fun ds Γ1 => ds.length ≤ 1000 ∧ Φ (.lst ds) Γ1) Ψ) : EV X W Γ (.List es pos) Φ Ψ := (ef_lst h).ev
theorem ef_dnew (h : Φ (.dk []) Γ) : EF X W Γ (.Dict [] [] pos) Φ Ψ := by
  refine ⟨fun E M σ H Q A x q => ⟨_, pe_dnewK, fun p np => ?_⟩⟩
  have g : Gr H (upd H p (.dK [])) := Gr.upd np
  exact q _ Γ p _ h (A.fresh np) (A.alloc np g (Ob.upd fun _ z => nomatch z)) g.kp ⟨[], upd_same, rfl⟩ (own_ne A np)

/-! ### subscripts -/
def wix (X : Cx) : R2 := fun x y H Q => ∃ r, IxR X r ∧ r x y H Q
theorem ixr_wix : IxR X (wix X) := fun va sl pins s σ H x y v u Q I rx ry ⟨_, h, q⟩ e => h va sl pins s σ H x y v u Q I rx ry q e
structure IxD (X : Cx) (da db : D) (P : D → Prop) : Prop where
  run : ∀ (M : Addr → Prop) (H : Hp) (va vb : V) (Q : VK), RepR X.K M H da va → Rep X.K M H db vb → (∀ d v, P d → Rep X.K M H d v → Q v H) → wix X va vb H Q
theorem ev_ix {a b : Expr} (ha : EV X W Γ a (fun da Γ1 => EV X W Γ1 b (fun db Γ2 => IxD X da db (fun d => Φ d Γ2)) Ψ) Ψ) (hs : PlainIx b := by intro _ _; rfl) : EV X W Γ (.Subscript a b pos) Φ Ψ := by
  refine ⟨fun E M σ H Q A x q => ⟨_, pe_ix ixr_wix pe_we pe_we hs, ?_⟩⟩
  refine ha.run E M σ H _ A x fun da Γ1 va H1 hb A1 k1 ra => ?_
  refine hb.run E M σ H1 _ A1 x fun db Γ2 vb H2 ho A2 k2 rb => ?_
  exact ho.run M H2 va vb _ (ra.mv k2.mv).r rb fun d v p r => q d Γ2 v H2 p A2 (k1.trans k2) r
theorem ev_ixo {i : Nat} {x : Str} {p0 : Pos} {p : Addr} {d0 : D} {b : Expr} (hΓ : Γ[i]? = some (.own p d0)) (hN : X.N[i]? = some x) (hv : Vis X.env.scope x)
    (hb : EV X W Γ b (fun db Γ2 => ∃ c, Γ2[i]? = some (.own p c) ∧ IxD X c db (fun d => Φ d Γ2)) Ψ) (hs : PlainIx b := by intro _ _; rfl) (hd : (x == ("__debug__" : Str)) = false := by decide)
    (hcd : (x == ("__classdict__" : Str)) = false := by decide) : EV X W Γ (.Subscript (.Name x p0) b pos) Φ Ψ := by
  refine ⟨fun E M σ H Q A xx q => ⟨_, pe_ix ixr_wix (pe_var hN hv hd hcd) pe_we hs, ?_⟩⟩
  refine ⟨.ref p, (A.get i _ hΓ).1, ?_⟩
  refine hb.run E M σ H _ A xx fun db Γ2 vb H2 ho A2 k2 rb => ?_
  obtain ⟨c, hc, ho⟩ := ho
  exact ho.run M H2 _ vb _ (A2.get i _ hc).2.2.r rb fun d v p r => q d Γ2 v H2 p A2 k2 r
theorem Reps.atI {K : PySem.W.Frag} {M : Addr → Prop} {H : Hp} {ds : List D} {vs : List V} {i : Int} {d : D} (h : Reps K M H ds vs) (e : L2.atI ds i = some d) : ∃ v, L2.atI vs i = some v ∧ Rep K M H d v := by
  unfold L2.atI at e ⊢
  rw [h.length]
  cases c : ixN ds.length i with
  | none => rw [c] at e; cases e
  | some j =>
    rw [c] at e
    exact h.get e
theorem ix_l {ds : List D} {i : Int} {d : D} (e : L2.atI ds i = some d) (h : P d) : IxD X (.lst ds) (.int i) P := ⟨fun M H va vb Q ra rb q => by
  obtain ⟨a, vs, rfl, hs, rr⟩ := ra
  obtain ⟨v, hv, r⟩ := rr.atI e
  exact ⟨_, ix_list, a, vs, i, v, rfl, rb, hs, hv, q d v h r⟩⟩
theorem ix_t {ds : List D} {i : Int} {d : D} (e : L2.atI ds i = some d) (h : P d) : IxD X (.tup ds) (.int i) P := ⟨fun M H va vb Q ra rb q => by
  obtain ⟨a, vs, rfl, hs, rr⟩ := ra
  obtain ⟨v, hv, r⟩ := rr.atI e
  exact ⟨_, ix_tup, a, vs, i, v, rfl, rb, hs, hv, q d v h r⟩⟩
theorem ix_s {z : Str} {i : Int} {c : Nat} (l : z.length ≤ sizeLine) (e : L2.atI z.cps.toList i = some c) (h : P (.str ⟨#[c]⟩)) : IxD X (.str z) (.int i) P := ⟨fun M H va vb Q ra rb q => by
  have ra : va = .str z := ra
  exact ⟨_, L2.ix_str, z, i, c, ra, rb, l, e, q _ _ h rfl⟩⟩

/-! ### slices -/
theorem cut_reps {K : PySem.W.Frag} {M : Addr → Prop} {H : Hp} {ds : List D} {vs : List V} (h : Reps K M H ds vs) (lo hi : Option Int) :
    Reps K M H ((ds.drop (HT.sIx ds.length 0 lo)).take (HT.sIx ds.length ds.length hi - HT.sIx ds.length 0 lo)) (cutV vs lo hi) := by
  unfold cutV
  rw [h.length]
  exact (h.drop _).take _
def wsl (X : Cx) : V → Option Int → Option Int → Hp → VK → Prop := fun x lo hi H Q => ∃ r, SlR X r ∧ r x lo hi H Q
theorem slr_wsl : SlR X (wsl X) := fun pins s σ H x v vl vu lo hi sl Q I rx hs pl pu ⟨_, h, q⟩ => h pins s σ H x v vl vu lo hi sl Q I rx hs pl pu q
def wpo (X : Cx) (e : Option Expr) : TO := fun σ H Q => ∃ t, PO X e t ∧ t σ H Q
theorem po_wpo {e : Option Expr} : PO X e (wpo X e) := ⟨fun pins s σ H Q I ⟨_, h, q⟩ => h.run pins s σ H Q I q⟩
/-- a part of a slice -/
structure EO (X : Cx) (W : WX) (Γ : List Sl) (e : Option Expr) (Φ : Option Int → List Sl → Prop) (Ψ : Ex) : Prop where
  run : ∀ (E : Entry) (M : Addr → Prop) (σ : L2.St) (H : Hp) (Q : Option Int → Hp → Prop), AtM X.K E M Γ σ H → ExD X E W Ψ σ → (∀ o Γ' H', Φ o Γ' → AtM X.K E M Γ' σ H' → Kp M H H' → Q o H') → wpo X e σ H Q
theorem eo_none {Φ : Option Int → List Sl → Prop} (h : Φ none Γ) : EO X W Γ none Φ Ψ := ⟨fun E M σ H Q A x q => ⟨_, po_none, q none Γ H h A .refl⟩⟩
theorem eo_some {e : Expr} {Φ : Option Int → List Sl → Prop} (h : EV X W Γ e (fun d Γ1 => ∃ i, d = .int i ∧ Φ (some i) Γ1) Ψ) : EO X W Γ (some e) Φ Ψ :=
  ⟨fun E M σ H Q A x q => ⟨_, po_some pe_we, h.run E M σ H _ A x fun d Γ1 v H1 p A1 k1 r => by
    obtain ⟨i, rfl, p⟩ := p
    exact ⟨i, r, q _ Γ1 H1 p A1 k1⟩⟩⟩
/-- what a slice of d gives: P of the tree; it may be new -/
structure SlD (X : Cx) (d : D) (lo hi : Option Int) (P : D → Prop) : Prop where
  run : ∀ (M : Addr → Prop) (H : Hp) (v : V) (Q : VK), (∀ b, M b → Ob (H b)) → RepR X.K M H d v → (∀ d' v' H', P d' → Gr H H' → Rep X.K M H' d' v' → Q v' H') → wsl X v lo hi H Q
theorem ltb {i n : Nat} (h : Nat.blt i n = true) : i < n := Nat.le_of_ble_eq_true h
def cutD {α : Type} (l : List α) (lo hi : Option Int) : List α := (l.drop (HT.sIx l.length 0 lo)).take (HT.sIx l.length l.length hi - HT.sIx l.length 0 lo)
theorem notM {M : Addr → Prop} {H : Hp} (dm : ∀ b, M b → Ob (H b)) {p : Addr} (np : H p = none) : ¬ M p := fun m => by
  obtain ⟨o, e⟩ := dm p m
  rw [np] at e; cases e
theorem sl_l {ds : List D} {lo hi : Option Int} (h : P (.lst (cutD ds lo hi))) : SlD X (.lst ds) lo hi P := ⟨fun M H v Q dm r q => by
  obtain ⟨a, vs, rfl, hs, rr⟩ := r
  refine ⟨_, sl_list, a, vs, rfl, hs, fun p np => ?_⟩
  exact q _ _ _ h (Gr.upd np) ⟨p, _, rfl, ⟨notM dm np, upd_same⟩, (cut_reps rr lo hi).mv (Gr.upd np).kp.mv⟩⟩
theorem sl_rl {ds : List D} {lo hi : Option Int} (h : P (.lst (cutD ds lo hi))) : SlD X (.rlst ds) lo hi P := ⟨fun M H v Q dm r q => by
  obtain ⟨a, vs, rfl, hs, rr⟩ := r
  refine ⟨_, sl_list, a, vs, rfl, hs, fun p np => ?_⟩
  exact q _ _ _ h (Gr.upd np) ⟨p, _, rfl, ⟨notM dm np, upd_same⟩, (cut_reps rr lo hi).mv (Gr.upd np).kp.mv⟩⟩
theorem sl_t {ds : List D} {lo hi : Option Int} (hw : ¬ (HT.sIx ds.length 0 lo = 0 ∧ HT.sIx ds.length ds.length hi = ds.length)) (h : P (.tup (cutD ds lo hi))) : SlD X (.tup ds) lo hi P := ⟨fun M H v Q dm r q => by
  obtain ⟨a, vs, rfl, hs, rr⟩ := r
  refine ⟨_, L2.sl_tup, a, vs, rfl, hs, by rw [rr.length]; exact hw, fun p np => ?_⟩
  exact q _ _ _ h (Gr.upd np) ⟨p, _, rfl, .inl ⟨notM dm np, upd_same⟩, (cut_reps rr lo hi).mv (Gr.upd np).kp.mv⟩⟩
theorem sl_s {z : Str} {lo hi : Option Int} (l : z.length ≤ sizeLine) (h : P (.str (cutS z lo hi))) : SlD X (.str z) lo hi P := ⟨fun M H v Q dm r q =>
  ⟨_, L2.sl_str, z, r, l, q _ _ _ h .refl rfl⟩⟩
theorem ev_sl {e : Expr} {lo hi : Option Expr} {p2 : Pos} (h : EV X W Γ e (fun d Γ1 => EO X W Γ1 lo (fun l Γ2 => EO X W Γ2 hi (fun u Γ3 => SlD X d l u (fun d' => Φ d' Γ3)) Ψ) Ψ) Ψ) : EV X W Γ (.Subscript e (.Slice lo hi none p2) pos) Φ Ψ := by
  refine ⟨fun E M σ H Q A x q => ⟨_, pe_slice slr_wsl pe_we po_wpo po_wpo, ?_⟩⟩
  refine h.run E M σ H _ A x fun d Γ1 v H1 p1 A1 k1 r1 => ?_
  refine p1.run E M σ H1 _ A1 x fun l Γ2 H2 p2 A2 k2 => ?_
  refine p2.run E M σ H2 _ A2 x fun u Γ3 H3 p3 A3 k3 => ?_
  exact p3.run M H3 v _ A3.dom ((r1.mv k2.mv).mv k3.mv).r fun d' v' H4 p4 g r => q d' Γ3 v' H4 p4 (A3.grow g) (k1.trans (k2.trans (k3.trans g.kp))) r
/-- of one's own list; what its parts do leaves it as it is -/
theorem ev_slo {i : Nat} {x : Str} {p0 : Pos} {p : Addr} {d0 : D} {lo hi : Option Expr} {p2 : Pos} (hΓ : Γ[i]? = some (.own p d0)) (hN : X.N[i]? = some x) (hv : Vis X.env.scope x)
    (h : EO X W Γ lo (fun l Γ2 => EO X W Γ2 hi (fun u Γ3 => ∃ c, Γ3[i]? = some (.own p c) ∧ SlD X c l u (fun d' => Φ d' Γ3)) Ψ) Ψ) (hd : (x == ("__debug__" : Str)) = false := by decide)
    (hcd : (x == ("__classdict__" : Str)) = false := by decide) : EV X W Γ (.Subscript (.Name x p0) (.Slice lo hi none p2) pos) Φ Ψ := by
  refine ⟨fun E M σ H Q A xx q => ⟨_, pe_slice slr_wsl (pe_var hN hv hd hcd) po_wpo po_wpo, ?_⟩⟩
  refine ⟨.ref p, (A.get i _ hΓ).1, ?_⟩
  refine h.run E M σ H _ A xx fun l Γ2 H2 p2 A2 k2 => ?_
  refine p2.run E M σ H2 _ A2 xx fun u Γ3 H3 p3 A3 k3 => ?_
  obtain ⟨c, hc, p3⟩ := p3
  exact p3.run M H3 _ _ A3.dom (A3.get i _ hc).2.2.r fun d' v' H4 p4 g r => q d' Γ3 v' H4 p4 (A3.grow g) (k2.trans (k3.trans g.kp)) r

/-! ### built-in functions -/
def wca (X : Cx) (f : Value) : List V → Hp → VK → Prop := fun xs H Q => ∃ r, CallR X f r ∧ r xs H Q
theorem car_wca {f : Value} : CallR X f (wca X f) := fun pins s σ H xs us Q I r ⟨_, h, q⟩ => h pins s σ H xs us Q I r q
/-- of one thing that is read; of several values -/
structure C1D (X : Cx) (f : Value) (d : D) (P : D → Prop) : Prop where
  run : ∀ (M : Addr → Prop) (H : Hp) (v : V) (Q : VK), (∀ b, M b → Ob (H b)) → RepR X.K M H d v → (∀ d' v' H', P d' → Gr H H' → Rep X.K M H' d' v' → Q v' H') → wca X f [v] H Q
structure CnD (X : Cx) (f : Value) (ds : List D) (P : D → Prop) : Prop where
  run : ∀ (M : Addr → Prop) (H : Hp) (vs : List V) (Q : VK), (∀ b, M b → Ob (H b)) → Reps X.K M H ds vs → (∀ d' v' H', P d' → Gr H H' → Rep X.K M H' d' v' → Q v' H') → wca X f vs H Q
theorem ev_b1 {id : String} {x : Str} {p0 : Pos} {e : Expr} (hg : Gl X x) (hm : X.mg x = none) (hv : bootBuiltins x = some (.builtin id)) (h : ER X W Γ e (fun d Γ1 => C1D X (.builtin id) d (fun d' => Φ d' Γ1)) Ψ)
    (hn : x ≠ "__name__" := by decide) (hdb : (x == ("__debug__" : Str)) = false := by decide) (hs : starEach [e] X.env = (false, eval e X.env) :: starEach [] X.env := by rfl) (hpl : (backTo pos (starEach [] X.env)).any (·.1) = false := by rfl) : EV X W Γ (.Call (.Name x p0) [e] [] pos) Φ Ψ := by
  refine ⟨fun E M σ H Q A xx q => ⟨_, pe_callB car_wca hg hm hv (pa_cons pe_we pa_nil hs) hn hdb hs hpl, ?_⟩⟩
  refine h.run E M σ H _ A xx fun d Γ1 v H1 p1 A1 k1 r1 => ?_
  exact p1.run M H1 v _ A1.dom r1 fun d' v' H2 p2 g r => q d' Γ1 v' H2 p2 (A1.grow g) (k1.trans g.kp) r
theorem ev_t1 {T : String} {x : Str} {p0 : Pos} {e : Expr} (hg : Gl X x) (hm : X.mg x = none) (hv : bootBuiltins x = some (.type T)) (h : ER X W Γ e (fun d Γ1 => C1D X (.type T) d (fun d' => Φ d' Γ1)) Ψ)
    (hn : x ≠ "__name__" := by decide) (hdb : (x == ("__debug__" : Str)) = false := by decide) (hs : starEach [e] X.env = (false, eval e X.env) :: starEach [] X.env := by rfl) (hpl : (backTo pos (starEach [] X.env)).any (·.1) = false := by rfl) : EV X W Γ (.Call (.Name x p0) [e] [] pos) Φ Ψ := by
  refine ⟨fun E M σ H Q A xx q => ⟨_, pe_callTy car_wca hg hm hv (pa_cons pe_we pa_nil hs) hn hdb hs hpl, ?_⟩⟩
  refine h.run E M σ H _ A xx fun d Γ1 v H1 p1 A1 k1 r1 => ?_
  exact p1.run M H1 v _ A1.dom r1 fun d' v' H2 p2 g r => q d' Γ1 v' H2 p2 (A1.grow g) (k1.trans g.kp) r
theorem ev_bn {id : String} {x : Str} {p0 : Pos} {e : Expr} {es : List Expr} (hg : Gl X x) (hm : X.mg x = none) (hv : bootBuiltins x = some (.builtin id)) (h : EA X W Γ (e :: es) (fun ds Γ1 => CnD X (.builtin id) ds (fun d' => Φ d' Γ1)) Ψ)
    (hn : x ≠ "__name__" := by decide) (hdb : (x == ("__debug__" : Str)) = false := by decide) (hs : starEach (e :: es) X.env = (false, eval e X.env) :: starEach es X.env := by rfl) (hpl : (backTo pos (starEach es X.env)).any (·.1) = false := by rfl) :
    EV X W Γ (.Call (.Name x p0) (e :: es) [] pos) Φ Ψ := by
  refine ⟨fun E M σ H Q A xx q => ⟨_, pe_callB car_wca hg hm hv pa_wa hn hdb hs hpl, ?_⟩⟩
  refine h.run E M σ H _ A xx fun ds Γ1 vs H1 p1 A1 k1 r1 => ?_
  exact p1.run M H1 vs _ A1.dom r1 fun d' v' H2 p2 g r => q d' Γ1 v' H2 p2 (A1.grow g) (k1.trans g.kp) r
theorem c_len_l {ds : List D} (h : P (.int ds.length)) : C1D X (.builtin "len") (.lst ds) P := ⟨fun M H v Q dm r q => by
  obtain ⟨a, vs, rfl, hs, rr⟩ := r
  exact ⟨_, call_len_seq, a, vs, rfl, .inl hs, by rw [rr.length]; exact q _ _ _ h .refl rfl⟩⟩
theorem c_len_t {ds : List D} (h : P (.int ds.length)) : C1D X (.builtin "len") (.tup ds) P := ⟨fun M H v Q dm r q => by
  obtain ⟨a, vs, rfl, hs, rr⟩ := r
  exact ⟨_, call_len_seq, a, vs, rfl, .inr hs, by rw [rr.length]; exact q _ _ _ h .refl rfl⟩⟩
theorem c_len_s {z : Str} (l : z.length ≤ sizeLine) (h : P (.int z.length)) : C1D X (.builtin "len") (.str z) P := ⟨fun M H v Q dm r q =>
  ⟨_, call_len_str, z, by rw [show v = .str z from r], l, q _ _ _ h .refl rfl⟩⟩
theorem c_list_l {ds : List D} (h : P (.lst ds)) : C1D X (.type "list") (.lst ds) P := ⟨fun M H v Q dm r q => by
  obtain ⟨a, vs, rfl, hs, rr⟩ := r
  refine ⟨_, call_list_of, a, vs, rfl, .inl hs, fun p np => ?_⟩
  exact q _ _ _ h (Gr.upd np) ⟨p, _, rfl, ⟨notM dm np, upd_same⟩, rr.mv (Gr.upd np).kp.mv⟩⟩
theorem c_list_t {ds : List D} (h : P (.lst ds)) : C1D X (.type "list") (.tup ds) P := ⟨fun M H v Q dm r q => by
  obtain ⟨a, vs, rfl, hs, rr⟩ := r
  refine ⟨_, call_list_of, a, vs, rfl, .inr hs, fun p np => ?_⟩
  exact q _ _ _ h (Gr.upd np) ⟨p, _, rfl, ⟨notM dm np, upd_same⟩, rr.mv (Gr.upd np).kp.mv⟩⟩
theorem c_tuple_l {ds : List D} (h : P (.tup ds)) : C1D X (.type "tuple") (.lst ds) P := ⟨fun M H v Q dm r q => by
  obtain ⟨a, vs, rfl, hs, rr⟩ := r
  refine ⟨_, call_tuple_of, a, vs, rfl, .inl ⟨hs, fun p np => ?_⟩⟩
  exact q _ _ _ h (Gr.upd np) ⟨p, _, rfl, .inl ⟨notM dm np, upd_same⟩, rr.mv (Gr.upd np).kp.mv⟩⟩
theorem c_abs {i : Int} (h : P (.int (if i < 0 then -i else i))) : C1D X (.builtin "abs") (.int i) P := ⟨fun M H v Q dm r q =>
  ⟨_, call_abs, i, by rw [show v = .int i from r], q _ _ _ h .refl rfl⟩⟩
theorem c_int {i : Int} (h : P (.int i)) : C1D X (.type "int") (.int i) P := ⟨fun M H v Q dm r q =>
  ⟨_, call_int1, .inl ⟨i, by rw [show v = .int i from r], q _ _ _ h .refl rfl⟩⟩⟩
theorem Reps.two {K : PySem.W.Frag} {M : Addr → Prop} {H : Hp} {d e : D} {vs : List V} (h : Reps K M H [d, e] vs) : ∃ v u, vs = [v, u] ∧ Rep K M H d v ∧ Rep K M H e u := by
  obtain ⟨v, r, e1, h1, u, r2, e2, h2, e3⟩ := h
  have e3 : r2 = [] := e3
  subst e3 e2 e1
  exact ⟨v, u, rfl, h1, h2⟩
theorem c_max2 {i j : Int} (hc : X.calm = true) (h : P (.int (if j > i then j else i))) : CnD X (.builtin "max") [.int i, .int j] P := ⟨fun M H vs Q dm r q => by
  obtain ⟨v, u, rfl, r1, r2⟩ := r.two
  exact ⟨_, call_max2 hc, i, j, by rw [show v = .int i from r1, show u = .int j from r2], q _ _ _ h .refl rfl⟩⟩
theorem c_min2 {i j : Int} (hc : X.calm = true) (h : P (.int (if j < i then j else i))) : CnD X (.builtin "min") [.int i, .int j] P := ⟨fun M H vs Q dm r q => by
  obtain ⟨v, u, rfl, r1, r2⟩ := r.two
  exact ⟨_, call_min2 hc, i, j, by rw [show v = .int i from r1, show u = .int j from r2], q _ _ _ h .refl rfl⟩⟩
end
end DL
end

section
set_option maxRecDepth 100000
set_option maxHeartbeats 1000000
namespace DL
open PySem PySem.Spec L2
/-- what a body's context grants -/
structure CtxOk (X : Cx) (W : WX) : Prop where
  calm : X.calm = true
  own : PassesOwn (model X.prog X.w) X.A X.env X.xe
  takes : Takes X W
  nd : X.N.Nodup
section
variable {X : Cx} {W : WX} {fr : Bool} {S : List Addr} {Γ : List Sl} {P : Post} {pos : Pos}
abbrev Post.wnx (P : Post) (f : List Sl → Prop) : Post := { P with nx := f }
/-- M without p -/
def Mm (M : Addr → Prop) (p : Addr) : Addr → Prop := fun b => M b ∧ b ≠ p
theorem mp_mm {M : Addr → Prop} {p : Addr} (h : M p) : Mp (Mm M p) p = M := by
  funext b
  apply propext
  constructor
  · rintro (⟨m, _⟩ | rfl)
    · exact m
    · exact h
  · intro m
    by_cases c : b = p
    · exact .inr c
    · exact .inl ⟨m, c⟩
/-- one's own object, made in this def, is let go: the slot is not looked at any more -/
theorem AtM.letGo {K : PySem.W.Frag} {E : Entry} {M : Addr → Prop} {σ : L2.St} {H : Hp} (A : AtM K E M Γ σ H) {i : Nat} {p : Addr} {c : D} (hs : Γ[i]? = some (.own p c)) (hn : E.H0 p = none) :
    AtM K E (Mp (Mm M p) p) (Γ.set i .un) σ H ∧ (∀ b, E.M0 b → Mm M p b) ∧ (∀ (j : Nat) (x : D), (Γ.set i .un)[j]? ≠ some (.own p x)) := by
  have hm : M p := (A.get i _ hs).2.1
  have un_of : ∀ (j : Nat) (s : Sl), (Γ.set i .un)[j]? = some s → s = .un ∨ (j ≠ i ∧ Γ[j]? = some s) := fun j s h => by
    rcases get_set h with ⟨_, z⟩ | ⟨c, z⟩
    · exact .inl z
    · exact .inr ⟨fun e => c e.symm, z⟩
  refine ⟨?_, fun b m => ⟨A.m0 b m, fun e => ?_⟩, fun j x h => ?_⟩
  · rw [mp_mm hm]
    refine ⟨by rw [List.length_set]; exact A.len, fun j s h => ?_, fun j k a x y h1 h2 => ?_, A.m0, A.new, A.kept, fun j a x h => ?_, A.dom, A.s0, A.d0⟩
    · rcases un_of j s h with rfl | ⟨_, g⟩
      · trivial
      · exact A.get j s g
    · rcases un_of _ _ h1 with z | ⟨_, g1⟩
      · cases z
      · rcases un_of _ _ h2 with z | ⟨_, g2⟩
        · cases z
        · exact A.uniq j k a x y g1 g2
    · rcases un_of _ _ h with z | ⟨_, g⟩
      · cases z
      · exact A.owns j a x g
  · subst e
    obtain ⟨o, e⟩ := A.d0 _ m
    rw [hn] at e; cases e
  · rcases un_of _ _ h with z | ⟨n, g⟩
    · cases z
    · exact n (A.uniq _ _ _ _ _ g hs)
/-- one's own object is let go: from now on it does not change -/
theorem sv_rel {st : List Stmt} {i : Nat} {p : Addr} {c : D} (hs : Γ[i]? = some (.own p c)) (hp : p ∉ S) (h : SV X W fr S (Γ.set i (.ok c)) st P) : SV X W fr S Γ st P := by
  refine ⟨fun E M σ H D' hS A d => ?_⟩
  have hn : E.H0 p = none := (A.owns i p c hs).elim (fun z => absurd ((hS p).mp z) hp) id
  obtain ⟨B, hm, nn⟩ := A.letGo hs hn
  obtain ⟨e, m, o⟩ := A.get i _ hs
  have C := B.drop hm nn
  have hi : i < (Γ.set i .un).length := by
    rw [List.length_set]
    by_cases c : i < Γ.length
    · exact c
    · rw [List.getElem?_eq_none (by omega)] at hs; cases hs
  have r : Rep X.K (Mm M p) H c (.ref p) := OOk.rep (fun z => z.2 rfl) (by rw [mp_mm m]; exact o)
  have C2 := C.setOk (d := c) (v := .ref p) hi r
  have e2 : σ.set i (some (.ref p)) = σ := by
    apply List.ext_getElem?
    intro j
    rw [List.getElem?_set]
    by_cases c : i = j
    · subst c
      rw [if_pos rfl]
      split
      · exact e.symm
      · rename_i l
        rw [List.length_set] at hi
        exact absurd (by rw [A.len]; exact hi) l
    · rw [if_neg c]
  rw [e2, List.set_set] at C2
  exact h.run E _ σ H D' hS C2 d
theorem sv_nil (h : P.nx Γ) : SV X W fr S Γ [] P := ⟨fun E M σ H D' hS A d => ⟨_, pss_nil, d.nx M Γ σ H h A⟩⟩
theorem sv_cons {st : Stmt} {rest : List Stmt} (h : S1 X W fr S Γ st (P.wnx fun Γ1 => SV X W fr S Γ1 rest P)) : SV X W fr S Γ (st :: rest) P := by
  refine ⟨fun E M σ H D' hS A d => ⟨_, pss_cons ps_ws pss_wss, ?_⟩⟩
  refine h.run E M σ H { D' with nx := fun σ H => wss X rest D' σ H } hS A ⟨fun M' G s' H' p A' => p.run E M' s' H' D' hS A' d, d.bk, d.ct, d.rt, d.rf, d.ro, d.ex⟩
theorem s1_imp {st : Stmt} {P' : Post} (h : S1 X W fr S Γ st P) (n : ∀ G, P.nx G → P'.nx G) (r : ∀ d G, P.rt d G → P'.rt d G) (b : ∀ G, P.bk G → P'.bk G) (c : ∀ G, P.ct G → P'.ct G) (e : ∀ C f G, P.ex C f G → P'.ex C f G) : S1 X W fr S Γ st P' :=
  ⟨fun E M σ H D' hS A d => h.run E M σ H D' hS A ⟨fun M G s H p => d.nx M G s H (n G p), fun M G s H p => d.bk M G s H (b G p), fun M G s H p => d.ct M G s H (c G p), fun f M x G s v H p => d.rt f M x G s v H (r x G p),
    fun f M x G s v H p => d.rf f M x G s v H (r x G p), fun f M x G s q H i hi p => d.ro f M x G s q H i hi (r x G p), fun s C dd fs vs G M H p => d.ex s C dd fs vs G M H (e C fs G p)⟩⟩
theorem s_pass (h : P.nx Γ) : S1 X W fr S Γ (.Pass pos) P := ⟨fun E M σ H D' hS A d => ⟨_, ps_pass, d.nx M Γ σ H h A⟩⟩
theorem s_break (h : P.bk Γ) : S1 X W fr S Γ (.Break pos) P := ⟨fun E M σ H D' hS A d => ⟨_, ps_break, d.bk M Γ σ H h A⟩⟩
theorem s_cont (h : P.ct Γ) : S1 X W fr S Γ (.Continue pos) P := ⟨fun E M σ H D' hS A d => ⟨_, ps_continue, d.ct M Γ σ H h A⟩⟩
theorem s_doc {x j pos'} (h : P.nx Γ) : S1 X W fr S Γ (.Expr (.Constant (.str x) j pos) pos') P := ⟨fun E M σ H D' hS A d => ⟨_, ps_doc, d.nx M Γ σ H h A⟩⟩
theorem s_expr {e : Expr} (h : EV X W Γ e (fun _ Γ1 => P.nx Γ1) P.ex) (hs : swapsWith e none pos.line X.env = pure false := by rfl) : S1 X W fr S Γ (.Expr e pos) P :=
  ⟨fun E M σ H D' hS A d => ⟨_, ps_expr pe_we hs, h.run E M σ H _ A (d.ex σ) fun dd Γ1 v H1 p A1 k r => d.nx M Γ1 σ H1 p A1⟩⟩
theorem s_ret {e : Expr} (h : EV X W Γ e P.rt P.ex) : S1 X W false S Γ (.Return (some e) pos) P :=
  ⟨fun E M σ H D' hS A d => ⟨_, ps_ret pe_we, h.run E M σ H _ A (d.ex σ) fun dd Γ1 v H1 p A1 k r => d.rt rfl M dd Γ1 σ v H1 p A1 r⟩⟩
theorem s_retF {e : Expr} (h : EF X W Γ e P.rt P.ex) : S1 X W true S Γ (.Return (some e) pos) P :=
  ⟨fun E M σ H D' hS A d => ⟨_, ps_ret pe_we, h.run E M σ H _ A (d.ex σ) fun dd Γ1 p H1 hp hm A1 k o n => d.rf rfl M dd Γ1 σ p H1 hp hm ((A1.new p (.inr rfl)).elim (fun z => absurd (A.m0 p z) hm) id) A1 o n⟩⟩
theorem s_retN (h : P.rt .non Γ) : S1 X W false S Γ (.Return none pos) P := ⟨fun E M σ H D' hS A d => ⟨_, ps_retN, d.rt rfl M .non Γ σ .non H h A rfl⟩⟩
/-- return x, x one's own object made here -/
theorem s_retOwn {i : Nat} {x : Str} {p0 : Pos} {p : Addr} {c : D} (h0 : i ≠ 0) (hΓ : Γ[i]? = some (.own p c)) (hN : X.N[i]? = some x) (hv : Vis X.env.scope x)
    (h : P.rt c Γ) (hd : (x == ("__debug__" : Str)) = false := by decide) (hcd : (x == ("__classdict__" : Str)) = false := by decide) : S1 X W false S Γ (.Return (some (.Name x p0)) pos) P :=
  ⟨fun E M σ H D' hS A d => by
    obtain ⟨e, m, o⟩ := A.get i _ hΓ
    exact ⟨_, ps_ret (pe_var hN hv hd hcd), .ref p, e, d.ro rfl M c Γ σ p H i h0 h hΓ A⟩⟩
/-- x = e -/
theorem s_set {i : Nat} {x : Str} {pos' : Pos} {e : Expr} (hi : X.N[i]? = some x) (hx : Loc X.env.scope x) (hN : X.N.Nodup) (h : EV X W Γ e (fun d Γ1 => i < Γ1.length ∧ P.nx (Γ1.set i (.ok d))) P.ex)
    (hs : swapsWith e (some (.Name x pos')) pos.line X.env = pure false := by rfl) (hf : X.fn x = true ∨ X.env.scope.names.lookup x = some .local := by first | exact .inl rfl | exact .inr rfl | assumption) : S1 X W fr S Γ (.Assign [.Name x pos'] e pos) P :=
  ⟨fun E M σ H D' hS A d => ⟨_, ps_set hN hi hx pe_we hs hf, h.run E M σ H _ A (d.ex σ) fun dd Γ1 v H1 p A1 k r => d.nx M _ _ H1 p.2 (A1.setOk p.1 r)⟩⟩
/-- x = e, e new, to be changed here -/
theorem s_own {i : Nat} {x : Str} {pos' : Pos} {e : Expr} (hi : X.N[i]? = some x) (hx : Loc X.env.scope x) (hN : X.N.Nodup) (h : EF X W Γ e (fun d Γ1 => i < Γ1.length ∧ ∀ p, p ∉ S → P.nx (Γ1.set i (.own p d))) P.ex)
    (hs : swapsWith e (some (.Name x pos')) pos.line X.env = pure false := by rfl) (hf : X.fn x = true ∨ X.env.scope.names.lookup x = some .local := by first | exact .inl rfl | exact .inr rfl | assumption) : S1 X W fr S Γ (.Assign [.Name x pos'] e pos) P :=
  ⟨fun E M σ H D' hS A d => ⟨_, ps_set hN hi hx pe_we hs hf, h.run E M σ H _ A (d.ex σ) fun dd Γ1 p H1 hp hm A1 k o n => d.nx (Mp M p) _ _ H1 (hp.2 p fun z => hm (A.m0 p (A.s0 p ((hS p).mpr z)))) (A1.setOwn hp.1 ((A1.new p (.inr rfl)).imp (fun z => absurd (A.m0 p z) hm) id) (.inr rfl) (fun j x e => absurd e (n j x)) o)⟩⟩
theorem s_if {c : Expr} {a b : List Stmt} (h : ET X W Γ c (fun k Γ1 => (k = true → SV X W fr S Γ1 a P) ∧ (k = false → SV X W fr S Γ1 b P)) P.ex) : S1 X W fr S Γ (.If c a b pos) P := by
  refine ⟨fun E M σ H D' hS A d => ⟨_, ps_if pt_wt pss_wss pss_wss, ?_⟩⟩
  refine h.run E M σ H _ A (d.ex σ) fun k Γ1 H1 p A1 k1 => ?_
  cases k with
  | true => exact iteT ((p.1 rfl).run E M σ H1 D' hS A1 d)
  | false => exact iteF ((p.2 rfl).run E M σ H1 D' hS A1 d)

/-! ### loops -/
def wi (X : Cx) (tg iter : Expr) : TI := fun σ H R => ∃ t, PI X tg iter t ∧ t σ H R
theorem pi_wi {tg iter : Expr} : PI X tg iter (wi X tg iter) := ⟨fun pins s σ H R I ⟨_, h, q⟩ => h.run pins s σ H R I q⟩
def wg (X : Cx) (tg : Expr) : TG := fun v σ H Q => ∃ t, PG X tg t ∧ t v σ H Q
theorem pg_wg {tg : Expr} : PG X tg (wg X tg) := ⟨fun pins s σ H v u Q I r ⟨_, h, q⟩ => h.run pins s σ H v u Q I r q⟩
/-- an iterator that gives ds, one after another, as long as what is outside of M stays -/
structure ItD (K : PySem.W.Frag) (M : Addr → Prop) (H1 : Hp) (J : It) (ds : List D) : Prop where
  go : ∀ (i : Nat) (d : D) (H : Hp), ds[i]? = some d → Kp M H1 H → J.go i H
  yld : ∀ (i : Nat) (d : D) (H : Hp) (x : V) (H' : Hp), ds[i]? = some d → Kp M H1 H → J.yld i H x H' → Gr H H' ∧ ∀ M', (∀ b o, ¬ M b → H1 b = some o → ¬ M' b) → (∀ b, M' b → Ob (H b)) → Rep K M' H' d x
  stop : ∀ H, Kp M H1 H → J.stop ds.length H
/-- what a for walks -/
structure EI (X : Cx) (W : WX) (Γ : List Sl) (tg iter : Expr) (Φ : List D → List Sl → Prop) (Ψ : Ex) : Prop where
  run : ∀ (E : Entry) (M : Addr → Prop) (σ : L2.St) (H : Hp) (R : It → Hp → Prop), AtM X.K E M Γ σ H → ExD X E W Ψ σ → (∀ ds Γ' J H', Φ ds Γ' → AtM X.K E M Γ' σ H' → Kp M H H' → ItD X.K M H' J ds → R J H') → wi X tg iter σ H R
/-- a target takes a tree -/
structure GV (X : Cx) (tg : Expr) (V : List Nat) (d : D) (Γ : List Sl) (Φ : List Sl → Prop) : Prop where
  run : ∀ (E : Entry) (M : Addr → Prop) (σ : L2.St) (H : Hp) (v : L2.V) (Q : L2.St → Hp → Prop), AtM X.K E M Γ σ H → Rep X.K M H d v →
    (∀ Γ' σ', Φ Γ' → AtM X.K E M Γ' σ' H → (∀ j, j ∉ V → σ'[j]? = σ[j]?) → σ'.length = σ.length → Q σ' H) → wg X tg v σ H Q
theorem gv_name {i : Nat} {x : Str} {d : D} {V : List Nat} {Φ : List Sl → Prop} (hV : i ∈ V) (hi : X.N[i]? = some x) (hl : i < Γ.length) (hx : Loc X.env.scope x) (hN : X.N.Nodup) (h : Φ (Γ.set i (.ok d)))
    (hf : X.fn x = true ∨ X.env.scope.names.lookup x = some .local := by first | exact .inl rfl | exact .inr rfl | assumption) : GV X (.Name x pos) V d Γ Φ :=
  ⟨fun E M σ H v Q A r q => ⟨_, pg_name hN hi hx hf, q _ _ h (A.setOk hl r) (fun j hj => List.getElem?_set_ne (fun e => hj (by rw [← e]; exact hV))) List.length_set⟩⟩
/-- the loop over what is left -/
structure LV (X : Cx) (W : WX) (fr : Bool) (Γ : List Sl) (tg : Expr) (body : List Stmt) (ds : List D) (P : Post) : Prop where
  mk ::
  ex : ∀ S : List Addr, ∃ T : Nat → List Sl → Prop, T 0 Γ ∧ (∀ i d Γ1, ds[i]? = some d → T i Γ1 → ∃ V, GV X tg V d Γ1 (fun Γ2 => SV X W fr S Γ2 body { P with nx := T (i + 1), ct := T (i + 1), bk := P.nx })) ∧ ∀ Γ1, T ds.length Γ1 → P.nx Γ1
theorem s_for {tg iter : Expr} {body : List Stmt} (c : CtxOk X W) (h : EI X W Γ tg iter (fun ds Γ1 => LV X W fr Γ1 tg body ds P) P.ex) (hs : ∀ x, foldedSetIterable iter X.env x = pure x := by intro _; rfl) :
    S1 X W fr S Γ (.For tg iter body [] pos) P := by
  refine ⟨fun E M σ H D' hS A d => ⟨_, ps_for c.own c.calm pi_wi pg_wg pss_wss hs, ?_⟩⟩
  refine h.run E M σ H _ A (d.ex σ) fun ds Γ1 J H1 p A1 k1 it => ?_
  obtain ⟨T, t0, turn, fin⟩ := p.ex (ownL Γ1)
  refine ⟨fun i m σ' H' => m = ds.length - i ∧ i ≤ ds.length ∧ ∃ M' Γ', T i Γ' ∧ AtM X.K (subE M Γ1 H1) M' Γ' σ' H', ⟨ds.length, by simp, Nat.zero_le _, M, Γ1, t0, A1.down⟩, ?_⟩
  rintro i m σ' H' ⟨rfl, hi, M', Γ', ti, B⟩
  have kp : Kp M H1 H' := A1.kpDown B
  by_cases hlt : i < ds.length
  · have gd : ds[i]? = some ds[i] := List.getElem?_eq_getElem hlt
    refine .inr ⟨it.go i _ H' gd kp, fun σ2 H2 => i + 1 ≤ ds.length ∧ ∃ M2 Γ2, T (i + 1) Γ2 ∧ AtM X.K (subE M Γ1 H1) M2 Γ2 σ2 H2, fun σ2 H2 ⟨l, q⟩ => ⟨_, by omega, rfl, l, q⟩, fun x H2 y => ?_⟩
    obtain ⟨g, rep⟩ := it.yld i _ H' x H2 gd kp y
    have B2 := B.grow g
    have r2 := rep M' (A1.mvDown B).out B.dom
    obtain ⟨VV, gv⟩ := turn i _ Γ' gd ti
    refine gv.run _ M' σ' H2 x _ B2 r2 fun Γ3 σ3 p3 B3 _ _ => ?_
    refine p3.run _ M' σ3 H2 _ (fun b => mem_ownL) B3 ⟨fun M4 G4 s4 H4 q C => ⟨hlt, M4, G4, q, C⟩, fun M4 G4 s4 H4 q C => d.nx M4 G4 s4 H4 q (A1.up C), fun M4 G4 s4 H4 q C => ⟨hlt, M4, G4, q, C⟩, fun f M4 x4 G4 s4 v4 H4 q C r => d.rt f M4 x4 G4 s4 v4 H4 q (A1.up C) r,
      fun f M4 x4 G4 s4 v4 H4 q hm hn C o n => d.rf f M4 x4 G4 s4 v4 H4 q hm (A1.fresh0 hn) (A1.up C) o n, fun f M4 x4 G4 s4 q4 H4 i4 h4 q e4 C => d.ro f M4 x4 G4 s4 q4 H4 i4 h4 q e4 (A1.up C), fun s4 C4 d4 fs vs G4 M4 H4 q C e4 r4 n4 z4 => d.ex s4 C4 d4 fs vs G4 M4 H4 q (A1.up C) e4 r4 n4 (A1.fresh0 z4)⟩
  · have e : i = ds.length := by omega
    subst e
    exact .inl ⟨it.stop H' kp, d.nx M' Γ' σ' H' (fin Γ' ti) (A1.up B)⟩
end
end DL
end

section
set_option maxRecDepth 100000
set_option maxHeartbeats 1000000
namespace DL
open PySem PySem.Spec L2 DLC
def wpts (Y : Cx) (ifs : List Expr) : TT := fun σ H Q => ∃ t, PTs Y ifs t ∧ t σ H Q
theorem pts_w {Y : Cx} {ifs : List Expr} : PTs Y ifs (wpts Y ifs) := ⟨fun pins s σ H Q I ⟨_, h, q⟩ => h.run pins s σ H Q I q⟩
abbrev WF : WX := fun _ _ _ _ => False
abbrev exF : Ex := fun _ _ _ => False
theorem exd_false {X : Cx} {E : Entry} {W : WX} {σ : L2.St} : ExD X E W exF σ := fun _ _ _ _ _ _ _ h => h.elim
/-- the tests of a clause -/
structure TS (Y : Cx) (ifs : List Expr) (Γ : List Sl) (Φ : Bool → List Sl → Prop) : Prop where
  run : ∀ (E : Entry) (M : Addr → Prop) (σ : L2.St) (H : Hp) (Q : Bool → Hp → Prop), AtM Y.K E M Γ σ H → (∀ b Γ' H', Φ b Γ' → AtM Y.K E M Γ' σ H' → Kp M H H' → Q b H') → wpts Y ifs σ H Q
theorem ts_nil {Y : Cx} {Γ : List Sl} {Φ : Bool → List Sl → Prop} (h : Φ true Γ) : TS Y [] Γ Φ := ⟨fun E M σ H Q A q => ⟨_, pts_nil, q true Γ H h A .refl⟩⟩
theorem ts_one {Y : Cx} {Γ : List Sl} {c : Expr} {Φ : Bool → List Sl → Prop} (h : ET Y WF Γ c Φ exF) : TS Y [c] Γ Φ := ⟨fun E M σ H Q A q => ⟨_, pts_one pt_wt, h.run E M σ H Q A exd_false q⟩⟩
def wipeG (Γ : List Sl) : List Nat → List Sl
  | [] => Γ
  | v :: vs => (wipeG Γ vs).set v .un
/-- a clause as the text has it, and the slots that it and those behind it store -/
structure Ct where
  tg : Expr
  iter : Expr
  ifs : List Expr
  V : List Nat
abbrev Em (α : Type) := List Sl → α → (List Sl → α → Prop) → Prop
/-- from these clauses on -/
def CD {α : Type} (X : Cx) (scope : Scope) (em : Em α) : List Ct → Em α
  | [] => em
  | c :: cs => fun Γ acc F => ∀ Y, IsBlk X scope Y → EI Y WF Γ c.tg c.iter (fun ds Γ1 => CLp X scope (CD X scope em cs) c ds Γ1 acc F) exF
where
  /-- the loop of one clause over ds -/
  CLp {α : Type} (X : Cx) (scope : Scope) (body : Em α) (c : Ct) (ds : List D) (Γ1 : List Sl) (acc : α) (F : List Sl → α → Prop) : Prop :=
    ∃ T : Nat → List Sl → α → Prop, T 0 (wipeG Γ1 c.V) acc ∧
      (∀ i d Γ2 acc2, ds[i]? = some d → T i Γ2 acc2 → ∀ Y, IsBlk X scope Y → GV Y c.tg c.V d Γ2 (fun Γ3 => ∀ Y, IsBlk X scope Y → TS Y c.ifs Γ3 (fun b Γ4 =>
        (b = true → body Γ4 acc2 (fun Γ5 acc5 => T (i + 1) (wipeG Γ5 c.V) acc5)) ∧ (b = false → T (i + 1) (wipeG Γ4 c.V) acc2)))) ∧
      ∀ Γ2 acc2, T ds.length Γ2 acc2 → F Γ2 acc2

section
variable {K : PySem.W.Frag} {E : Entry} {M M' : Addr → Prop} {Γ : List Sl} {σ σ' : L2.St} {H H' : Hp} {V : List Nat}
theorem wipeG_get : ∀ {V : List Nat} {j : Nat} {s : Sl}, (wipeG Γ V)[j]? = some s → s = .un ∨ Γ[j]? = some s
  | [], j, s, h => .inr h
  | v :: vs, j, s, h => by
    rcases get_set h with ⟨_, z⟩ | ⟨_, z⟩
    · exact .inl z
    · exact wipeG_get z
theorem wipeG_in : ∀ {V : List Nat} {j : Nat} {s : Sl}, j ∈ V → (wipeG Γ V)[j]? = some s → s = .un
  | v :: vs, j, s, hm, h => by
    rcases get_set h with ⟨_, z⟩ | ⟨c, z⟩
    · exact z
    · rcases List.mem_cons.mp hm with e | m
      · exact absurd e.symm c
      · exact wipeG_in m z
theorem wipeG_length : ∀ {V : List Nat}, (wipeG Γ V).length = Γ.length
  | [] => rfl
  | v :: vs => by
    show ((wipeG Γ vs).set v .un).length = _
    rw [List.length_set, wipeG_length]
/-- slots forgotten: σ' agrees with σ elsewhere -/
theorem AtM.forget (A : AtM K E M Γ σ H) (hl : σ'.length = σ.length) (ha : ∀ j, j ∉ V → σ'[j]? = σ[j]?) : AtM K E M (wipeG Γ V) σ' H := by
  refine ⟨by rw [wipeG_length, hl]; exact A.len, fun j s h => ?_, fun i j a x y h1 h2 => ?_, A.m0, A.new, A.kept, fun i a x h => ?_, A.dom, A.s0, A.d0⟩
  · by_cases c : j ∈ V
    · rw [wipeG_in c h]; trivial
    · rcases wipeG_get h with z | z
      · rw [z]; trivial
      · rw [ha j c]; exact A.get j s z
  · rcases wipeG_get h1 with z | z
    · cases z
    · rcases wipeG_get h2 with w | w
      · cases w
      · exact A.uniq i j a x y z w
  · rcases wipeG_get h with z | z
    · cases z
    · exact A.owns i a x z
theorem wipe_at {j : Nat} : ∀ {V : List Nat}, j ∉ V → (wipe σ V)[j]? = σ[j]? := wipe_out
theorem wipe_of {V : List Nat} (hl : σ'.length = σ.length) (ha : ∀ j, j ∉ V → σ'[j]? = σ[j]?) : wipe σ' V = wipe σ V := by
  apply List.ext_getElem?
  intro j
  by_cases c : j ∈ V
  · have w : ∀ (τ : L2.St), τ.length = σ.length → (wipe τ V)[j]? = if j < σ.length then some none else none := fun τ ht => by
      clear hl ha
      induction V with
      | nil => cases c
      | cons v vs ih =>
        show ((wipe τ vs).set v none)[j]? = _
        rw [List.getElem?_set, wipe_length, ht]
        by_cases e : v = j
        · rw [if_pos e, e]
        · rw [if_neg e]
          exact ih ((List.mem_cons.mp c).resolve_left fun z => e z.symm)
    rw [w σ' hl, w σ rfl]
  · rw [wipe_out c, wipe_out c, ha j c]
end
end DL
end

section
set_option maxRecDepth 100000
set_option maxHeartbeats 1000000
namespace DL
open PySem PySem.Spec L2 DLC
section
variable {X : Cx} {scope : Scope} {D₀ : Addr}
theorem blkK {Y : Cx} (h : IsBlk X scope Y) : Y.K = X.K := by
  obtain ⟨s, H, C, cl, fp, rfl⟩ := h
  rfl
theorem blkXe {Y : Cx} (h : IsBlk X scope Y) : Y.xe = fun _ _ => False := by
  obtain ⟨s, H, C, cl, fp, rfl⟩ := h
  rfl
theorem blkCalm {Y : Cx} (hc : X.calm = true) (h : IsBlk X scope Y) : Y.calm = true := by
  obtain ⟨s, H, C, cl, fp, rfl⟩ := h
  exact hc
/-- no slot owns p -/
def NoOwn (Γ : List Sl) (p : Addr) : Prop := ∀ (j : Nat) (x : D), Γ[j]? ≠ some (.own p x)
def toCl (X : Cx) (scope : Scope) (c : Ct) : Cl := ⟨c.tg, c.iter, c.ifs, fun σ H R => ∀ Y, IsBlk X scope Y → wi Y c.tg c.iter σ H R, fun v σ H Q => ∀ Y, IsBlk X scope Y → wg Y c.tg v σ H Q,
  fun σ H Q => ∀ Y, IsBlk X scope Y → wpts Y c.ifs σ H Q, c.V⟩
theorem clOk {Y : Cx} {c : Ct} (h : IsBlk X scope Y) (fs : ∀ x, foldedSetIterable c.iter Y.env x = pure x) : ClOk Y (toCl X scope c) :=
  ⟨⟨fun pins s σ H R I q => pi_wi.run pins s σ H R I (q Y h)⟩, ⟨fun pins s σ H v u Q I r q => pg_wg.run pins s σ H v u Q I r (q Y h)⟩, ⟨fun pins s σ H Q I q => pts_w.run pins s σ H Q I (q Y h)⟩, fs⟩
/-- the state while the new object at D₀ grows -/
structure Gw {α : Type} (X : Cx) (dat : α → D) (D₀ : Addr) (E : Entry) (M : Addr → Prop) (Γ : List Sl) (σ : L2.St) (H : Hp) (acc : α) : Prop where
  at_ : AtM X.K E M Γ σ H
  mem : M D₀
  new : E.S0 D₀ ∨ E.H0 D₀ = none
  obj : OOk X.K M H D₀ (dat acc)
  no : NoOwn Γ D₀
variable {α : Type} {dat : α → D} {E : Entry} {M M' : Addr → Prop} {Γ Γ' : List Sl} {σ σ' : L2.St} {H H' : Hp} {acc : α}
theorem Gw.forget (g : Gw X dat D₀ E M Γ σ H acc) {V : List Nat} (hl : σ'.length = σ.length) (ha : ∀ j, j ∉ V → σ'[j]? = σ[j]?) : Gw X dat D₀ E M (wipeG Γ V) σ' H acc :=
  ⟨g.at_.forget hl ha, g.mem, g.new, g.obj, fun j x h => (wipeG_get h).elim (fun z => nomatch z) (g.no j x)⟩
/-- a step that does not know of it -/
theorem Gw.step (g : Gw X dat D₀ E M Γ σ H acc) (B : AtM X.K (subE M Γ H) M Γ' σ' H') : Gw X dat D₀ E M Γ' σ' H' acc := by
  have A1 := g.at_.up B
  have e : H' D₀ = H D₀ := by
    obtain ⟨o, h⟩ := g.obj.there
    rw [h]
    exact B.kept D₀ o (fun ⟨i, d, q⟩ => g.no i d q) h
  refine ⟨A1, g.mem, g.new, g.obj.mono (g.at_.mvDown B) e, fun j x h => ?_⟩
  rcases B.owns j D₀ x h with ⟨i, d, q⟩ | q
  · exact g.no i d q
  · obtain ⟨o, h2⟩ := g.obj.there
    have q : H D₀ = none := q
    rw [q] at h2; cases h2
/-- what the emission owes -/
def EmOk (X : Cx) (dat : α → D) (D₀ : Addr) (em : Em α) (emh : TEm) : Prop :=
  ∀ (Γ : List Sl) (acc : α) (F : List Sl → α → Prop) (E : Entry) (M : Addr → Prop) (σ : L2.St) (H : Hp) (F' : Hp → Prop), em Γ acc F → Gw X dat D₀ E M Γ σ H acc →
    (∀ Γ' acc' H', F Γ' acc' → Gw X dat D₀ E M Γ' σ H' acc' → F' H') → emh σ H F'
theorem loop_run {body : Em α} {bodyh : TEm} {V1 : List Nat} {c : Ct} {ds : List D} {J : It} (hV : ∀ i ∈ V1, i ∈ c.V)
    (hb : ∀ (Γ : List Sl) (acc : α) (F : List Sl → α → Prop) (E : Entry) (M : Addr → Prop) (σ : L2.St) (H : Hp) (F' : Hp → Prop), body Γ acc F → Gw X dat D₀ E M Γ σ H acc →
      (∀ Γ' acc' σ' H', F Γ' acc' → Gw X dat D₀ E M Γ' σ' H' acc' → (∀ j, j ∉ V1 → σ'[j]? = σ[j]?) → σ'.length = σ.length → F' H') → bodyh σ H F')
    {F : List Sl → α → Prop} {F' : Hp → Prop} (h : CD.CLp X scope body c ds Γ acc F) (g : Gw X dat D₀ E M Γ σ H acc) (it : ItD X.K M H J ds)
    (k : ∀ Γ' acc' σ' H', F Γ' acc' → Gw X dat D₀ E M Γ' σ' H' acc' → (∀ j, j ∉ c.V → σ'[j]? = σ[j]?) → σ'.length = σ.length → F' H') :
    tLoop bodyh (toCl X scope c) J σ H F' := by
  obtain ⟨T, t0, turn, fin⟩ := h
  -- the invariant: by an entry of the loop's own, in which D₀ may change
  let E1 : Entry := ⟨M, H, fun b => (∃ (i : Nat) (d : D), Γ[i]? = some (.own b d)) ∨ b = D₀⟩
  have A := g.at_
  have up : ∀ {M' : Addr → Prop} {Γ' : List Sl} {σ' : L2.St} {H' : Hp}, AtM X.K E1 M' Γ' σ' H' → AtM X.K E M' Γ' σ' H' := fun {M' Γ' σ' H'} B => by
    refine ⟨B.len, B.get, B.uniq, fun b m => B.m0 b (A.m0 b m), fun b m => ?_, fun b o n e => ?_, fun i a d hh => ?_, B.dom, A.s0, A.d0⟩
    · rcases B.new b m with m | z
      · exact A.new b m
      · exact .inr (A.fresh0 z)
    · refine B.kept b o (fun z => ?_) (A.kept b o n e)
      rcases z with ⟨i, d, hh⟩ | rfl
      · rcases A.owns i b d hh with q | q
        · exact n q
        · rw [q] at e; cases e
      · rcases g.new with q | q
        · exact n q
        · rw [q] at e; cases e
    · rcases B.owns i a d hh with z | z
      · rcases z with ⟨j, x, hj⟩ | rfl
        · exact A.owns j a x hj
        · exact g.new
      · exact .inr (A.fresh0 z)
  have down : AtM X.K E1 M Γ σ H := ⟨A.len, A.get, A.uniq, fun _ m => m, fun _ m => .inl m, fun _ _ _ e => e, fun i a d hh => .inl (.inl ⟨i, d, hh⟩), A.dom, fun b z => z.elim (fun ⟨i, d, hh⟩ => (A.get i _ hh).2.1) (fun e => e ▸ g.mem), A.dom⟩
  have kp : ∀ {M' : Addr → Prop} {Γ' : List Sl} {σ' : L2.St} {H' : Hp}, AtM X.K E1 M' Γ' σ' H' → Kp M H H' := fun B b o n e => B.kept b o (fun z => z.elim (fun ⟨i, d, hh⟩ => n (A.get i _ hh).2.1) (fun q => n (q ▸ g.mem))) e
  have g1 : Gw X dat D₀ E1 M Γ σ H acc := ⟨down, g.mem, .inl (.inr rfl), g.obj, g.no⟩
  have gup : ∀ {M' : Addr → Prop} {Γ' : List Sl} {σ' : L2.St} {H' : Hp} {acc' : α}, Gw X dat D₀ E1 M' Γ' σ' H' acc' → Gw X dat D₀ E M' Γ' σ' H' acc' := fun q => ⟨up q.at_, q.mem, g.new, q.obj, q.no⟩
  refine ⟨fun i m H' => m = ds.length - i ∧ i ≤ ds.length ∧ ∃ Γ' acc', T i Γ' acc' ∧ Gw X dat D₀ E1 M Γ' (wipe σ c.V) H' acc', ⟨ds.length, by simp, Nat.zero_le _, _, acc, t0, g1.forget (wipe_length _ _) fun j hj => wipe_out hj⟩, ?_⟩
  rintro i m H' ⟨rfl, hi, Γ', acc', ti, q⟩
  by_cases hlt : i < ds.length
  · have gd : ds[i]? = some ds[i] := List.getElem?_eq_getElem hlt
    refine .inr ⟨it.go i _ H' gd (kp q.at_), fun H2 => i + 1 ≤ ds.length ∧ ∃ Γ2 acc2, T (i + 1) Γ2 acc2 ∧ Gw X dat D₀ E1 M Γ2 (wipe σ c.V) H2 acc2, fun H2 ⟨l, z⟩ => ⟨_, by omega, rfl, l, z⟩, fun x H2 y => ?_⟩
    obtain ⟨gr, rep⟩ := it.yld i _ H' x H2 gd (kp q.at_) y
    have r2 := rep M (fun _ _ n _ => n) q.at_.dom
    have q2 : Gw X dat D₀ E1 M Γ' (wipe σ c.V) H2 acc' := q.step (q.at_.down.grow gr)
    intro Y hY
    have gv := turn i _ Γ' acc' gd ti Y hY
    refine gv.run (subE M Γ' H2) M (wipe σ c.V) H2 x _ (by rw [blkK hY]; exact q2.at_.down) (by rw [blkK hY]; exact r2) fun Γ3 σ3 p3 B3 ag3 l3 => ?_
    rw [blkK hY] at B3
    have q3 := q2.step B3
    refine ⟨?_, fun Y2 hY2 => ?_⟩
    · show wipe σ3 c.V = wipe σ c.V
      exact (wipe_of l3 ag3).trans (wipe_of (wipe_length σ c.V) fun j hj => wipe_out hj)
    · refine (p3 Y2 hY2).run (subE M Γ3 H2) M σ3 H2 _ (by rw [blkK hY2]; exact q3.at_.down) fun b Γ4 H4 p4 B4 _ => ?_
      rw [blkK hY2] at B4
      have q4 := q3.step B4
      have ag : ∀ {σ5 : L2.St}, (∀ j, j ∉ c.V → σ5[j]? = σ3[j]?) → ∀ j, j ∉ c.V → (wipe σ c.V)[j]? = σ5[j]? := fun z j hj => by rw [z j hj, ag3 j hj]
      cases b with
      | true =>
        refine (show (if true = true then _ else _) from iteT ?_)
        refine hb Γ4 acc' _ E1 M σ3 H4 _ (p4.1 rfl) q4 fun Γ5 acc5 σ5 H5 p5 q5 ag5 l5 => ?_
        exact ⟨hlt, _, acc5, p5, q5.forget (by rw [l5, l3]) (ag fun j hj => ag5 j fun z => hj (hV j z))⟩
      | false =>
        refine (show (if false = true then _ else _) from iteF ?_)
        exact ⟨hlt, _, acc', p4.2 rfl, q4.forget (by rw [l3]) (ag fun j hj => rfl)⟩
  · have e : i = ds.length := by omega
    subst e
    exact .inl ⟨it.stop H' (kp q.at_), k Γ' acc' _ H' (fin Γ' acc' ti) (gup q) (fun j hj => wipe_out hj) (wipe_length _ _)⟩
/-- all clauses from here on -/
theorem cd_run {em : Em α} {emh : TEm} (hem : EmOk X dat D₀ em emh) : ∀ (cs : List Ct), chain (cs.map (toCl X scope)) →
    ∀ (Γ : List Sl) (acc : α) (F : List Sl → α → Prop) (E : Entry) (M : Addr → Prop) (σ : L2.St) (H : Hp) (F' : Hp → Prop), CD X scope em cs Γ acc F → Gw X dat D₀ E M Γ σ H acc →
      (∀ Γ' acc' σ' H', F Γ' acc' → Gw X dat D₀ E M Γ' σ' H' acc' → (∀ j, j ∉ heads (cs.map (toCl X scope)) → σ'[j]? = σ[j]?) → σ'.length = σ.length → F' H') →
      tCl emh (cs.map (toCl X scope)) σ H F'
  | [], _, Γ, acc, F, E, M, σ, H, F', h, g, k => hem Γ acc F E M σ H F' h g fun Γ' acc' H' p q => k Γ' acc' σ H' p q (fun _ _ => rfl) rfl
  | c :: cs, hch, Γ, acc, F, E, M, σ, H, F', h, g, k => by
    intro Y hY
    refine (h Y hY).run (subE M Γ H) M σ H _ (by rw [blkK hY]; exact g.at_.down) exd_false fun ds Γ1 J H1 p1 B1 _ it => ?_
    rw [blkK hY] at B1 it
    refine loop_run (V1 := heads (cs.map (toCl X scope))) hch.1 (fun Γ acc F E M σ H F' h g k => cd_run hem cs hch.2 Γ acc F E M σ H F' h g k) p1 (g.step B1) it fun Γ' acc' σ' H' p q ag l => ?_
    exact k Γ' acc' σ' H' p q ag l
end
end DL
end

section
set_option maxRecDepth 100000
set_option maxHeartbeats 1000000
namespace DL
open PySem PySem.Spec L2 DLC
section
variable {X : Cx} {W : WX} {Γ : List Sl} {Φ : D → List Sl → Prop} {Ψ : Ex} {pos : Pos} {scope : Scope} {own : List (Str × Nat)}
theorem ItD.grow {K : PySem.W.Frag} {M : Addr → Prop} {H1 : Hp} {J : It} {ds : List D} {p : Addr} {o : HO} (it : ItD K M H1 J ds) (hp : H1 p = none) : ItD K (Mp M p) (upd H1 p o) J ds := by
  have kp : ∀ {H : Hp}, Kp (Mp M p) (upd H1 p o) H → Kp M H1 H := fun k b u n e => by
    have nb : b ≠ p := ne_of_none e hp
    exact k b u (fun z => z.elim n nb) (by rw [upd_ne nb]; exact e)
  refine ⟨fun i d H h k => it.go i d H h (kp k), fun i d H x H' h k y => ?_, fun H k => it.stop H (kp k)⟩
  obtain ⟨g, r⟩ := it.yld i d H x H' h (kp k) y
  refine ⟨g, fun M' out dm => r M' (fun b u n e => ?_) dm⟩
  have nb : b ≠ p := ne_of_none e hp
  exact out b u (fun z => z.elim n nb) (by rw [upd_ne nb]; exact e)
/-- the emission of a list's item -/
def emV (X : Cx) (scope : Scope) (elt : Expr) : Em (List D) := fun Γ acc F => ∀ Y, IsBlk X scope Y → EV Y WF Γ elt (fun d Γ1 => acc.length < 10000000 ∧ F Γ1 (acc ++ [d])) exF
def teV (X : Cx) (scope : Scope) (elt : Expr) : TE := fun σ H Q => ∀ Y, IsBlk X scope Y → we Y elt σ H Q
theorem pe_teV {elt : Expr} {Y : Cx} (hY : IsBlk X scope Y) : PE Y elt (teV X scope elt) := ⟨fun pins s σ H Q I q => pe_we.run pins s σ H Q I (q Y hY)⟩
/-- the new object is changed -/
theorem Gw.poke {α : Type} {dat : α → D} {D₀ : Addr} {E : Entry} {M : Addr → Prop} {σ : L2.St} {H : Hp} {acc acc' : α} {u : HO} (g : Gw X dat D₀ E M Γ σ H acc) (o : OOk X.K M (upd H D₀ u) D₀ (dat acc')) : Gw X dat D₀ E M Γ σ (upd H D₀ u) acc' := by
  have A := g.at_
  have k : ∀ b o, b ≠ D₀ → H b = some o → upd H D₀ u b = some o := fun b o n e => by rw [upd_ne n]; exact e
  have mv : Mv M M H (upd H D₀ u) := ⟨fun _ _ n _ => n, fun b o n e => k b o (fun z => n (z ▸ g.mem)) e⟩
  refine ⟨⟨A.len, fun i s hs => ?_, A.uniq, A.m0, A.new, fun b o n e => ?_, A.owns, fun b m => ?_, A.s0, A.d0⟩, g.mem, g.new, o, g.no⟩
  · have q := A.get i s hs
    cases s with
    | un => trivial
    | ok x => obtain ⟨v, e, r⟩ := q; exact ⟨v, e, r.mv mv⟩
    | own a x =>
      obtain ⟨e, m, z⟩ := q
      have na : a ≠ D₀ := fun z => by subst z; exact g.no i x hs
      exact ⟨e, m, z.mono mv (upd_ne na)⟩
  · by_cases c : b = D₀
    · subst c
      rcases g.new with z | z
      · exact absurd z n
      · rw [z] at e; cases e
    · exact k b o c (A.kept b o n e)
  · by_cases c : b = D₀
    · subst c; exact o.there
    · obtain ⟨w, hw⟩ := A.dom b m
      exact ⟨w, k b w c hw⟩
theorem Gw.mvPoke {α : Type} {dat : α → D} {D₀ : Addr} {E : Entry} {M : Addr → Prop} {σ : L2.St} {H : Hp} {acc : α} {u : HO} (g : Gw X dat D₀ E M Γ σ H acc) : Mv M M H (upd H D₀ u) :=
  ⟨fun _ _ n _ => n, fun b o n e => by
    have nb : b ≠ D₀ := fun z => n (by rw [z]; exact g.mem)
    rw [upd_ne nb]; exact e⟩
theorem emOk_list {elt : Expr} {D₀ : Addr} : EmOk X D.lst D₀ (emV X scope elt) (emL D₀ (teV X scope elt)) := by
  intro Γ acc F E M σ H F' h g k Y hY
  refine (h Y hY).run (subE M Γ H) M σ H _ (by rw [blkK hY]; exact g.at_.down) exd_false fun d Γ1 v H1 p1 B1 k1 r1 => ?_
  rw [blkK hY] at B1 r1
  have g1 := g.step B1
  obtain ⟨vs, e, rr⟩ := g1.obj
  refine ⟨vs, e, ?_, k Γ1 _ _ p1.2 (g1.poke ⟨_, upd_same, ((rr.append (Reps.cons r1 Reps.nil)).mv g1.mvPoke)⟩)⟩
  rw [rr.length, sizeLine_eq]
  have := p1.1
  omega
/-- what a comprehension of a list must meet -/
structure LcOk (X : Cx) (scope : Scope) (own : List (Str × Nat)) (tg iter : Expr) (ifs : List Expr) (gs : List Comprehension) (cs : List Ct) : Prop where
  blk : BlkOk X.N X.env.scope scope own
  gs_ : gs = cs.map fun c => ⟨c.tg, c.iter, c.ifs, 0⟩
  ch : chain ((⟨tg, iter, ifs, own.map (·.2)⟩ :: cs).map (toCl X scope))
  hs : ∀ x, foldedSetIterable iter X.env x = pure x
  hfs : ∀ Y, IsBlk X scope Y → ∀ c ∈ (⟨tg, iter, ifs, own.map (·.2)⟩ : Ct) :: cs, ∀ x, foldedSetIterable c.iter Y.env x = pure x
def trLc (X : Cx) (scope : Scope) (own : List (Str × Nat)) (elt tg iter : Expr) (ifs : List Expr) (cs : List Ct) : TE := fun σ' H' Q' =>
  wi X tg iter σ' H' fun J H1 => ∀ D, H1 D = none → tLoop (tCl (emL D (teV X scope elt)) (cs.map (toCl X scope))) (toCl X scope ⟨tg, iter, ifs, own.map (·.2)⟩) J σ' (upd H1 D (.lst [])) (fun H2 => Q' (.ref D) H2)
theorem lc_run {elt tg iter : Expr} {ifs : List Expr} {gs : List Comprehension} {cs : List Ct} (c : CtxOk X W) (ok : LcOk X scope own tg iter ifs gs cs) {pins : List (Addr × Obj)} {s : Shared} {σ : L2.St} {H : Hp} {Q : VK} {pos' : Pos} {use : Option (Value → Sem Unit)} {Qf : Value → Shared → Prop}
    (I : Inv X pins σ H s) (hq : trLc X scope own elt tg iter ifs cs σ H Q)
    (hRR : ∀ O C t m G, Inv X pins σ G t → Q (.ref O) G → t.heap.Ns C m → FpOk X pins G C → compPost (model X.prog X.w) X.A X.xe use Qf (.ref O) C (.ok .next) t) :
    wpAny (model X.prog X.w) X.A (comprehension (.ListComp elt (⟨tg, iter, ifs, 0⟩ :: gs) scope pos) scope X.env pos' (newList []) false (eval iter X.env) use) Qf X.xe s := by
  refine comp_core (mk := .ListComp elt (⟨tg, iter, ifs, 0⟩ :: gs) scope pos) (c := toCl X scope ⟨tg, iter, ifs, own.map (·.2)⟩) (cs := cs.map (toCl X scope)) (em := fun D => emL D (teV X scope elt)) (T := "list") (dat := .seq ([] : List Value).toArray) (u0 := fun _ => .lst []) c.calm c.nd I rfl (fun _ _ _ _ z => nomatch z) ok.blk pi_wi ok.hs rfl rfl rfl rfl ok.ch.1 ?_ ?_ ?_ hq hRR
  · intro Y D hY
    refine ⟨clOk hY (ok.hfs Y hY _ List.mem_cons_self), after_list (blkXe hY) (blkCalm c.calm hY) (pe_teV hY) _ 0 ok.ch.2 (fun c' hc' => ?_) (fun j c' hc' => ?_) ?_⟩
    · obtain ⟨c0, m0, rfl⟩ := List.mem_map.mp hc'
      exact clOk hY (ok.hfs Y hY _ (List.mem_cons_of_mem _ m0))
    · rw [List.getElem?_map] at hc'
      cases e : cs[j]? with
      | none => rw [e] at hc'; cases hc'
      | some c0 =>
        rw [e] at hc'
        cases hc'
        rw [ok.gs_, show 0 + 1 + j = j + 1 by omega, List.getElem?_cons_succ, List.getElem?_map, e]
        rfl
    · rw [ok.gs_, List.length_cons, List.length_map, List.length_map]; omega
  · intro s2 H2 I2
    exact I2.laid (t' := s2.toks) (fun b o e => Heap.get?_push_of_some _ e) (Nat.le_refl _) ⟨Nat.zero_le _, [], 0, .nil, Heap.get?_push_size _ rfl⟩
  · intro M A E s2 R hR
    exact wpAny_newObj_type hR (by show 0 ≤ sizeLine; decide)
theorem pe_trLc {elt tg iter : Expr} {ifs : List Expr} {gs : List Comprehension} {cs : List Ct} (c : CtxOk X W) (ok : LcOk X scope own tg iter ifs gs cs) : PE X (.ListComp elt (⟨tg, iter, ifs, 0⟩ :: gs) scope pos) (trLc X scope own elt tg iter ifs cs) := by
  refine ⟨fun pins s σ H Q I hq => ?_⟩
  rw [eval_ListComp]
  refine lc_run c ok I hq fun D C s' m H' I' hq' hn f => ⟨m, hn, fun h'' sb => ?_⟩
  obtain ⟨f0, f1, f2, f3, f4, f5⟩ := f
  exact ⟨.ref D, H', I'.turned (t' := s'.toks) (fun b o hb e => (sb.2 b hb).trans e) f0 f1 f3 f4 f5, rfl, hq'⟩
theorem lc_fact {elt tg iter : Expr} {ifs : List Expr} {gs : List Comprehension} {cs : List Ct} (ok : LcOk X scope own tg iter ifs gs cs)
    (h : EI X W Γ tg iter (fun ds Γ1 => CD.CLp X scope (CD X scope (emV X scope elt) cs) ⟨tg, iter, ifs, own.map (·.2)⟩ ds Γ1 [] (fun Γ2 acc => Φ (.lst acc) (wipeG Γ2 (own.map (·.2))))) Ψ)
    {E : Entry} {M : Addr → Prop} {σ : L2.St} {H : Hp} {Q : VK} (A : AtM X.K E M Γ σ H) (xx : ExD X E W Ψ σ)
    (q : ∀ d Γ' p H', Φ d Γ' → ¬ M p → AtM X.K E (Mp M p) Γ' σ H' → Kp M H H' → OOk X.K (Mp M p) H' p d → (∀ (j : Nat) (x : D), Γ'[j]? ≠ some (.own p x)) → Q (.ref p) H') : trLc X scope own elt tg iter ifs cs σ H Q := by
  refine h.run (subE M Γ H) M σ H _ A.down (fun C d fs vs G M' H' hp B e4 r4 n4 z4 => xx C d fs vs G M' H' hp (A.up B) e4 r4 n4 (A.fresh0 z4)) fun ds Γ1 J H1 p1 A1 k1 it D hD => ?_
  have g : Gr H1 (upd H1 D (.lst [])) := Gr.upd hD
  have gw : Gw X DL.D.lst D (subE M Γ H) (Mp M D) Γ1 σ (upd H1 D (.lst [])) [] := ⟨A1.alloc hD g (Ob.upd fun _ z => nomatch z), .inr rfl, .inr (A1.fresh0 hD), ⟨[], upd_same, rfl⟩, own_ne A1 hD⟩
  refine loop_run (V1 := heads (cs.map (toCl X scope))) ok.ch.1 (fun Γ acc F E M σ H F' h g k => cd_run emOk_list cs ok.ch.2 Γ acc F E M σ H F' h g k) p1 gw (it.grow hD) fun Γ' acc' σ' H' p gq ag l => ?_
  have gq2 := gq.forget (σ' := σ) (V := own.map (·.2)) l.symm (fun j hj => (ag j hj).symm)
  exact q _ _ D H' p (A1.fresh hD) (A.up gq2.at_) (A.kpDown gq2.at_) gq2.obj gq2.no
/-- a comprehension as a value -/
theorem ef_lc {elt tg iter : Expr} {ifs : List Expr} {gs : List Comprehension} (c : CtxOk X W) (own : List (Str × Nat)) (cs : List Ct) (ok : LcOk X scope own tg iter ifs gs cs)
    (h : EI X W Γ tg iter (fun ds Γ1 => CD.CLp X scope (CD X scope (emV X scope elt) cs) ⟨tg, iter, ifs, own.map (·.2)⟩ ds Γ1 [] (fun Γ2 acc => Φ (.lst acc) (wipeG Γ2 (own.map (·.2))))) Ψ) :
    EF X W Γ (.ListComp elt (⟨tg, iter, ifs, 0⟩ :: gs) scope pos) Φ Ψ :=
  ⟨fun E M σ H Q A xx q => ⟨_, pe_trLc c ok, lc_fact ok h A xx q⟩⟩
/-- y = [..], on one line, y a plain local name -/
theorem ps_trLc {i : Nat} {y : Str} {py spos : Pos} {elt tg iter : Expr} {ifs : List Expr} {gs : List Comprehension} {cs : List Ct} (c : CtxOk X W) (ok : LcOk X scope own tg iter ifs gs cs) (hy : X.N[i]? = some y) (hyl : X.env.scope.names.lookup y = some .local)
    (hsw : swapsWith (.ListComp elt (⟨tg, iter, ifs, 0⟩ :: gs) scope pos) (some (.Name y py)) spos.line X.env = pure true) :
    PS X (.Assign [.Name y py] (.ListComp elt (⟨tg, iter, ifs, 0⟩ :: gs) scope pos) spos) (tAsg (trLc X scope own elt tg iter ifs cs) (gName i)) := by
  refine ⟨fun pins s σ H D' I h => ?_⟩
  rw [exec_Assign_Name_used _ _ _ _ hsw]
  refine wpAny_bind (wpAny_standAt (wpAny_bind ?_))
  have h : trLc X scope own elt tg iter ifs cs σ H (fun x H1 => D'.nx (σ.set i (some x)) H1) := h
  refine wpAny_bind (thn (lc_run (pos := pos) (Qf := fun _ s' => SP X pins D' .next s') c ok I h fun L C s' m H' I' hq' hn f => ?_) fun _ s' q => wpAny_pure (wpAny_pure q))
  refine (show wpAny _ _ (assign (.Name y py) X.env (.ref L)) _ _ _ from wpAny_assign_Name (store_ok2 (v := V.ref L) I' c.nd hy (.inl hyl) rfl (fun s2 I2 ⟨a, sb, ha⟩ => ?_) (.inr hyl)))
  obtain ⟨f0, f1, f2, f3, f4, f5⟩ := f
  have cna : C ≠ a := by
    rcases ha with z | z
    · rw [z]; exact f1
    · exact fun e => f4 y a z e.symm
  refine ⟨m, hn.sameBut sb cna, fun h3 sb3 => ?_⟩
  exact ⟨_, H', I2.turned (t' := s2.toks) (fun b o hb e => (sb3.2 b hb).trans e) f0 f1 f3 f4 f5, hq'⟩
variable {fr : Bool} {S : List Addr} {P : Post}
theorem s_setLc {i : Nat} {y : Str} {py spos : Pos} {elt tg iter : Expr} {ifs : List Expr} {gs : List Comprehension} (c : CtxOk X W) (own : List (Str × Nat)) (cs : List Ct) (ok : LcOk X scope own tg iter ifs gs cs) (hy : X.N[i]? = some y) (hyl : X.env.scope.names.lookup y = some .local)
    (hsw : swapsWith (.ListComp elt (⟨tg, iter, ifs, 0⟩ :: gs) scope pos) (some (.Name y py)) spos.line X.env = pure true)
    (h : EI X W Γ tg iter (fun ds Γ1 => CD.CLp X scope (CD X scope (emV X scope elt) cs) ⟨tg, iter, ifs, own.map (·.2)⟩ ds Γ1 [] (fun Γ2 acc => i < (wipeG Γ2 (own.map (·.2))).length ∧ P.nx ((wipeG Γ2 (own.map (·.2))).set i (.ok (.lst acc))))) P.ex) :
    S1 X W fr S Γ (.Assign [.Name y py] (.ListComp elt (⟨tg, iter, ifs, 0⟩ :: gs) scope pos) spos) P :=
  ⟨fun E M σ H D' hS A d => ⟨_, ps_trLc c ok hy hyl hsw, lc_fact (Φ := fun x G => i < G.length ∧ P.nx (G.set i (.ok x))) ok h A (d.ex σ) fun x Γ' p H' hp hm B k o n => by
    have B' := B.drop A.m0 n
    exact d.nx M _ _ H' hp.2 (B'.setOk hp.1 (o.rep hm))⟩⟩
theorem s_ownLc {i : Nat} {y : Str} {py spos : Pos} {elt tg iter : Expr} {ifs : List Expr} {gs : List Comprehension} (c : CtxOk X W) (own : List (Str × Nat)) (cs : List Ct) (ok : LcOk X scope own tg iter ifs gs cs) (hy : X.N[i]? = some y) (hyl : X.env.scope.names.lookup y = some .local)
    (hsw : swapsWith (.ListComp elt (⟨tg, iter, ifs, 0⟩ :: gs) scope pos) (some (.Name y py)) spos.line X.env = pure true)
    (h : EI X W Γ tg iter (fun ds Γ1 => CD.CLp X scope (CD X scope (emV X scope elt) cs) ⟨tg, iter, ifs, own.map (·.2)⟩ ds Γ1 [] (fun Γ2 acc => i < (wipeG Γ2 (own.map (·.2))).length ∧ ∀ p, p ∉ S → P.nx ((wipeG Γ2 (own.map (·.2))).set i (.own p (.lst acc))))) P.ex) :
    S1 X W fr S Γ (.Assign [.Name y py] (.ListComp elt (⟨tg, iter, ifs, 0⟩ :: gs) scope pos) spos) P :=
  ⟨fun E M σ H D' hS A d => ⟨_, ps_trLc c ok hy hyl hsw, lc_fact (Φ := fun x G => i < G.length ∧ ∀ p, p ∉ S → P.nx (G.set i (.own p x))) ok h A (d.ex σ) fun x Γ' p H' hp hm B k o n =>
    d.nx (Mp M p) _ _ H' (hp.2 p fun z => hm (A.m0 p (A.s0 p ((hS p).mpr z)))) (B.setOwn hp.1 ((B.new p (.inr rfl)).imp (fun z => absurd (A.m0 p z) hm) id) (.inr rfl) (fun j x e => absurd e (n j x)) o)⟩⟩
end
end DL
namespace DL
open PySem PySem.Spec L2 DLC
theorem lcOk1 {X : Cx} {scope : Scope} {own : List (Str × Nat)} {tg iter : Expr} {ifs : List Expr} (blk : BlkOk X.N X.env.scope scope own) (hs : ∀ x, foldedSetIterable iter X.env x = pure x)
    (hf : ∀ (s : Shared) (H : Hp) (C : Addr) (cl : List (Str × Addr)) (fp : List Addr) (x : Value), foldedSetIterable iter (X.blk s H scope (compEnvC scope cl C X.env) fp).env x = pure x) : LcOk X scope own tg iter ifs [] [] :=
  ⟨blk, rfl, ⟨fun _ h => (nomatch h), trivial⟩, hs, fun Y ⟨s, H, C, cl, fp, e⟩ c hc x => by
    obtain rfl := List.mem_singleton.mp hc
    rw [e]
    exact hf s H C cl fp x⟩
end DL
end

section
set_option maxRecDepth 100000
set_option maxHeartbeats 1000000
namespace DL
open PySem PySem.Spec L2
abbrev Ex0 := Addr → List (Str × D) → Prop
/-- what a def does, by trees: from its arguments, what is wanted of its value, of an exception -/
abbrev Sv := List D → (D → Prop) → Ex0 → Prop
/-- a def that changes its first argument -/
abbrev Sc := D → List D → (D → D → Prop) → (Addr → List (Str × D) → D → Prop) → Prop
def Dom (M : Addr → Prop) (H : Hp) : Prop := ∀ b, M b → Ob (H b)
def spV (K : PySem.W.Frag) (S : Sv) : Sp := fun vs H Q Ex => ∃ (M : Addr → Prop) (ds : List D) (Φ : D → Prop) (Ψ : Ex0), Dom M H ∧ Reps K M H ds vs ∧ S ds Φ Ψ ∧ (∀ d v H', Φ d → Gr H H' → Rep K M H' d v → Q v H') ∧
  ∀ C d fs us H', Ψ C fs → Gr H H' → H' d = some (.xd us) → RepF K M H' fs us → H d = none → Ex (.ref C) (some d) H'
/-- .. whose value is new, and the caller's -/
def spN (K : PySem.W.Frag) (S : Sv) : Sp := fun vs H Q _ => ∃ (M : Addr → Prop) (ds : List D) (Φ : D → Prop), Dom M H ∧ Reps K M H ds vs ∧ S ds Φ (fun _ _ => False) ∧ ∀ d p H', Φ d → Gr H H' → H p = none → OOk K (Mp M p) H' p d → Q (.ref p) H'
/-- all but what is at p -/
def Grx (p : Addr) (H H' : Hp) : Prop := ∀ b o, b ≠ p → H b = some o → H' b = some o
def spC (K : PySem.W.Frag) (S : Sc) : Sp := fun vs H Q Ex => ∃ (M : Addr → Prop) (p : Addr) (us : List V) (c : D) (ds : List D) (Φ : D → D → Prop) (Ψ : Addr → List (Str × D) → D → Prop), vs = .ref p :: us ∧ Dom M H ∧ M p ∧ OOk K M H p c ∧ Reps K M H ds us ∧ S c ds Φ Ψ ∧
  (∀ d c' v H', Φ d c' → Grx p H H' → OOk K M H' p c' → Rep K M H' d v → Q v H') ∧
  ∀ C d fs c' zs H', Ψ C fs c' → Grx p H H' → OOk K M H' p c' → H' d = some (.xd zs) → RepF K M H' fs zs → H d = none → Ex (.ref C) (some d) H'
abbrev FnD (P : Program) (w : World) (K : PySem.W.Frag) (mg : Str → Option Value) (base : Heap) (k : Nat) (f : Addr) (fd : FuncData) (ps : List Str) (sp : Sp) : Prop := FnOk P w K mg base (L2.CX P w) k f fd ps sp
/-! ### a body gives the promise -/
section
variable {P : Program} {w : World} {K : PySem.W.Frag} {mg : Str → Option Value} {base : Heap} {x qual : Str} {params : Arguments} {body : List Stmt} {scope : Scope} {dvs : List V} {kws : List (Str × V)} {f : Addr} {fd : FuncData} {N ps : List Str} {k : Nat}
theorem start_at' {N : List Str} {M : Addr → Prop} {H : Hp} {ds : List D} {vs : List V} (hl : ds.length ≤ N.length) (dm : Dom M H) (r : Reps K M H ds vs) :
    AtM K ⟨M, H, fun _ => False⟩ M (ds.map Sl.ok ++ List.replicate (N.length - ds.length) Sl.un) (L2.start N vs) H := by
  have nown : ∀ (i : Nat) (a : Addr) (d : D), (ds.map Sl.ok ++ List.replicate (N.length - ds.length) Sl.un)[i]? ≠ some (.own a d) := fun i a d h => by
    rw [List.getElem?_append] at h
    split at h
    · rw [List.getElem?_map] at h
      cases e : ds[i]? with
      | none => rw [e] at h; cases h
      | some z => rw [e] at h; cases h
    · rw [List.getElem?_replicate] at h
      split at h <;> cases h
  refine ⟨?_, fun i s h => ?_, fun i j a d e h _ => absurd h (nown i a d), fun _ m => m, fun _ m => .inl m, fun _ _ _ e => e, fun i a d h => absurd h (nown i a d), dm, fun _ z => z.elim, dm⟩
  · unfold L2.start
    rw [List.length_append, List.length_append, List.length_map, List.length_map, List.length_replicate, List.length_replicate, r.length]
  · unfold L2.start
    rw [List.getElem?_append] at h
    by_cases c : i < ds.length
    · rw [if_pos (by rw [List.length_map]; exact c), List.getElem?_map, List.getElem?_eq_getElem c] at h
      cases h
      obtain ⟨v, hv, rr⟩ := r.get (List.getElem?_eq_getElem c)
      refine ⟨v, ?_, rr⟩
      rw [List.getElem?_append, if_pos (by rw [List.length_map, r.length]; exact c), List.getElem?_map, hv]
      rfl
    · rw [if_neg (by rw [List.length_map]; exact c), List.getElem?_replicate] at h
      split at h
      · cases h; trivial
      · cases h
/-- the slots at the entry -/
abbrev G0 (N : List Str) (ds : List D) : List Sl := ds.map Sl.ok ++ List.replicate (N.length - ds.length) Sl.un
abbrev G1 (N : List Str) (p : Addr) (c : D) (ds : List D) : List Sl := .own p c :: (ds.map Sl.ok ++ List.replicate (N.length - 1 - ds.length) Sl.un)
/-- the context of a def's body -/
structure BodyOf (P : Program) (w : World) (K : PySem.W.Frag) (mg : Str → Option Value) (base : Heap) (N : List Str) (qual : Str) (scope : Scope) (k : Nat) (X : Cx) (W : WX) : Prop where
  of : ∃ (f : Addr) (cdv : Value) (A : Around) (outer : List Env) (s : Shared) (H : Hp) (E : XK), X = cxOf (L2.CX P w) P w K mg base N qual scope f cdv A outer s H E ∧ W = (fun cls d _ H => E cls d H) ∧ Room k X.A
  nd : N.Nodup
variable {S : Sv}
theorem fn_V (F : FunD K x qual params body scope dvs kws f fd) (sc : FnScope N ps scope) (n : Nat) (hn : ps.length = n) (hN : n ≤ N.length) (hlen : ∀ ds Φ Ψ, S ds Φ Ψ → ds.length = n)
    (hb : ∀ (f : Addr) (cdv : Value) (A : Around) (outer : List Env) (s : Shared) (H : Hp) (E : XK), Room k (cxOf (L2.CX P w) P w K mg base N qual scope f cdv A outer s H E).A → CtxOk (cxOf (L2.CX P w) P w K mg base N qual scope f cdv A outer s H E) (fun cls d _ H => E cls d H) →
      ∀ ds Φ Ψ, S ds Φ Ψ → SV (cxOf (L2.CX P w) P w K mg base N qual scope f cdv A outer s H E) (fun cls d _ H => E cls d H) false [] (G0 N ds) body { nx := fun _ => Φ .non, rt := fun d _ => Φ d, ex := fun C fs _ => Ψ C fs }) :
    FnD P w K mg base (k + 1) f fd ps (spV K S) := by
  refine F.ok sc (fun vs H Q E h => ?_) (fun cdv A outer s H vs Q E hr h => ?_)
  · obtain ⟨M, ds, Φ, Ψ, dm, r, hS, _⟩ := h
    rw [r.length, hlen ds Φ Ψ hS, hn]
  · obtain ⟨M, ds, Φ, Ψ, dm, r, hS, q, qx⟩ := h
    have c : CtxOk (cxOf (L2.CX P w) P w K mg base N qual scope f cdv A outer s H E) (fun cls d _ H => E cls d H) := ⟨rfl, passes_of rfl, takes_of rfl rfl rfl rfl, sc.nd⟩
    have hl : ds.length ≤ N.length := by rw [hlen ds Φ Ψ hS]; exact hN
    refine ⟨_, pss_wss, (hb f cdv A outer s H E hr c ds Φ Ψ hS).run ⟨M, H, fun _ => False⟩ M _ H _ (fun b => ⟨fun z => z.elim, fun z => nomatch z⟩) (start_at' hl dm r) ⟨fun M' G σ H' p A' => ?_, fun _ _ _ _ p => p.elim, fun _ _ _ _ p => p.elim, fun _ M' d G σ v H' p A' rr => ?_, fun z => (nomatch z), fun _ M' d G σ q' H' i hi p hs A' => ?_, fun σ C d fs us G M' H' p A' e rf nm n0 => ?_⟩⟩
    · exact q .non .non H' p (fun b o e => A'.kept b o id e) rfl
    · exact q d v H' p (fun b o e => A'.kept b o id e) (rr.mv ⟨fun b o n _ z => n (A'.m0 b z), fun _ _ _ e => e⟩)
    · have hn : H q' = none := (A'.owns i q' d hs).elim (fun z => z.elim) id
      obtain ⟨B, hm, _⟩ := A'.letGo hs hn
      have mp : M' q' := (A'.get i _ hs).2.1
      have rr : Rep K (Mm M' q') H' d (.ref q') := OOk.rep (fun z => z.2 rfl) (by rw [mp_mm mp]; exact (A'.get i _ hs).2.2)
      exact q d (.ref q') H' p (fun b o e => A'.kept b o id e) (rr.mv ⟨fun b o n _ z => n (hm b z), fun _ _ _ e => e⟩)
    · exact qx C d fs us H' p (fun b o e => A'.kept b o id e) e (rf.mv ⟨fun b o n _ z => n (A'.m0 b z), fun _ _ _ e => e⟩) n0
theorem fn_N (F : FunD K x qual params body scope dvs kws f fd) (sc : FnScope N ps scope) (n : Nat) (hn : ps.length = n) (hN : n ≤ N.length) (hlen : ∀ ds Φ Ψ, S ds Φ Ψ → ds.length = n)
    (hb : ∀ (f : Addr) (cdv : Value) (A : Around) (outer : List Env) (s : Shared) (H : Hp) (E : XK), Room k (cxOf (L2.CX P w) P w K mg base N qual scope f cdv A outer s H E).A → CtxOk (cxOf (L2.CX P w) P w K mg base N qual scope f cdv A outer s H E) (fun cls d _ H => E cls d H) →
      ∀ ds Φ, S ds Φ (fun _ _ => False) → SV (cxOf (L2.CX P w) P w K mg base N qual scope f cdv A outer s H E) (fun cls d _ H => E cls d H) true [] (G0 N ds) body { nx := fun _ => False, rt := fun d _ => Φ d, ex := fun C fs _ => False }) :
    FnD P w K mg base (k + 1) f fd ps (spN K S) := by
  refine F.ok sc (fun vs H Q E h => ?_) (fun cdv A outer s H vs Q E hr h => ?_)
  · obtain ⟨M, ds, Φ, dm, r, hS, _⟩ := h
    rw [r.length, hlen ds Φ _ hS, hn]
  · obtain ⟨M, ds, Φ, dm, r, hS, q⟩ := h
    have c : CtxOk (cxOf (L2.CX P w) P w K mg base N qual scope f cdv A outer s H E) (fun cls d _ H => E cls d H) := ⟨rfl, passes_of rfl, takes_of rfl rfl rfl rfl, sc.nd⟩
    have hl : ds.length ≤ N.length := by rw [hlen ds Φ _ hS]; exact hN
    refine ⟨_, pss_wss, (hb f cdv A outer s H E hr c ds Φ hS).run ⟨M, H, fun _ => False⟩ M _ H _ (fun b => ⟨fun z => z.elim, fun z => nomatch z⟩) (start_at' hl dm r) ⟨fun M' G σ H' p A' => p.elim, fun _ _ _ _ p => p.elim, fun _ _ _ _ p => p.elim, fun z => (nomatch z), fun _ M' d G σ p H' hp hm hnew A' o hn => ?_, fun z => (nomatch z), fun σ C d fs us G M' H' p A' e rf nm n0 => p.elim⟩⟩
    have mm : ∀ b, M b → M' b := fun b m => (A'.m0 b m).elim id fun z => by
      obtain ⟨u, e⟩ := dm b m
      have hnew : H p = none := hnew
      rw [z, hnew] at e; cases e
    have mv : Mv (Mp M' p) (Mp M p) H' H' := ⟨fun b o n _ z => n (z.imp (mm b) id), fun _ _ _ e => e⟩
    exact q d p H' hp (fun b o e => A'.kept b o id e) hnew (o.mono mv rfl)

theorem start_own {N : List Str} {M : Addr → Prop} {H : Hp} {p : Addr} {c : D} {ds : List D} {vs : List V} (hl : ds.length + 1 ≤ N.length) (dm : Dom M H) (mp : M p) (o : OOk K M H p c) (r : Reps K M H ds vs) :
    AtM K ⟨M, H, fun b => b = p⟩ M (G1 N p c ds) (L2.start N (.ref p :: vs)) H := by
  have e : L2.start N (.ref p :: vs) = some (.ref p) :: (vs.map some ++ List.replicate (N.length - 1 - vs.length) none) := by
    unfold L2.start
    rw [List.map_cons, List.cons_append, List.length_cons, show N.length - (vs.length + 1) = N.length - 1 - vs.length by omega]
  rw [e]
  have tail : ∀ (i : Nat) (s : Sl), (ds.map Sl.ok ++ List.replicate (N.length - 1 - ds.length) Sl.un)[i]? = some s → s = .un ∨ ∃ d, ds[i]? = some d ∧ s = .ok d := fun i s h => by
    rw [List.getElem?_append] at h
    split at h
    · rw [List.getElem?_map] at h
      cases e : ds[i]? with
      | none => rw [e] at h; cases h
      | some z => rw [e] at h; exact .inr ⟨z, rfl, (Option.some.inj h).symm⟩
    · rw [List.getElem?_replicate] at h
      split at h
      · exact .inl (Option.some.inj h).symm
      · cases h
  have own0 : ∀ (i : Nat) (a : Addr) (d : D), (G1 N p c ds)[i]? = some (.own a d) → i = 0 ∧ a = p := fun i a d h => by
    cases i with
    | zero => cases h; exact ⟨rfl, rfl⟩
    | succ i =>
      rcases tail i _ (by simpa using h) with z | ⟨_, _, z⟩ <;> cases z
  refine ⟨?_, fun i s h => ?_, fun i j a d e h1 h2 => by rw [(own0 i a d h1).1, (own0 j a e h2).1], fun _ m => m, fun _ m => .inl m, fun _ _ _ e => e, fun i a d h => .inl (own0 i a d h).2, dm, fun b z => by cases z; exact mp, dm⟩
  · rw [List.length_cons, List.length_cons, List.length_append, List.length_append, List.length_map, List.length_map, List.length_replicate, List.length_replicate, r.length]
  · cases i with
    | zero => cases h; exact ⟨rfl, mp, o⟩
    | succ i =>
      have h : (ds.map Sl.ok ++ List.replicate (N.length - 1 - ds.length) Sl.un)[i]? = some s := by simpa using h
      rcases tail i s h with rfl | ⟨d, hd, rfl⟩
      · trivial
      · obtain ⟨v, hv, rr⟩ := r.get hd
        refine ⟨v, ?_, rr⟩
        have l : i < vs.length := by
          by_cases l : i < vs.length
          · exact l
          · rw [List.getElem?_eq_none (by omega)] at hv; cases hv
        rw [List.getElem?_cons_succ, List.getElem?_append, if_pos (by rw [List.length_map]; exact l), List.getElem?_map, hv]
        rfl
variable {Sx : Sc}
theorem fn_C (F : FunD K x qual params body scope dvs kws f fd) (sc : FnScope N ps scope) (n : Nat) (hn : ps.length = n + 1) (hN : n + 1 ≤ N.length) (hlen : ∀ c ds Φ Ψ, Sx c ds Φ Ψ → ds.length = n)
    (hb : ∀ (f : Addr) (cdv : Value) (A : Around) (outer : List Env) (s : Shared) (H : Hp) (E : XK), Room k (cxOf (L2.CX P w) P w K mg base N qual scope f cdv A outer s H E).A → CtxOk (cxOf (L2.CX P w) P w K mg base N qual scope f cdv A outer s H E) (fun cls d _ H => E cls d H) →
      ∀ p c ds Φ Ψ, Sx c ds Φ Ψ → SV (cxOf (L2.CX P w) P w K mg base N qual scope f cdv A outer s H E) (fun cls d _ H => E cls d H) false [p] (G1 N p c ds) body
        { nx := fun G => ∃ c', G[0]? = some (.own p c') ∧ Φ .non c', rt := fun d G => ∃ c', G[0]? = some (.own p c') ∧ Φ d c', ex := fun C fs G => ∃ c', G[0]? = some (.own p c') ∧ Ψ C fs c' }) :
    FnD P w K mg base (k + 1) f fd ps (spC K Sx) := by
  refine F.ok sc (fun vs H Q E h => ?_) (fun cdv A outer s H vs Q E hr h => ?_)
  · obtain ⟨M, p, us, c, ds, Φ, Ψ, rfl, dm, mp, o, r, hS, _⟩ := h
    rw [List.length_cons, r.length, hlen c ds Φ Ψ hS, hn]
  · obtain ⟨M, p, us, c, ds, Φ, Ψ, rfl, dm, mp, o, r, hS, q, qx⟩ := h
    have cx : CtxOk (cxOf (L2.CX P w) P w K mg base N qual scope f cdv A outer s H E) (fun cls d _ H => E cls d H) := ⟨rfl, passes_of rfl, takes_of rfl rfl rfl rfl, sc.nd⟩
    have hl : ds.length + 1 ≤ N.length := by rw [hlen c ds Φ Ψ hS]; exact hN
    have back : ∀ {M' : Addr → Prop} {G : List Sl} {σ : L2.St} {H' : Hp}, AtM K ⟨M, H, fun b => b = p⟩ M' G σ H' → Mv M' M H' H' := fun A' => ⟨fun b o n _ z => n (A'.m0 b z), fun _ _ _ e => e⟩
    refine ⟨_, pss_wss, (hb f cdv A outer s H E hr cx p c ds Φ Ψ hS).run ⟨M, H, fun b => b = p⟩ M _ H _ (fun b => List.mem_singleton.symm) (start_own hl dm mp o r) ⟨fun M' G σ H' z A' => ?_, fun _ _ _ _ z => z.elim, fun _ _ _ _ z => z.elim, fun _ M' d G σ v H' z A' rr => ?_, fun z => (nomatch z), fun _ M' d G σ q' H' i hi z hs A' => ?_, fun σ C d fs us G M' H' z A' e rf nm n0 => ?_⟩⟩
    · obtain ⟨c', g0, ph⟩ := z
      exact q .non c' .non H' ph (fun b o n e => A'.kept b o n e) ((A'.get 0 _ g0).2.2.mono (back A') rfl) rfl
    · obtain ⟨c', g0, ph⟩ := z
      exact q d c' v H' ph (fun b o n e => A'.kept b o n e) ((A'.get 0 _ g0).2.2.mono (back A') rfl) (rr.mv (back A'))
    · obtain ⟨c', g0, ph⟩ := z
      have hn : H q' = none := (A'.owns i q' d hs).elim (fun z => by
        have z : q' = p := z
        subst z
        exact absurd (A'.uniq i 0 q' d c' hs g0) hi) id
      obtain ⟨B, hm, _⟩ := A'.letGo hs hn
      have mp' : M' q' := (A'.get i _ hs).2.1
      have rr : Rep K (Mm M' q') H' d (.ref q') := OOk.rep (fun z => z.2 rfl) (by rw [mp_mm mp']; exact (A'.get i _ hs).2.2)
      exact q d c' (.ref q') H' ph (fun b o n e => A'.kept b o n e) ((A'.get 0 _ g0).2.2.mono (back A') rfl) (rr.mv ⟨fun b o n _ z => n (hm b z), fun _ _ _ e => e⟩)
    · obtain ⟨c', g0, ph⟩ := z
      exact qx C d fs c' us H' ph (fun b o n e => A'.kept b o n e) ((A'.get 0 _ g0).2.2.mono (back A') rfl) e (rf.mv (back A')) n0
end
/-! ### calls -/
section
variable {X : Cx} {W : WX} {Γ : List Sl} {Φ : D → List Sl → Prop} {Ψ : Ex} {pos : Pos} {k : Nat} {f : Addr} {fd : FuncData} {ps : List Str} {x : Str} {p0 : Pos} {e : Expr} {es : List Expr}
theorem ev_call {S : Sv} (F : FnD X.prog X.w X.K X.mg X.base k f fd ps (spV X.K S)) (hr : Room k X.A) (hg : Gl X x) (hm : X.mg x = some (.ref f)) (hk : PySem.W.keepIn X.K (.ref f) = true) (hb : Binds X.K fd ps []) (tk : Takes X W)
    (h : EA X W Γ (e :: es) (fun ds Γ1 => S ds (fun d => Φ d Γ1) (fun C fs => Ψ C fs Γ1)) Ψ) (hdb : (x == ("__debug__" : Str)) = false := by decide)
    (he : starEach (e :: es) X.env = (false, eval e X.env) :: starEach es X.env := by rfl) (hpl : (backTo pos (starEach es X.env)).any (·.1) = false := by rfl) : EV X W Γ (.Call (.Name x p0) (e :: es) [] pos) Φ Ψ := by
  refine ⟨fun E M σ H Q A xx q => ⟨_, pe_callS F hr hg hm hk hb (fun σ => passAt tk σ) pa_wa hdb he hpl, ?_⟩⟩
  refine h.run E M σ H _ A xx fun ds Γ1 vs H1 p A1 k1 r => ?_
  exact ⟨M, ds, _, _, A1.dom, r, p, fun d v H' hp g rr => q d Γ1 v H' hp (A1.grow g) (k1.trans g.kp) rr, fun C d fs us H' hp g e1 rf nz => xx C d fs us Γ1 M H' hp (A1.grow g) e1 rf (A1.fresh nz) (A1.fresh0 nz)⟩
/-- f(x, ..): x one's own object, which f may change -/
theorem ev_callC {S : Sc} {i : Nat} {y : Str} {py : Pos} {p : Addr} {c0 : D} (F : FnD X.prog X.w X.K X.mg X.base k f fd ps (spC X.K S)) (hr : Room k X.A) (hg : Gl X x) (hm : X.mg x = some (.ref f)) (hk : PySem.W.keepIn X.K (.ref f) = true) (hb : Binds X.K fd ps []) (tk : Takes X W)
    (hΓ : Γ[i]? = some (.own p c0)) (hN : X.N[i]? = some y) (hv : Vis X.env.scope y)
    (h : EA X W Γ es (fun ds Γ1 => ∃ c, Γ1[i]? = some (.own p c) ∧ S c ds (fun d c' => Φ d (Γ1.set i (.own p c'))) (fun C fs c' => Ψ C fs (Γ1.set i (.own p c')))) Ψ) (hdb : (x == ("__debug__" : Str)) = false := by decide)
    (hd : (y == ("__debug__" : Str)) = false := by decide) (hcd : (y == ("__classdict__" : Str)) = false := by decide)
    (he : starEach (.Name y py :: es) X.env = (false, eval (.Name y py) X.env) :: starEach es X.env := by rfl) (hpl : (backTo pos (starEach es X.env)).any (·.1) = false := by rfl) : EV X W Γ (.Call (.Name x p0) (.Name y py :: es) [] pos) Φ Ψ := by
  refine ⟨fun E M σ H Q A xx q => ⟨_, pe_callS F hr hg hm hk hb (fun σ => passAt tk σ) (pa_cons (pe_var hN hv hd hcd) pa_wa he) hdb he hpl, ?_⟩⟩
  refine ⟨.ref p, (A.get i _ hΓ).1, ?_⟩
  refine h.run E M σ H _ A xx fun ds Γ1 vs H1 hp A1 k1 r => ?_
  obtain ⟨c, hc, hS⟩ := hp
  obtain ⟨_, mp, o⟩ := A1.get i _ hc
  have kx : ∀ {H' : Hp}, Grx p H1 H' → Kp M H1 H' := fun g b o n e => g b o (fun z => n (z ▸ mp)) e
  exact ⟨M, p, vs, c, ds, _, _, rfl, A1.dom, mp, o, r, hS, fun d c' v H' z g oo rr => q d _ v H' z (A1.change hc g oo) (k1.trans (kx g)) rr, fun C d fs c' zs H' z g oo e1 rf nz => xx C d fs zs _ M H' z (A1.change hc g oo) e1 rf (A1.fresh nz) (A1.fresh0 nz)⟩
/-- f(..), whose value is new -/
theorem ef_call {S : Sv} (F : FnD X.prog X.w X.K X.mg X.base k f fd ps (spN X.K S)) (hr : Room k X.A) (hg : Gl X x) (hm : X.mg x = some (.ref f)) (hk : PySem.W.keepIn X.K (.ref f) = true) (hb : Binds X.K fd ps []) (tk : Takes X W)
    (h : EA X W Γ (e :: es) (fun ds Γ1 => S ds (fun d => Φ d Γ1) (fun _ _ => False)) Ψ) (hdb : (x == ("__debug__" : Str)) = false := by decide)
    (he : starEach (e :: es) X.env = (false, eval e X.env) :: starEach es X.env := by rfl) (hpl : (backTo pos (starEach es X.env)).any (·.1) = false := by rfl) : EF X W Γ (.Call (.Name x p0) (e :: es) [] pos) Φ Ψ := by
  refine ⟨fun E M σ H Q A xx q => ⟨_, pe_callS F hr hg hm hk hb (fun σ => passAt tk σ) pa_wa hdb he hpl, ?_⟩⟩
  refine h.run E M σ H _ A xx fun ds Γ1 vs H1 p A1 k1 r => ?_
  exact ⟨M, ds, _, A1.dom, r, p, fun d z H' hp g nz o => q d Γ1 z H' hp (A1.fresh nz) (A1.alloc nz g o.there) (k1.trans g.kp) o (own_ne A1 nz)⟩
end
end DL
end

section
set_option maxRecDepth 100000
set_option maxHeartbeats 1000000
namespace DL
open PySem PySem.Spec L2
section
variable {X : Cx} {W : WX} {fr : Bool} {S : List Addr} {Γ : List Sl} {P : Post} {pos : Pos}
/-- x[b] = e, x one's own list -/
theorem s_store {i : Nat} {x : Str} {p0 p1 : Pos} {p : Addr} {d0 : D} {b e : Expr} (hΓ : Γ[i]? = some (.own p d0)) (hN : X.N[i]? = some x) (hv : Vis X.env.scope x)
    (h : EV X W Γ e (fun d Γ1 => EV X W Γ1 b (fun db Γ2 => ∃ ds k j, Γ2[i]? = some (.own p (.lst ds)) ∧ db = .int k ∧ ixN ds.length k = some j ∧ P.nx (Γ2.set i (.own p (.lst (ds.set j d))))) P.ex) P.ex)
    (hd : (x == ("__debug__" : Str)) = false := by decide) (cdi : (x == ("__classdict__" : Str)) = false := by decide)
    (ha : ∀ v, assign (.Subscript (.Name x p0) b p1) X.env v = (do
      let ov ← holding [v] (eval (.Name x p0) X.env)
      let iv ← holding [v, ov] (eval b X.env)
      standAt p1
      holding [v, ov, iv] (setItem ov iv v)
      release [v, ov, iv] []) := by intro _; rfl)
    (hs : swapsWithSole [.Subscript (.Name x p0) b p1] e pos.line X.env = pure false := by rfl) (hw : swappedStores [.Subscript (.Name x p0) b p1] e X.env = pure none := by rfl)
    (h1 : (assignEach [.Subscript (.Name x p0) b p1] X.env).map (·.2) = [assign (.Subscript (.Name x p0) b p1) X.env] := by rfl) : S1 X W fr S Γ (.Assign [.Subscript (.Name x p0) b p1] e pos) P := by
  refine ⟨fun E M σ H D' hS A d => ⟨_, ps_asg pe_we (pg_sub (pe_var hN hv hd cdi) pe_we set_list ha) hs hw h1, ?_⟩⟩
  refine h.run E M σ H _ A (d.ex σ) fun dd Γ1 v H1 p1 A1 k1 r1 => ?_
  refine ⟨.ref p, (A.get i _ hΓ).1, ?_⟩
  refine p1.run E M σ H1 _ A1 (d.ex σ) fun db Γ2 vb H2 p2 A2 k2 r2 => ?_
  obtain ⟨ds, k, j, g, rfl, hj, p3⟩ := p2
  obtain ⟨_, mp, vs, ho, rr⟩ := A2.get i _ g
  have r2 : vb = .int k := r2
  refine ⟨p, vs, k, j, rfl, r2, ho, by rw [rr.length]; exact hj, ?_⟩
  refine d.nx M _ σ _ p3 (A2.change g (fun b o n e => by rw [upd_ne n]; exact e) ⟨_, upd_same, ?_⟩)
  have mv : Mv M M H2 (upd H2 p (.lst (vs.set j v))) := ⟨fun _ _ n _ => n, fun b o n e => by
    have nb : b ≠ p := fun z => n (by rw [z]; exact mp)
    rw [upd_ne nb]; exact e⟩
  exact (rr.set j (r1.mv k2.mv)).mv mv
/-- x.append(e), x one's own list -/
theorem s_append {i : Nat} {x : Str} {p0 apos cpos : Pos} {p : Addr} {l0 : List D} {e : Expr} (hΓ : Γ[i]? = some (.own p (.lst l0))) (hN : X.N[i]? = some x) (hv : Vis X.env.scope x)
    (h : EV X W Γ e (fun d Γ1 => ∃ ds, Γ1[i]? = some (.own p (.lst ds)) ∧ ds.length < 10000000 ∧ P.nx (Γ1.set i (.own p (.lst (ds ++ [d]))))) P.ex)
    (hd : (x == ("__debug__" : Str)) = false := by decide) (cdi : (x == ("__classdict__" : Str)) = false := by decide)
    (hbase : attributeBase (.Name x p0) "append" X.env (eval (.Name x p0) X.env) = eval (.Name x p0) X.env := by rfl)
    (hfew : ((backTo cpos (starEach (e :: []) X.env)).all (fun x => !x.1) && (backToKw cpos (keywordEach [] X.env)).all (fun x => x.1.isSome)
      && decide ((e :: ([] : List Expr)).length + ([] : List Keyword).length + (if ([] : List Keyword).isEmpty then 0 else 1) < 30)) = true := by rfl)
    (hline : (apos.endLine == cpos.line) = true := by rfl) (hs : starEach (e :: []) X.env = (false, eval e X.env) :: starEach [] X.env := by rfl) (hplain : (backTo cpos (starEach [] X.env)).any (·.1) = false := by rfl)
    (hsw : swapsWith (.Call (.Attribute (.Name x p0) "append" apos) [e] [] cpos) none pos.line X.env = pure false := by rfl) :
    S1 X W fr S Γ (.Expr (.Call (.Attribute (.Name x p0) "append" apos) [e] [] cpos) pos) P := by
  refine ⟨fun E M σ H D' hS A d => ⟨_, ps_expr (pe_bm PySem.F.plainAttrs_list PySem.F.slot_list_append PySem.F.type_list_append mt_append (pe_var hN hv hd cdi) (pa_cons pe_we pa_nil hs) hbase hfew hline hs hplain) hsw, ?_⟩⟩
  obtain ⟨e0, m0, vs0, h0, _⟩ := A.get i _ hΓ
  refine ⟨.ref p, e0, .inl ⟨rfl, vs0, .inl (.inl h0)⟩, ?_⟩
  refine h.run E M σ H _ A (d.ex σ) fun dd Γ1 v H1 p1 A1 k1 r1 => ?_
  obtain ⟨ds, g, hl, p2⟩ := p1
  obtain ⟨_, mp, vs, ho, rr⟩ := A1.get i _ g
  refine ⟨p, vs, v, rfl, rfl, ho, by rw [rr.length, sizeLine_eq]; omega, ?_⟩
  refine d.nx M _ σ _ p2 (A1.change g (fun b o n e => by rw [upd_ne n]; exact e) ⟨_, upd_same, ?_⟩)
  have mv : Mv M M H1 (upd H1 p (.lst (vs ++ [v]))) := ⟨fun _ _ n _ => n, fun b o n e => by
    have nb : b ≠ p := fun z => n (by rw [z]; exact mp)
    rw [upd_ne nb]; exact e⟩
  exact (rr.append (Reps.cons r1 Reps.nil)).mv mv
end
theorem vis_l {sc : Scope} {x : Str} (h : sc.names.lookup x = some .local) : Vis sc x := .inl h
end DL
namespace DL
open PySem PySem.Spec L2
/-- a def of the module, by its name: its promise, how it is called -/
structure Fd (P : Program) (w : World) (K : PySem.W.Frag) (mg : Str → Option Value) (base : Heap) (k : Nat) (x : Str) (ps : List Str) (sp : Sp) : Prop where
  of : ∃ f fd, FnD P w K mg base k f fd ps sp ∧ mg x = some (.ref f) ∧ PySem.W.keepIn K (.ref f) = true ∧ Binds K fd ps []
section
variable {X : Cx} {W : WX} {fr : Bool} {S : List Addr} {Γ : List Sl} {Φ : D → List Sl → Prop} {Ψ : Ex} {P : Post} {pos : Pos} {k : Nat} {ps : List Str} {x : Str} {p0 : Pos} {e : Expr} {es : List Expr}
theorem ev_c {S : Sv} (F : Fd X.prog X.w X.K X.mg X.base k x ps (spV X.K S)) (hr : Room k X.A) (hg : Gl X x) (tk : Takes X W)
    (h : EA X W Γ (e :: es) (fun ds Γ1 => S ds (fun d => Φ d Γ1) (fun C fs => Ψ C fs Γ1)) Ψ) (hdb : (x == ("__debug__" : Str)) = false := by decide)
    (he : starEach (e :: es) X.env = (false, eval e X.env) :: starEach es X.env := by rfl) (hpl : (backTo pos (starEach es X.env)).any (·.1) = false := by rfl) : EV X W Γ (.Call (.Name x p0) (e :: es) [] pos) Φ Ψ := by
  obtain ⟨f, fd, F, hm, hk, hb⟩ := F.of
  exact ev_call F hr hg hm hk hb tk h hdb he hpl
theorem ev_cC {S : Sc} {i : Nat} {y : Str} {py : Pos} {p : Addr} {c0 : D} (F : Fd X.prog X.w X.K X.mg X.base k x ps (spC X.K S)) (hr : Room k X.A) (hg : Gl X x) (tk : Takes X W)
    (hΓ : Γ[i]? = some (.own p c0)) (hN : X.N[i]? = some y) (hv : Vis X.env.scope y)
    (h : EA X W Γ es (fun ds Γ1 => ∃ c, Γ1[i]? = some (.own p c) ∧ S c ds (fun d c' => Φ d (Γ1.set i (.own p c'))) (fun C fs c' => Ψ C fs (Γ1.set i (.own p c')))) Ψ) (hdb : (x == ("__debug__" : Str)) = false := by decide)
    (hd : (y == ("__debug__" : Str)) = false := by decide) (cdi : (y == ("__classdict__" : Str)) = false := by decide)
    (he : starEach (.Name y py :: es) X.env = (false, eval (.Name y py) X.env) :: starEach es X.env := by rfl) (hpl : (backTo pos (starEach es X.env)).any (·.1) = false := by rfl) : EV X W Γ (.Call (.Name x p0) (.Name y py :: es) [] pos) Φ Ψ := by
  obtain ⟨f, fd, F, hm, hk, hb⟩ := F.of
  exact ev_callC F hr hg hm hk hb tk hΓ hN hv h hdb hd cdi he hpl
theorem ef_c {S : Sv} (F : Fd X.prog X.w X.K X.mg X.base k x ps (spN X.K S)) (hr : Room k X.A) (hg : Gl X x) (tk : Takes X W)
    (h : EA X W Γ (e :: es) (fun ds Γ1 => S ds (fun d => Φ d Γ1) (fun _ _ => False)) Ψ) (hdb : (x == ("__debug__" : Str)) = false := by decide)
    (he : starEach (e :: es) X.env = (false, eval e X.env) :: starEach es X.env := by rfl) (hpl : (backTo pos (starEach es X.env)).any (·.1) = false := by rfl) : EF X W Γ (.Call (.Name x p0) (e :: es) [] pos) Φ Ψ := by
  obtain ⟨f, fd, F, hm, hk, hb⟩ := F.of
  exact ef_call F hr hg hm hk hb tk h hdb he hpl
/-- what holds behind a statement, said once -/
theorem sv_cut {st : Stmt} {rest : List Stmt} (J : List Sl → Prop) (h1 : S1 X W fr S Γ st (P.wnx J)) (h2 : ∀ Γ1, J Γ1 → SV X W fr S Γ1 rest P) : SV X W fr S Γ (st :: rest) P :=
  sv_cons (s1_imp h1 (fun G j => h2 G j) (fun _ _ h => h) (fun _ h => h) (fun _ h => h) (fun _ _ _ h => h))
/-! ### ranges, lists, tuples, texts walked -/
theorem itD_range {K : PySem.W.Frag} {M : Addr → Prop} {H : Hp} {lo : Int} {n : Nat} : ItD K M H (Itr lo n) ((List.range n).map fun (i : Nat) => D.int (lo + (i : Int))) := by
  have get : ∀ (i : Nat) (d : D), ((List.range n).map fun (i : Nat) => D.int (lo + (i : Int)))[i]? = some d → i < n ∧ d = .int (lo + i) := fun i d h => by
    rw [List.getElem?_map] at h
    by_cases c : i < n
    · rw [List.getElem?_range c] at h
      exact ⟨c, (Option.some.inj h).symm⟩
    · rw [List.getElem?_eq_none (by rw [List.length_range]; omega)] at h
      cases h
  refine ⟨fun i d H' h _ => (get i d h).1, fun i d H' x H2 h _ y => ?_, fun H' _ => ?_⟩
  · obtain ⟨_, rfl⟩ := get i d h
    obtain ⟨e1, e2⟩ := y
    subst e1
    exact ⟨.refl, fun M' _ _ => e2⟩
  · show n ≤ _
    rw [List.length_map, List.length_range]
    exact Nat.le_refl _
theorem ei_range1 {tg a : Expr} {Φ : List D → List Sl → Prop} (hg : Gl X "range") (hm : X.mg "range" = none) (h : EV X W Γ a (fun d Γ1 => ∃ j : Int, d = .int j ∧ -(2 ^ 62) ≤ j ∧ j < 2 ^ 62 ∧ Φ ((List.range j.toNat).map fun (i : Nat) => D.int ((0 : Int) + (i : Int))) Γ1) Ψ)
    (hs : starEach [a] X.env = [(false, eval a X.env)] := by rfl) (hs2 : starEach [a] X.env = (false, eval a X.env) :: starEach [] X.env := by rfl) : EI X W Γ tg (.Call (.Name "range" p0) [a] [] pos) Φ Ψ := by
  refine ⟨fun E M σ H R A xx q => ⟨_, pi_range1 hg hm (pa_cons pe_we pa_nil hs2) hs, ?_⟩⟩
  refine h.run E M σ H _ A xx fun d Γ1 v H1 p A1 k1 r => ?_
  obtain ⟨j, rfl, l1, l2, p⟩ := p
  have r : v = .int j := r
  exact ⟨j, by rw [r], l1, l2, q _ Γ1 _ H1 p A1 k1 itD_range⟩
theorem ei_range2 {tg a b : Expr} {Φ : List D → List Sl → Prop} (hg : Gl X "range") (hm : X.mg "range" = none)
    (h : EV X W Γ a (fun d Γ1 => EV X W Γ1 b (fun d' Γ2 => ∃ i j : Int, d = .int i ∧ d' = .int j ∧ (-(2 ^ 62) ≤ i ∧ i < 2 ^ 62 ∧ -(2 ^ 62) ≤ j ∧ j < 2 ^ 62) ∧ Φ ((List.range (j - i).toNat).map fun (t : Nat) => D.int (i + (t : Int))) Γ2) Ψ) Ψ)
    (hs : starEach [a, b] X.env = [(false, eval a X.env), (false, eval b X.env)] := by rfl) (hs2 : starEach [b] X.env = [(false, eval b X.env)] := by rfl) (h1 : starEach [a, b] X.env = (false, eval a X.env) :: starEach [b] X.env := by rfl)
    (h2 : starEach [b] X.env = (false, eval b X.env) :: starEach [] X.env := by rfl) : EI X W Γ tg (.Call (.Name "range" p0) [a, b] [] pos) Φ Ψ := by
  refine ⟨fun E M σ H R A xx q => ⟨_, pi_range2 hg hm (pa_cons pe_we (pa_cons pe_we pa_nil h2) h1) hs hs2, ?_⟩⟩
  refine h.run E M σ H _ A xx fun d Γ1 v H1 p A1 k1 r => ?_
  refine p.run E M σ H1 _ A1 xx fun d' Γ2 v' H2 p2 A2 k2 r2 => ?_
  obtain ⟨i, j, rfl, rfl, l, p3⟩ := p2
  have r : v = .int i := r
  have r2 : v' = .int j := r2
  exact ⟨i, j, by rw [r, r2], l, q _ Γ2 _ H2 p3 A2 (k1.trans k2) itD_range⟩
theorem itD_list {K : PySem.W.Frag} {M : Addr → Prop} {H1 : Hp} {a : Addr} {vs : List V} {ds : List D} (hq : ¬ M a ∧ H1 a = some (.lst vs)) (r : Reps K M H1 ds vs) : ItD K M H1 (Itl K a) ds := by
  have sq : ∀ {H : Hp}, Kp M H1 H → SqL K H a vs := fun k => .inl (.inl (k _ _ hq.1 hq.2))
  refine ⟨fun i d H h k => ?_, fun i d H x H' h k y => ?_, fun H k => ⟨vs, sq k, by rw [r.length]; exact Nat.le_refl _⟩⟩
  · obtain ⟨v, hv, _⟩ := r.get h
    exact ⟨vs, v, sq k, hv⟩
  · obtain ⟨e, y⟩ := y
    subst e
    obtain ⟨v, hv, rv⟩ := r.get h
    have ex : x = v := Option.some.inj ((y vs (sq k)).symm.trans hv)
    subst ex
    exact ⟨.refl, fun M' out _ => rv.mv ⟨out, k⟩⟩
theorem itD_tup {K : PySem.W.Frag} {M : Addr → Prop} {H1 : Hp} {a : Addr} {vs : List V} {ds : List D} (hq : (¬ M a ∧ H1 a = some (.tup vs)) ∨ ∀ G, SqT K G a vs) (r : Reps K M H1 ds vs) : ItD K M H1 (Itt K a) ds := by
  have sq : ∀ {H : Hp}, Kp M H1 H → SqT K H a vs := fun k => hq.elim (fun z => .inl (.inl (k _ _ z.1 z.2))) fun z => z _
  refine ⟨fun i d H h k => ?_, fun i d H x H' h k y => ?_, fun H k => ⟨vs, sq k, by rw [r.length]; exact Nat.le_refl _⟩⟩
  · obtain ⟨v, hv, _⟩ := r.get h
    exact ⟨vs, v, sq k, hv⟩
  · obtain ⟨e, y⟩ := y
    subst e
    obtain ⟨v, hv, rv⟩ := r.get h
    have ex : x = v := Option.some.inj ((y vs (sq k)).symm.trans hv)
    subst ex
    exact ⟨.refl, fun M' out _ => rv.mv ⟨out, k⟩⟩
theorem ei_lst {tg iter : Expr} {Φ : List D → List Sl → Prop} (h : EV X W Γ iter (fun d Γ1 => ∃ ds, d = .lst ds ∧ Φ ds Γ1) Ψ) : EI X W Γ tg iter Φ Ψ := by
  refine ⟨fun E M σ H R A xx q => ⟨_, pi_list pe_we, ?_⟩⟩
  refine h.run E M σ H _ A xx fun d Γ1 v H1 p A1 k1 r => ?_
  obtain ⟨ds, rfl, p⟩ := p
  obtain ⟨a, vs, rfl, hq, rr⟩ := r
  exact ⟨a, rfl, ⟨vs, .inl (.inl hq.2)⟩, q ds Γ1 _ H1 p A1 k1 (itD_list hq rr)⟩
theorem ei_tup {tg iter : Expr} {Φ : List D → List Sl → Prop} (h : EV X W Γ iter (fun d Γ1 => ∃ ds, d = .tup ds ∧ Φ ds Γ1) Ψ) : EI X W Γ tg iter Φ Ψ := by
  refine ⟨fun E M σ H R A xx q => ⟨_, pi_tup pe_we, ?_⟩⟩
  refine h.run E M σ H _ A xx fun d Γ1 v H1 p A1 k1 r => ?_
  obtain ⟨ds, rfl, p⟩ := p
  obtain ⟨a, vs, rfl, hq, rr⟩ := r
  exact ⟨a, rfl, ⟨vs, hq.elim (fun z => .inl (.inl z.2)) fun z => z _⟩, q ds Γ1 _ H1 p A1 k1 (itD_tup hq rr)⟩
/-! ### chains a <= b < c; membership -/
theorem et_chain {op op' : CmpOp} {a b c : Expr} {Θ : Bool → List Sl → Prop} (h : EV X W Γ a (fun da Γ1 => EV X W Γ1 b (fun db Γ2 => OpD X (compareOp op) da db (fun d => ∃ k, d = .bl k ∧ (k = false → Θ false Γ2) ∧ (k = true →
      EV X W Γ2 c (fun dc Γ3 => OpD X (compareOp op') db dc (fun d => ∃ k, d = .bl k ∧ Θ k Γ3)) Ψ))) Ψ) Ψ) (hm : lastMarks [op, op'] [b, c] = false := by with_unfolding_all rfl) : ET X W Γ (.Compare a [op, op'] [b, c] pos) Θ Ψ := by
  refine ⟨fun E M σ H Q A xx q => ⟨_, pt_chain opr_wop opr_wop pe_we pe_we pe_we hm, ?_⟩⟩
  refine h.run E M σ H _ A xx fun da Γ1 va H1 hb A1 k1 ra => ?_
  refine hb.run E M σ H1 _ A1 xx fun db Γ2 vb H2 ho A2 k2 rb => ?_
  refine ho.run M H2 va vb _ A2.dom (ra.mv k2.mv) rb fun d v H3 p g r => ?_
  obtain ⟨kk, rfl, pf, pt⟩ := p
  refine ⟨kk, r, ?_⟩
  cases kk with
  | false => exact iteF ⟨false, rfl, q false Γ2 H3 (pf rfl) (A2.grow g) (k1.trans (k2.trans g.kp))⟩
  | true =>
    refine iteT ?_
    refine (pt rfl).run E M σ H3 _ (A2.grow g) xx fun dc Γ3 vc H4 ho2 A4 k4 rc => ?_
    refine ho2.run M H4 vb vc _ A4.dom ((rb.mv g.kp.mv).mv k4.mv) rc fun d v H5 p g2 r => ?_
    obtain ⟨kk, rfl, p⟩ := p
    exact ⟨kk, r, q kk Γ3 H5 p (A4.grow g2) (k1.trans (k2.trans (g.kp.trans (k4.trans g2.kp))))⟩
end
end DL
end

section
set_option maxRecDepth 100000
set_option maxHeartbeats 1000000
namespace DL
open PySem PySem.Spec L2
section
variable {X : Cx} {W : WX} {fr : Bool} {Γ : List Sl} {Φ : D → List Sl → Prop} {Ψ : Ex} {P : D → Prop} {pos : Pos} {Θ : Bool → List Sl → Prop}
/-! ### membership -/
structure OpM (X : Cx) (f : Value → Value → Sem Value) (da db : D) (P : D → Prop) : Prop where
  run : ∀ (M : Addr → Prop) (H : Hp) (va vb : V) (Q : VK), Rep X.K M H da va → RepR X.K M H db vb → (∀ d v, P d → Rep X.K M H d v → Q v H) → wop X f va vb H Q
theorem et_mem {op : CmpOp} {a b : Expr} (ha : EV X W Γ a (fun da Γ1 => ER X W Γ1 b (fun db Γ2 => OpM X (compareOp op) da db (fun d => ∃ k, d = .bl k ∧ Θ k Γ2)) Ψ) Ψ) (hm : behindInMarks op b = false := by rfl) : ET X W Γ (.Compare a [op] [b] pos) Θ Ψ := by
  refine ⟨fun E M σ H Q A x q => ⟨_, pt_cmpR opr_wop pe_we pe_we hm, ?_⟩⟩
  refine ha.run E M σ H _ A x fun da Γ1 va H1 hb A1 k1 ra => ?_
  refine hb.run E M σ H1 _ A1 x fun db Γ2 vb H2 ho A2 k2 rb => ?_
  refine ho.run M H2 va vb _ (ra.mv k2.mv) rb fun d v p r => ?_
  obtain ⟨k, rfl, p⟩ := p
  exact ⟨k, r, q k Γ2 H2 p A2 (k1.trans k2)⟩
theorem ev_mem {op : CmpOp} {a b : Expr} (ha : EV X W Γ a (fun da Γ1 => ER X W Γ1 b (fun db Γ2 => OpM X (compareOp op) da db (fun d => Φ d Γ2)) Ψ) Ψ) (hm : behindInMarks op b = false := by rfl) : EV X W Γ (.Compare a [op] [b] pos) Φ Ψ := by
  refine ⟨fun E M σ H Q A x q => ⟨_, pe_cmpR opr_wop pe_we pe_we hm, ?_⟩⟩
  refine ha.run E M σ H _ A x fun da Γ1 va H1 hb A1 k1 ra => ?_
  refine hb.run E M σ H1 _ A1 x fun db Γ2 vb H2 ho A2 k2 rb => ?_
  exact ho.run M H2 va vb _ (ra.mv k2.mv) rb fun d v p r => q d Γ2 v H2 p A2 (k1.trans k2) r
theorem reps_strs {K : PySem.W.Frag} {M : Addr → Prop} {H : Hp} : ∀ {ss : List Str} {vs : List V}, Reps K M H (ss.map .str) vs → vs = ss.map V.str
  | [], _, h => h
  | s :: ss, _, ⟨v, r, e, h, t⟩ => by
    have h : v = .str s := h
    rw [e, h, reps_strs t]
    rfl
theorem flat_strs (ss : List Str) : (ss.map V.str).all flatV = true := by
  rw [List.all_map]
  exact List.all_eq_true.mpr fun _ _ => rfl
theorem inV_strs (x : Str) (ss : List Str) : inV (.str x) (ss.map V.str) = decide (x ∈ ss) := by
  induction ss with
  | nil => rfl
  | cons s ss ih =>
    unfold inV at ih ⊢
    rw [List.map_cons, List.any_cons, ih]
    show ((s == x) || decide (x ∈ ss)) = decide (x ∈ s :: ss)
    by_cases c : s = x
    · subst c; simp
    · have c2 : ¬ x = s := fun e => c e.symm
      simp [c, c2]
theorem m_in_l {x : Str} {ss : List Str} (h : P (.bl (decide (x ∈ ss)))) : OpM X (compareOp .In) (.str x) (.lst (ss.map .str)) P := ⟨fun M H va vb Q ra rb q => by
  obtain ⟨a, vs, rfl, hs, rr⟩ := rb
  have e := reps_strs rr
  subst e
  have ra : va = .str x := ra
  subst ra
  exact ⟨_, op_in_seq, a, _, rfl, .inl hs, rfl, flat_strs ss, by rw [inV_strs]; exact q _ _ h rfl⟩⟩
theorem m_nin_l {x : Str} {ss : List Str} (h : P (.bl (!decide (x ∈ ss)))) : OpM X (compareOp .NotIn) (.str x) (.lst (ss.map .str)) P := ⟨fun M H va vb Q ra rb q => by
  obtain ⟨a, vs, rfl, hs, rr⟩ := rb
  have e := reps_strs rr
  subst e
  have ra : va = .str x := ra
  subst ra
  exact ⟨_, op_notIn_seq, a, _, rfl, .inl hs, rfl, flat_strs ss, by rw [inV_strs]; exact q _ _ h rfl⟩⟩
theorem m_in_t {x : Str} {ss : List Str} (h : P (.bl (decide (x ∈ ss)))) : OpM X (compareOp .In) (.str x) (.tup (ss.map .str)) P := ⟨fun M H va vb Q ra rb q => by
  obtain ⟨a, vs, rfl, hs, rr⟩ := rb
  have e := reps_strs rr
  subst e
  have ra : va = .str x := ra
  subst ra
  exact ⟨_, op_in_seq, a, _, rfl, .inr hs, rfl, flat_strs ss, by rw [inV_strs]; exact q _ _ h rfl⟩⟩
theorem m_nin_t {x : Str} {ss : List Str} (h : P (.bl (!decide (x ∈ ss)))) : OpM X (compareOp .NotIn) (.str x) (.tup (ss.map .str)) P := ⟨fun M H va vb Q ra rb q => by
  obtain ⟨a, vs, rfl, hs, rr⟩ := rb
  have e := reps_strs rr
  subst e
  have ra : va = .str x := ra
  subst ra
  exact ⟨_, op_notIn_seq, a, _, rfl, .inr hs, rfl, flat_strs ss, by rw [inV_strs]; exact q _ _ h rfl⟩⟩
/-! ### a text walked, a list walked with its places -/
theorem ei_str {tg iter : Expr} {Φ : List D → List Sl → Prop} (h : EV X W Γ iter (fun d Γ1 => ∃ z, d = .str z ∧ Φ (z.cps.toList.map fun c => D.str ⟨#[c]⟩) Γ1) Ψ) : EI X W Γ tg iter Φ Ψ := by
  refine ⟨fun E M σ H R A xx q => ⟨_, pi_str pe_we, ?_⟩⟩
  refine h.run E M σ H _ A xx fun d Γ1 v H1 p A1 k1 r => ?_
  obtain ⟨z, rfl, p⟩ := p
  refine ⟨z, r, q _ Γ1 _ H1 p A1 k1 ⟨fun i d H h _ => ?_, fun i d H x H' h _ y => ?_, fun H _ => ?_⟩⟩
  · rw [List.getElem?_map] at h
    show i < z.cps.size
    by_cases c : i < z.cps.size
    · exact c
    · rw [List.getElem?_eq_none (by simpa using c)] at h; cases h
  · obtain ⟨e, c, hc, ex⟩ := y
    subst e
    rw [List.getElem?_map, Array.getElem?_toList, hc] at h
    cases h
    exact ⟨.refl, fun M' _ _ => ex⟩
  · show z.cps.size ≤ _
    rw [List.length_map, Array.length_toList]
    exact Nat.le_refl _
def enumD (ds : List D) : List D := ds.zipIdx.map fun p => D.tup [.int (p.2 : Nat), p.1]
theorem enumD_get {ds : List D} {i : Nat} {d : D} (h : (enumD ds)[i]? = some d) : ∃ x, ds[i]? = some x ∧ d = .tup [.int (i : Nat), x] := by
  unfold enumD at h
  rw [List.getElem?_map, List.getElem?_zipIdx] at h
  cases e : ds[i]? with
  | none => rw [e] at h; cases h
  | some x =>
    rw [e] at h
    refine ⟨x, rfl, ?_⟩
    have := Option.some.inj h
    simp at this
    exact this.symm
theorem enumD_length (ds : List D) : (enumD ds).length = ds.length := by unfold enumD; rw [List.length_map, List.length_zipIdx]
theorem ei_enum {e : Expr} {p0 tpos : Pos} {elts : List Expr} {kk : Nat} {Φ : List D → List Sl → Prop} (hg : Gl X "enumerate") (hm : X.mg "enumerate" = none)
    (h : EV X W Γ e (fun d Γ1 => ∃ ds, d = .lst ds ∧ Φ (enumD ds) Γ1) Ψ) (hs : starEach [e] X.env = [(false, eval e X.env)] := by rfl) (hs2 : starEach [e] X.env = (false, eval e X.env) :: starEach [] X.env := by rfl) :
    EI X W Γ (.Tuple elts kk tpos) (.Call (.Name "enumerate" p0) [e] [] pos) Φ Ψ := by
  refine ⟨fun E M σ H R A xx q => ⟨_, pi_enum hg hm (pa_cons pe_we pa_nil hs2) hs, ?_⟩⟩
  refine h.run E M σ H _ A xx fun d Γ1 v H1 p A1 k1 r => ?_
  obtain ⟨ds, rfl, p⟩ := p
  obtain ⟨a, vs, rfl, hq, rr⟩ := r
  have sq : ∀ {H : Hp}, Kp M H1 H → SqL X.K H a vs := fun k => .inl (.inl (k _ _ hq.1 hq.2))
  refine ⟨a, vs, rfl, sq .refl, q _ Γ1 _ H1 p A1 k1 ⟨fun i d H h k => ?_, fun i d H x H' h k y => ?_, fun H k => ⟨vs, sq k, by rw [enumD_length, rr.length]; exact Nat.le_refl _⟩⟩⟩
  · obtain ⟨x, hx, _⟩ := enumD_get h
    obtain ⟨v, hv, _⟩ := rr.get hx
    exact ⟨vs, v, sq k, hv⟩
  · obtain ⟨x', hx, rfl⟩ := enumD_get h
    obtain ⟨v, hv, rv⟩ := rr.get hx
    obtain ⟨T, y0, rfl, nT, rfl, yy⟩ := y
    have ey : y0 = v := Option.some.inj ((yy vs (sq k)).symm.trans hv)
    subst ey
    have g : Gr H (upd H T (.tup [.int (i : Nat), y0])) := Gr.upd nT
    refine ⟨g, fun M' out dm => ⟨T, _, rfl, .inl ⟨notM dm nT, upd_same⟩, Reps.cons rfl (Reps.cons ((rv.mv ⟨out, k⟩).mv g.kp.mv) Reps.nil)⟩⟩
/-- a, b = a tuple: the targets -/
theorem gv_tup {es : List Expr} {k n : Nat} {ds : List D} {V : List Nat} {Φ : List Sl → Prop} (hc : X.calm = true) (hl : ds.length = n) (i j : Nat) {x y : Str} {px py : Pos} (hes : es = [.Name x px, .Name y py]) {d e : D} (hds : ds = [d, e])
    (h1 : GV X (.Name x px) V d Γ (fun Γ1 => GV X (.Name y py) V e Γ1 Φ)) (hn : (assignEach es X.env).length = n := by rfl) (hst : (assignEach es X.env).findIdx? (·.1) = none := by rfl)
    (hs1 : (assignEach (.Name x px :: [.Name y py]) X.env).map (·.2) = assign (.Name x px) X.env :: (assignEach [.Name y py] X.env).map (·.2) := by rfl)
    (hs2 : (assignEach (.Name y py :: []) X.env).map (·.2) = assign (.Name y py) X.env :: (assignEach [] X.env).map (·.2) := by rfl) : GV X (.Tuple es k pos) V (.tup ds) Γ Φ := by
  subst hes hds
  refine ⟨fun E M σ H v Q A r q => ⟨_, pg_tup hc (pgs_cons pg_wg (pgs_cons pg_wg pgs_nil hs2) hs1) hn hst, ?_⟩⟩
  obtain ⟨a, vs, rfl, hq, rr⟩ := r
  obtain ⟨v1, v2, rfl, r1, r2⟩ := rr.two
  refine ⟨a, [v1, v2], rfl, hq.elim (fun z => .inl (.inl z.2)) (fun z => z _), hl, v1, [v2], rfl, ?_⟩
  refine h1.run E M σ H v1 _ A r1 fun Γ1 σ1 p1 A1 ag1 l1 => ?_
  refine ⟨v2, [], rfl, ?_⟩
  refine p1.run E M σ1 H v2 _ A1 r2 fun Γ2 σ2 p2 A2 ag2 l2 => ⟨rfl, q Γ2 σ2 p2 A2 (fun j hj => (ag2 j hj).trans (ag1 j hj)) (l2.trans l1)⟩
end
end DL
end

section
set_option maxRecDepth 100000
set_option maxHeartbeats 1000000
namespace DL
open PySem PySem.Spec L2
mutual
def py : D → PyData
  | .non => .none
  | .bl b => .bool b
  | .int i => .int i
  | .str x => .str x
  | .tup l => .tuple (pys l)
  | .lst l => .list (pys l)
  | _ => .dict []
def pys : List D → List PyData
  | [] => []
  | d :: ds => py d :: pys ds
end
theorem pys_map : ∀ ds : List D, pys ds = ds.map py
  | [] => rfl
  | d :: ds => by
    show py d :: pys ds = _
    rw [pys_map ds]
    rfl
section
variable {K : PySem.W.Frag} {M : Addr → Prop} {H : Hp}
mutual
theorem dp_of : ∀ {d : D} {v : V}, RepR K M H d v → (py d).canLay0 = true → Dp K H v (py d)
  | .non, v, h, _ => by rw [show v = .non from h]; exact .non
  | .bl b, v, h, _ => by rw [show v = .bl b from h]; exact .bl b
  | .int i, v, h, _ => by rw [show v = .int i from h]; exact .int i
  | .str x, v, h, _ => by rw [show v = .str x from h]; exact .str x
  | .tup l, v, ⟨a, vs, e, hs, rr⟩, hc => by
    rw [e]
    exact .tup hs (dps_of rr hc)
  | .lst l, v, ⟨a, vs, e, hs, rr⟩, hc => by
    rw [e]
    exact .lst hs (dps_of rr hc)
  | .ty n, v, h, hc => by cases (show false = true from hc)
  | .ref a, v, h, hc => by cases (show false = true from hc)
  | .dk l, v, h, hc => by cases (show false = true from hc)
  | .dt l, v, h, hc => by cases (show false = true from hc)
  | .ins C l, v, h, hc => by cases (show false = true from hc)
  | .exc a d l, v, h, hc => by cases (show false = true from hc)
  | .ktup ks, v, h, hc => by cases (show false = true from hc)
  | .fz l, v, h, hc => by cases (show false = true from hc)
  | .fzt l, v, h, hc => by cases (show false = true from hc)
  | .nd P w l, v, h, hc => by cases (show false = true from hc)
  | .rlst l, v, h, hc => by cases (show false = true from hc)
theorem dps_of : ∀ {ds : List D} {vs : List V}, Reps K M H ds vs → PyData.canLayAll0 (pys ds) = true → DpAll K H vs (pys ds)
  | [], vs, h, _ => by rw [show vs = [] from h]; exact .nil
  | d :: ds, vs, ⟨v, r, e, h, t⟩, hc => by
    rw [e]
    have hc : ((py d).canLay0 && PyData.canLayAll0 (pys ds)) = true := hc
    obtain ⟨h1, h2⟩ := Bool.and_eq_true_iff.mp hc
    exact .cons (dp_of h.r h1) (dps_of t h2)
end
end
section
variable {X : Cx} {W : WX} {Γ : List Sl} {Φ : D → List Sl → Prop} {Ψ : Ex} {P : D → Prop} {pos : Pos} {Θ : Bool → List Sl → Prop}
abbrev Shp (d : D) : Prop := SeqAt.shaped (py d) = true
theorem Shp.lay {d : D} (h : Shp d) : (py d).canLay0 = true := (Bool.and_eq_true_iff.mp h).1
theorem d_eqD {da db : D} (hu : X.A.units + 64 < cLine) (ha : Shp da) (hb : Shp db) (h : P (.bl (PyData.eqv (py da) (py db)))) : OpD X (compareOp .Eq) da db P :=
  gen_op (op_eqD hu) h fun M H va vb Q _ ra rb q => ⟨_, _, dp_of ra.r ha.lay, dp_of rb.r hb.lay, ha, hb, q _ H .refl rfl⟩
theorem d_neD {da db : D} (hu : X.A.units + 64 < cLine) (ha : Shp da) (hb : Shp db) (h : P (.bl (!PyData.eqv (py da) (py db)))) : OpD X (compareOp .NotEq) da db P :=
  gen_op (op_neD hu) h fun M H va vb Q _ ra rb q => ⟨_, _, dp_of ra.r ha.lay, dp_of rb.r hb.lay, ha, hb, q _ H .refl rfl⟩
/-- x == b, x one's own list -/
theorem et_eqO {i : Nat} {x : Str} {p0 : Pos} {p : Addr} {d0 : D} {b : Expr} (hu : X.A.units + 64 < cLine) (hΓ : Γ[i]? = some (.own p d0)) (hN : X.N[i]? = some x) (hv : Vis X.env.scope x)
    (h : EV X W Γ b (fun db Γ2 => ∃ c, Γ2[i]? = some (.own p c) ∧ Shp c ∧ Shp db ∧ Θ (PyData.eqv (py c) (py db)) Γ2) Ψ) (hm : behindInMarks .Eq b = false := by rfl) (hd : (x == ("__debug__" : Str)) = false := by decide)
    (hcd : (x == ("__classdict__" : Str)) = false := by decide) : ET X W Γ (.Compare (.Name x p0) [.Eq] [b] pos) Θ Ψ := by
  refine ⟨fun E M σ H Q A xx q => ⟨_, pt_cmpR (op_eqD hu) (pe_var hN hv hd hcd) pe_we hm, ?_⟩⟩
  refine ⟨.ref p, (A.get i _ hΓ).1, ?_⟩
  refine h.run E M σ H _ A xx fun db Γ2 vb H2 ho A2 k2 rb => ?_
  obtain ⟨c, hc, s1, s2, t⟩ := ho
  exact ⟨_, _, dp_of (A2.get i _ hc).2.2.r s1.lay, dp_of rb.r s2.lay, s1, s2, _, rfl, q _ Γ2 H2 t A2 k2⟩
/-- lists of texts, of bools -/
theorem lay_strs : ∀ {ss : List Str}, (∀ s ∈ ss, (s.cps.all (· < 0x110000)) = true) → PyData.canLayAll0 (pys (ss.map D.str)) = true
  | [], _ => rfl
  | s :: ss, h => by
    show ((PyData.str s).canLay0 && PyData.canLayAll0 (pys (ss.map D.str))) = true
    rw [lay_strs fun x hx => h x (List.mem_cons_of_mem _ hx), Bool.and_true]
    exact h s List.mem_cons_self
theorem depth_strs : ∀ {ss : List Str}, PyData.depthAll (pys (ss.map D.str)) = 0
  | [] => rfl
  | s :: ss => by
    show max 0 (PyData.depthAll (pys (ss.map D.str))) = 0
    rw [depth_strs]
    rfl
theorem shp_strs {ss : List Str} (h : ∀ s ∈ ss, (s.cps.all (· < 0x110000)) = true) : Shp (.lst (ss.map .str)) := by
  refine Bool.and_eq_true_iff.mpr ⟨lay_strs h, decide_eq_true ?_⟩
  show PyData.depthAll (pys (ss.map D.str)) + 1 ≤ 64
  rw [depth_strs]
  decide
theorem eqv_nil (ds : List D) : PyData.eqv (py (.lst ds)) (py (.lst [])) = ds.isEmpty := by
  cases ds <;> rfl
theorem shp_nil : Shp (.lst []) := rfl
end
theorem takes_false {Y : Cx} : Takes Y WF := fun u s' ⟨_, _, _, _, _, _, _, _, _, _, _, _, _, _, _, _, w⟩ => w.elim
end DL
namespace DL
open PySem PySem.Spec L2 DLC
/-- [e for x in xs], e without effect -/
theorem clp_map {α : Type} {X : Cx} {scope : Scope} {elt tg iter : Expr} {V : List Nat} (enc out : α → D) (as : List α) {Γ1 : List Sl} {F : List Sl → List D → Prop} (G2 : α → List Sl) (hl : as.length < 10000000)
    (hg : ∀ Y, IsBlk X scope Y → ∀ (a : α) (Φ : List Sl → Prop), Φ (G2 a) → GV Y tg V (enc a) (wipeG Γ1 V) Φ)
    (hw : ∀ a, wipeG (G2 a) V = wipeG Γ1 V)
    (he : ∀ Y, IsBlk X scope Y → ∀ a ∈ as, ∀ Φ : D → List Sl → Prop, Φ (out a) (G2 a) → EV Y WF (G2 a) elt Φ exF)
    (h : F (wipeG Γ1 V) (as.map out)) : CD.CLp X scope (CD X scope (emV X scope elt) []) ⟨tg, iter, [], V⟩ (as.map enc) Γ1 [] F := by
  refine ⟨fun i G acc => G = wipeG Γ1 V ∧ acc = (as.take i).map out, ⟨rfl, rfl⟩, fun i d G acc hd hT Y hY => ?_, fun G acc hT => ?_⟩
  · obtain ⟨rfl, rfl⟩ := hT
    rw [List.getElem?_map] at hd
    cases e : as[i]? with
    | none => rw [e] at hd; cases hd
    | some a =>
      rw [e] at hd
      cases hd
      refine hg Y hY a _ ?_
      intro Y2 hY2
      refine ts_nil ⟨fun _ => ?_, fun z => nomatch z⟩
      intro Y3 hY3
      refine he Y3 hY3 a (List.mem_of_getElem? e) _ ⟨?_, hw a, ?_⟩
      · rw [List.length_map, List.length_take]; omega
      · rw [List.take_add_one, e, List.map_append]
        rfl
  · obtain ⟨rfl, rfl⟩ := hT
    rw [List.length_map, List.take_of_length_le (Nat.le_refl _)]
    exact h
end DL
end

section
set_option maxRecDepth 100000
set_option maxHeartbeats 1000000
namespace DL
open PySem PySem.Spec L2
section
variable {X : Cx} {W : WX} {Γ : List Sl} {Φ : D → List Sl → Prop} {Ψ : Ex} {P : D → Prop} {pos : Pos} {Θ : Bool → List Sl → Prop}
theorem sizeLe {n : Nat} (h : n ≤ 10000000) : n ≤ sizeLine := by rw [sizeLine_eq]; omega
theorem d_cat {ds es : List D} (l : ds.length + es.length ≤ 10000000) (h : P (.lst (ds ++ es))) : OpD X (binaryOp .Add) (.lst ds) (.lst es) P := ⟨fun M H va vb Q dm ra rb q => by
  obtain ⟨a, vs, rfl, ⟨_, ha⟩, r1⟩ := ra
  obtain ⟨b, us, rfl, ⟨_, hb⟩, r2⟩ := rb
  refine ⟨_, op_cat, a, b, vs, us, rfl, rfl, ha, hb, by rw [r1.length, r2.length]; exact sizeLe l, fun p np => ?_⟩
  exact q _ _ _ h (Gr.upd np) ⟨p, _, rfl, ⟨notM dm np, upd_same⟩, (r1.append r2).mv (Gr.upd np).kp.mv⟩⟩
theorem d_catT {ds es : List D} (l : ds.length + es.length ≤ 10000000) (h1 : ds ≠ []) (h2 : es ≠ []) (h : P (.tup (ds ++ es))) : OpD X (binaryOp .Add) (.tup ds) (.tup es) P := ⟨fun M H va vb Q dm ra rb q => by
  obtain ⟨a, vs, rfl, ha, r1⟩ := ra.r
  obtain ⟨b, us, rfl, hb, r2⟩ := rb.r
  have n1 : vs ≠ [] := fun e => h1 (List.length_eq_zero_iff.mp (by rw [← r1.length, e]; rfl))
  have n2 : us ≠ [] := fun e => h2 (List.length_eq_zero_iff.mp (by rw [← r2.length, e]; rfl))
  refine ⟨_, op_catA, a, b, vs, us, rfl, rfl, ha, hb, by rw [r1.length, r2.length]; exact sizeLe l, fun z => absurd z n1, fun _ z => absurd z n2, fun _ _ p np => ?_⟩
  exact q _ _ _ h (Gr.upd np) ⟨p, _, rfl, .inl ⟨notM dm np, upd_same⟩, (r1.append r2).mv (Gr.upd np).kp.mv⟩⟩
/-! ### texts -/
theorem gen_op0 {f : Value → Value → Sem Value} {r : R2} {da db d : D} (o : OpR X f r) (h : P d) (w : ∀ M H va vb Q, Rep X.K M H da va → Rep X.K M H db vb → (∀ v, Rep X.K M H d v → Q v H) → r va vb H Q) : OpD X f da db P :=
  gen_op o h fun M H va vb Q _ ra rb q => w M H va vb Q ra rb fun v rr => q v H .refl rr
theorem m_in_s {c : Nat} {z : Str} (h : P (.bl (decide (c ∈ z.cps.toList)))) : OpM X (compareOp .In) (.str ⟨#[c]⟩) (.str z) P := ⟨fun M H va vb Q ra rb q => ⟨_, op_in_sign, c, z, ra, rb, q _ _ h rfl⟩⟩
theorem m_nin_s {c : Nat} {z : Str} (h : P (.bl (!decide (c ∈ z.cps.toList)))) : OpM X (compareOp .NotIn) (.str ⟨#[c]⟩) (.str z) P := ⟨fun M H va vb Q ra rb q => ⟨_, op_notIn_sign, c, z, ra, rb, q _ _ h rfl⟩⟩
def repS (n : Nat) (z : Str) : Str := ⟨(List.replicate n z.cps.toList).flatten.toArray⟩
theorem fold_rep (n : Nat) (z : Array Nat) (acc : Array Nat) : (List.replicate n z).foldl (· ++ ·) acc = acc ++ (List.replicate n z.toList).flatten.toArray := by
  induction n generalizing acc with
  | zero => simp
  | succ n ih =>
    rw [List.replicate_succ, List.foldl_cons, ih, List.replicate_succ, List.flatten_cons, Array.append_assoc]
    congr 1
    apply Array.ext'
    simp
def rMulS : R2 := fun x y H Q => ∃ (z : Str) (n : Int), x = .str z ∧ y = .int n ∧ (2 ≤ n ∧ n ≤ 10000 ∧ 1 ≤ z.length ∧ z.length ≤ 1000) ∧ Q (.str (repS n.toNat z)) H
theorem op_mulS : OpR X (binaryOp .Mult) rMulS := by
  intro pins s σ H x y v u Q I rx ry h
  obtain ⟨z, n, rfl, rfl, ⟨h1, h2, h3, h4⟩, q⟩ := h
  obtain ⟨t, rfl⟩ := rx
  obtain ⟨t', rfl⟩ := ry
  have a1 : ¬ n < 1 := by omega
  have a2 : ¬ ((n == 1 || z.length == 0) = true) := by
    rw [Bool.or_eq_true]
    rintro (e | e)
    · have := eq_of_beq e; omega
    · have := eq_of_beq e; omega
  refine PySem.P.mul_str ?_ (fun _ _ => ?_) (fun _ _ => ?_) ?_
  · rw [decide_eq_false (by omega), decide_eq_false (by omega)]; rfl
  · have : (2 ^ 63 - 1 : Int) / n ≥ (2 ^ 63 - 1) / 10000 := by
      refine Int.le_ediv_of_mul_le (by omega) ?_
      have e : ((2 : Int) ^ 63 - 1) / 10000 = 922337203685477 := by decide
      rw [e]
      have : (922337203685477 : Int) * n ≤ 922337203685477 * 10000 := by omega
      omega
    have e : ((2 : Int) ^ 63 - 1) / 10000 = 922337203685477 := by decide
    omega
  · have : z.length * n.toNat ≤ 1000 * 10000 := Nat.mul_le_mul h4 (by omega)
    unfold Builtin.Str.tooLong
    exact decide_eq_false (by rw [sizeLine_eq]; omega)
  · rw [if_neg a1, if_neg a2]
    have e : (List.replicate n.toNat z.cps).foldl (fun x1 x2 => x1 ++ x2) #[] = (repS n.toNat z).cps := by
      rw [fold_rep]
      simp [repS]
    rw [e]
    refine ⟨?_, ⟨.str (repS n.toNat z), H, I.tok _, ⟨_, rfl⟩, q⟩⟩
    refine sizeLe ?_
    show (List.replicate n.toNat z.cps.toList).flatten.toArray.size ≤ 10000000
    rw [List.size_toArray, List.length_flatten, List.map_replicate, List.sum_replicate_nat, Array.length_toList]
    have : n.toNat * z.cps.size ≤ 10000 * 1000 := Nat.mul_le_mul (by omega) h4
    omega
theorem d_muls {z : Str} {n : Int} (c : 2 ≤ n ∧ n ≤ 10000 ∧ 1 ≤ z.length ∧ z.length ≤ 1000) (h : P (.str (repS n.toNat z))) : OpD X (binaryOp .Mult) (.str z) (.int n) P :=
  gen_op0 op_mulS h fun M H va vb Q ra rb q => ⟨z, n, ra, rb, c, q _ rfl⟩
/-- x.strip(chars) -/
theorem ev_strip {o e : Expr} {apos cpos : Pos} (h : EV X W Γ o (fun d Γ1 => ∃ a, d = .str a ∧ EV X W Γ1 e (fun d2 Γ2 => ∃ b, d2 = .str b ∧ a.length ≤ sizeLine ∧ Φ (.str (Txt.stripChars a b)) Γ2) Ψ) Ψ)
    (hbase : attributeBase o "strip" X.env (eval o X.env) = eval o X.env := by rfl)
    (hfew : ((backTo cpos (starEach (e :: []) X.env)).all (fun x => !x.1) && (backToKw cpos (keywordEach [] X.env)).all (fun x => x.1.isSome)
      && decide ((e :: ([] : List Expr)).length + ([] : List Keyword).length + (if ([] : List Keyword).isEmpty then 0 else 1) < 30)) = true := by rfl)
    (hline : (apos.endLine == cpos.line) = true := by rfl) (hs : starEach (e :: []) X.env = (false, eval e X.env) :: starEach [] X.env := by rfl) (hplain : (backTo cpos (starEach [] X.env)).any (·.1) = false := by rfl) :
    EV X W Γ (.Call (.Attribute o "strip" apos) [e] [] cpos) Φ Ψ := by
  refine ⟨fun E M σ H Q A x q => ⟨_, pe_bm PySem.F.plainAttrs_str PySem.F.slot_str_strip PySem.F.type_str_strip mt_stripChars pe_we (pa_cons pe_we pa_nil hs) hbase hfew hline hs hplain, ?_⟩⟩
  refine h.run E M σ H _ A x fun d Γ1 v H1 p1 A1 k1 r1 => ?_
  obtain ⟨a, rfl, p1⟩ := p1
  have r1 : v = .str a := r1
  refine ⟨by rw [r1]; rfl, ?_⟩
  · refine p1.run E M σ H1 _ A1 x fun d2 Γ2 v2 H2 p2 A2 k2 r2 => ?_
    obtain ⟨b, rfl, l, p3⟩ := p2
    exact ⟨a, b, r1, by rw [show v2 = .str b from r2], l, q _ Γ2 _ H2 p3 A2 (k1.trans k2) rfl⟩
/-! ### is None, is True -/
def isNon : D → Bool
  | .non => true
  | _ => false
theorem rep_non {K : PySem.W.Frag} {M : Addr → Prop} {H : Hp} {d : D} {v : V} (h : Rep K M H d v) : decide (v = V.non) = isNon d := by
  cases d with
  | non => rw [show v = .non from h]; rfl
  | bl b => rw [show v = .bl b from h]; rfl
  | int b => rw [show v = .int b from h]; rfl
  | str b => rw [show v = .str b from h]; rfl
  | ty b => rw [show v = .ty b from h]; rfl
  | ref b => rw [show v = .ref b from h]; rfl
  | tup b => obtain ⟨a, vs, rfl, _⟩ := h; rfl
  | lst b => obtain ⟨a, vs, rfl, _⟩ := h; rfl
  | dk b => obtain ⟨a, vs, rfl, _⟩ := h; rfl
  | dt b => obtain ⟨a, vs, rfl, _⟩ := h; rfl
  | ins C b => obtain ⟨a, dx, vs, rfl, _⟩ := h; rfl
  | exc a d b => obtain ⟨vs, rfl, _⟩ := h; rfl
  | ktup ks => obtain ⟨a, rfl, _⟩ := h; rfl
  | fz l => obtain ⟨a, _, _, rfl, _⟩ := h; rfl
  | fzt l => obtain ⟨a, _, _, rfl, _⟩ := h; rfl
  | nd P w l => obtain ⟨a, _, rfl, _⟩ := h; rfl
  | rlst l => obtain ⟨a, _, rfl, _⟩ := h; rfl
theorem d_isN {d : D} (h : P (.bl (isNon d))) : OpD X (compareOp .Is) d .non P := gen_op0 op_isN h fun M H va vb Q ra rb q => ⟨rb, by rw [rep_non ra]; exact q _ rfl⟩
theorem d_notN {d : D} (h : P (.bl (!isNon d))) : OpD X (compareOp .IsNot) d .non P := gen_op0 op_notN h fun M H va vb Q ra rb q => ⟨rb, by rw [rep_non ra]; exact q _ rfl⟩
def isBl (k : Bool) : D → Bool
  | .bl b => decide (b = k)
  | _ => false
def rIsK' (k : Bool) : R2 := fun x y H Q => y = .bl k ∧ (∀ p, x = .ref p → True) ∧ Q (.bl (decide (x = .bl k))) H
theorem op_isB {k : Bool} : OpR X (compareOp .Is) (rIsK' k) := by
  intro pins s σ H x y v u Q I rx ry h
  obtain ⟨rfl, _, q⟩ := h
  cases (show u = Value.bool k from ry)
  have go : ∀ (b : Bool), plainIs v (.bool k) = true → v ≠ .bool k → decide (x = .bl k) = false → wpAny (model X.prog X.w) X.A (compareOp .Is v (.bool k)) (EP X pins σ Q) X.xe s := fun b h1 h2 e => wpAny_is_other h1 h2 ⟨.bl false, H, I, rfl, by rw [e] at q; exact q⟩
  cases x with
  | bl b =>
    cases (show v = Value.bool b from rx)
    by_cases e : b = k
    · subst e
      exact wpAny_is_self rfl ⟨.bl true, H, I, rfl, by simpa using q⟩
    · exact go b rfl (fun z => e (Value.bool.inj z)) (by simpa using e)
  | non => cases (show v = Value.none from rx); exact go k rfl (fun z => nomatch z) rfl
  | int i => obtain ⟨t, rfl⟩ := rx; exact go k rfl (fun z => nomatch z) rfl
  | str i => obtain ⟨t, rfl⟩ := rx; exact go k rfl (fun z => nomatch z) rfl
  | byt i => obtain ⟨t, rfl⟩ := rx; exact go k rfl (fun z => nomatch z) rfl
  | flt i => obtain ⟨t, rfl⟩ := rx; exact go k rfl (fun z => nomatch z) rfl
  | ref a => cases (show v = Value.ref a from rx); exact go k rfl (fun z => nomatch z) rfl
  | ty n => cases (show v = Value.type n from rx); exact go k rfl (fun z => nomatch z) rfl
theorem rep_bl {K : PySem.W.Frag} {M : Addr → Prop} {H : Hp} {d : D} {v : V} {k : Bool} (h : Rep K M H d v) : decide (v = V.bl k) = isBl k d := by
  cases d with
  | non => rw [show v = .non from h]; rfl
  | bl b => rw [show v = .bl b from h]; by_cases e : b = k <;> simp [isBl, e]
  | int b => rw [show v = .int b from h]; rfl
  | str b => rw [show v = .str b from h]; rfl
  | ty b => rw [show v = .ty b from h]; rfl
  | ref b => rw [show v = .ref b from h]; rfl
  | tup b => obtain ⟨a, vs, rfl, _⟩ := h; rfl
  | lst b => obtain ⟨a, vs, rfl, _⟩ := h; rfl
  | dk b => obtain ⟨a, vs, rfl, _⟩ := h; rfl
  | dt b => obtain ⟨a, vs, rfl, _⟩ := h; rfl
  | ins C b => obtain ⟨a, dx, vs, rfl, _⟩ := h; rfl
  | exc a d b => obtain ⟨vs, rfl, _⟩ := h; rfl
  | ktup ks => obtain ⟨a, rfl, _⟩ := h; rfl
  | fz l => obtain ⟨a, _, _, rfl, _⟩ := h; rfl
  | fzt l => obtain ⟨a, _, _, rfl, _⟩ := h; rfl
  | nd P w l => obtain ⟨a, _, rfl, _⟩ := h; rfl
  | rlst l => obtain ⟨a, _, rfl, _⟩ := h; rfl
theorem d_isB {d : D} {k : Bool} (h : P (.bl (isBl k d))) : OpD X (compareOp .Is) d (.bl k) P := gen_op0 op_isB h fun M H va vb Q ra rb q => ⟨rb, fun _ _ => True.intro, by rw [rep_bl ra]; exact q _ rfl⟩
/-! ### isinstance -/
def tyName : D → String
  | .non => "NoneType" | .bl _ => "bool" | .int _ => "int" | .str _ => "str" | .tup _ => "tuple" | .lst _ => "list" | .dk _ => "dict" | .dt _ => "dict" | _ => ""
def isKind : D → Bool
  | .ty _ => false | .ref _ => false | .ins _ _ => false | .dt _ => false | .exc _ _ _ => false | .ktup _ => false | .fz _ => false | .fzt _ => false | .nd _ _ _ => false | .rlst _ => false | _ => true
theorem rep_ty {K : PySem.W.Frag} {M : Addr → Prop} {H : Hp} {d : D} {v : V} (h : Rep K M H d v) (hk : isKind d = true) : TyX K H v (.type (tyName d)) := by
  cases d with
  | non => rw [show v = .non from h]; exact .base .non
  | bl b => rw [show v = .bl b from h]; exact .base (.bl b)
  | int b => rw [show v = .int b from h]; exact .base (.int b)
  | str b => rw [show v = .str b from h]; exact .base (.str b)
  | tup b =>
    obtain ⟨a, vs, rfl, r, _⟩ := h
    rcases r with r | r
    · exact .base (.tup r.2)
    · rcases r H with (e | ⟨o, e⟩) | ⟨o, its, n, e, c, _⟩
      · exact .base (.tup e)
      · exact .fTuple e
      · exact .kTuple e c
  | lst b => obtain ⟨a, vs, rfl, r, _⟩ := h; exact .base (.lst r.2)
  | dk b =>
    obtain ⟨a, vs, rfl, _, r, _⟩ := h
    rcases r with e | ⟨o, e⟩
    · exact .base (.dK e)
    · exact .fDict e
  | dt b => cases hk
  | ty b => cases hk
  | ref b => cases hk
  | ins C b => cases hk
  | exc a d b => cases hk
  | ktup ks => cases hk
  | fz l => cases hk
  | fzt l => cases hk
  | nd P w l => cases hk
  | rlst l => cases hk
theorem c_isi {d : D} {n : String} {b : Bool} (hk : isKind d = true) (e : kitB (tyName d) n = some b) (h : P (.bl b)) : CnD X (.builtin "isinstance") [d, .ty n] P := ⟨fun M H vs Q dm r q => by
  obtain ⟨v, u, rfl, r1, r2⟩ := r.two
  exact ⟨_, call_isi, v, u, _, _, b, rfl, by rw [show u = .ty n from r2]; exact .ty n, rep_ty r1 hk, kit_ty e, q _ _ _ h .refl rfl⟩⟩
/-- the name of a built-in class, as a value -/
theorem ev_tyN {x : Str} {n : String} (hg : Gl X x) (hm : X.mg x = none) (hv : bootBuiltins x = some (.type n)) (h : Φ (.ty n) Γ) (hn : x ≠ "__name__" := by decide) (hd : (x == ("__debug__" : Str)) = false := by decide) : EV X W Γ (.Name x pos) Φ Ψ :=
  ⟨fun E M σ H Q A xx q => ⟨_, pe_bltn (v := .ty n) hg hm hv rfl hn hd, q _ Γ _ H h A .refl rfl⟩⟩
/-! ### min, max of two texts -/
def bestL (x y : Str) : Str := if y.cps.toList < x.cps.toList then y else x
def bestG (x y : Str) : Str := if x.cps.toList < y.cps.toList then y else x
def two (x y : Str) : Nat → Str
  | 0 => x
  | _ => y
theorem two_at {x y : Str} {t u : Tok} {i : Nat} {v : Value} (h : (#[Value.str x t, Value.str y u] : Array Value)[i]? = some v) : ∃ k, v = .str (two x y i) k := by
  match i, h with
  | 0, h => cases h; exact ⟨t, rfl⟩
  | 1, h => cases h; exact ⟨u, rfl⟩
  | n + 2, h => simp at h
theorem cmpS_lt {P : Program} {w : World} {A : Around} (x y : Str) (t u : Tok) : CmpOf P w A .Lt (fun i v => (#[Value.str x t, Value.str y u] : Array Value)[i]? = some v) (fun i j => decide ((two x y i).cps.toList < (two x y j).cps.toList)) := fun i j vi vj s Q E hi hj h => by
  obtain ⟨k, rfl⟩ := two_at hi
  obtain ⟨k2, rfl⟩ := two_at hj
  exact PySem.P.lt_str h
theorem cmpS_gt {P : Program} {w : World} {A : Around} (x y : Str) (t u : Tok) : CmpOf P w A .Gt (fun i v => (#[Value.str x t, Value.str y u] : Array Value)[i]? = some v) (fun i j => decide ((two x y j).cps.toList < (two x y i).cps.toList)) := fun i j vi vj s Q E hi hj h => by
  obtain ⟨k, rfl⟩ := two_at hi
  obtain ⟨k2, rfl⟩ := two_at hj
  exact PySem.P.gt_str h
/-- two new places lie past a heap -/
theorem fresh_two {h : Heap} {o1 o2 : Obj} {c : Addr} (hsz : (h.push o1).objs.size = h.objs.size + 1) (hc : c ∈ [(h.push o1).objs.size, h.objs.size]) : c < ((h.push o1).push o2).objs.size := by
  rw [Heap.size_push, hsz]
  rcases List.mem_cons.mp hc with p | p
  · rw [p, hsz]
    exact Nat.lt_succ_self _
  · rw [List.mem_singleton.mp p]
    exact Nat.lt_succ_of_le (Nat.le_succ _)
theorem kept_two {h g : Heap} {o1 o2 : Obj} (hsz : (h.push o1).objs.size = h.objs.size + 1) (hk : ∀ c o, c ∉ [(h.push o1).objs.size] → ((h.push o1).push o2).get? c = some o → g.get? c = some o) : ∀ c o, h.get? c = some o → g.get? c = some o := fun c o e =>
  hk c o (fun m => by
    have lt := Heap.lt_size e
    rw [List.mem_singleton.mp m, hsz] at lt
    exact absurd lt (Nat.not_lt.mpr (Nat.le_succ _))) (Heap.get?_push_of_some _ (Heap.get?_push_of_some _ e))
theorem min2S {prog : Program} {w : World} {A : Around} {E : Value → Shared → Prop} {s : Shared} {Q : Value → Shared → Prop} {x y : Str} {t u : Tok} (hh : A.handled = none)
    (h : ∀ h' tk k, (∀ c o, s.heap.get? c = some o → h'.get? c = some o) → Q (.str (bestL x y) k) { s with heap := h', toks := tk }) :
    wpAny (model prog w) A (call (.builtin "min") [.str x t, .str y u]) Q E s := by
  have hT : (s.heap.push { cls := .type "tuple", data := .seq #[Value.str x t, Value.str y u] }).IsTuple s.heap.objs.size #[Value.str x t, Value.str y u] := ⟨_, Heap.get?_push_size _ rfl, rfl, 0, rfl⟩
  apply call_min_two
  refine wpAny_pyIter_tuple hT ?_
  have hsz : (s.heap.push { cls := .type "tuple", data := .seq #[Value.str x t, Value.str y u] }).objs.size = s.heap.objs.size + 1 := Heap.size_push ..
  refine ⟨_, [_, s.heap.objs.size], [_], _, _, _, _, rfl, Walks.tuple (A := A.in1) hh _ s.heap.objs.size (by rw [hsz]; exact Nat.ne_of_lt (Nat.lt_succ_self _)) #[Value.str x t, Value.str y u],
    ⟨⟨_, Heap.get?_push_size _ rfl, rfl, rfl⟩, hT.push _⟩, fun c hc => ?_, by simp, cmpS_lt x y t u, fun v h' tk hP hk => ?_⟩
  · exact fresh_two hsz hc
  · have hold := kept_two hsz hk
    obtain ⟨k, e⟩ := two_at hP
    have := h h' tk k hold
    have ev : two x y (argBest (fun i j => decide ((two x y i).cps.toList < (two x y j).cps.toList)) 1) = bestL x y := by
      unfold bestL
      show two x y (if decide (y.cps.toList < x.cps.toList) = true then 1 else 0) = _
      by_cases c : y.cps.toList < x.cps.toList
      · rw [if_pos (decide_eq_true c), if_pos c]; rfl
      · rw [if_neg (fun z => c (of_decide_eq_true z)), if_neg c]; rfl
    have ev2 : two x y (argBest (fun i j => decide ((two x y i).cps.toList < (two x y j).cps.toList)) ((#[Value.str x t, Value.str y u] : Array Value).size - 1)) = bestL x y := ev
    rw [ev2] at e
    rw [e]
    exact this
theorem max2S {prog : Program} {w : World} {A : Around} {E : Value → Shared → Prop} {s : Shared} {Q : Value → Shared → Prop} {x y : Str} {t u : Tok} (hh : A.handled = none)
    (h : ∀ h' tk k, (∀ c o, s.heap.get? c = some o → h'.get? c = some o) → Q (.str (bestG x y) k) { s with heap := h', toks := tk }) :
    wpAny (model prog w) A (call (.builtin "max") [.str x t, .str y u]) Q E s := by
  have hT : (s.heap.push { cls := .type "tuple", data := .seq #[Value.str x t, Value.str y u] }).IsTuple s.heap.objs.size #[Value.str x t, Value.str y u] := ⟨_, Heap.get?_push_size _ rfl, rfl, 0, rfl⟩
  apply call_max_two
  refine wpAny_pyIter_tuple hT ?_
  have hsz : (s.heap.push { cls := .type "tuple", data := .seq #[Value.str x t, Value.str y u] }).objs.size = s.heap.objs.size + 1 := Heap.size_push ..
  refine ⟨_, [_, s.heap.objs.size], [_], _, _, _, _, rfl, Walks.tuple (A := A.in1) hh _ s.heap.objs.size (by rw [hsz]; exact Nat.ne_of_lt (Nat.lt_succ_self _)) #[Value.str x t, Value.str y u],
    ⟨⟨_, Heap.get?_push_size _ rfl, rfl, rfl⟩, hT.push _⟩, fun c hc => ?_, by simp, cmpS_gt x y t u, fun v h' tk hP hk => ?_⟩
  · exact fresh_two hsz hc
  · have hold := kept_two hsz hk
    obtain ⟨k, e⟩ := two_at hP
    have := h h' tk k hold
    have ev2 : two x y (argBest (fun i j => decide ((two x y j).cps.toList < (two x y i).cps.toList)) ((#[Value.str x t, Value.str y u] : Array Value).size - 1)) = bestG x y := by
      unfold bestG
      show two x y (if decide (x.cps.toList < y.cps.toList) = true then 1 else 0) = _
      by_cases c : x.cps.toList < y.cps.toList
      · rw [if_pos (decide_eq_true c), if_pos c]; rfl
      · rw [if_neg (fun z => c (of_decide_eq_true z)), if_neg c]; rfl
    rw [ev2] at e
    rw [e]
    exact this
def rMin2S : List V → Hp → VK → Prop := fun xs H Q => ∃ x y, xs = [.str x, .str y] ∧ Q (.str (bestL x y)) H
def rMax2S : List V → Hp → VK → Prop := fun xs H Q => ∃ x y, xs = [.str x, .str y] ∧ Q (.str (bestG x y)) H
theorem call_min2S (hc : X.calm = true) : CallR X (.builtin "min") rMin2S := by
  intro pins s σ H xs us Q I r h
  obtain ⟨x, y, rfl, q⟩ := h
  obtain ⟨u, v, rfl, ⟨t, rfl⟩, ⟨p, rfl⟩⟩ := vals2 r
  exact min2S (I.ok.hd hc) fun h' tk k kk => ⟨.str (bestL x y), H, I.kept kk, ⟨k, rfl⟩, q⟩
theorem call_max2S (hc : X.calm = true) : CallR X (.builtin "max") rMax2S := by
  intro pins s σ H xs us Q I r h
  obtain ⟨x, y, rfl, q⟩ := h
  obtain ⟨u, v, rfl, ⟨t, rfl⟩, ⟨p, rfl⟩⟩ := vals2 r
  exact max2S (I.ok.hd hc) fun h' tk k kk => ⟨.str (bestG x y), H, I.kept kk, ⟨k, rfl⟩, q⟩
theorem c_max2S {i j : Str} (hc : X.calm = true) (h : P (.str (bestG i j))) : CnD X (.builtin "max") [.str i, .str j] P := ⟨fun M H vs Q dm r q => by
  obtain ⟨v, u, rfl, r1, r2⟩ := r.two
  exact ⟨_, call_max2S hc, i, j, by rw [show v = .str i from r1, show u = .str j from r2], q _ _ _ h .refl rfl⟩⟩
theorem c_min2S {i j : Str} (hc : X.calm = true) (h : P (.str (bestL i j))) : CnD X (.builtin "min") [.str i, .str j] P := ⟨fun M H vs Q dm r q => by
  obtain ⟨v, u, rfl, r1, r2⟩ := r.two
  exact ⟨_, call_min2S hc, i, j, by rw [show v = .str i from r1, show u = .str j from r2], q _ _ _ h .refl rfl⟩⟩
/-! ### sorted of texts; all of bools -/
theorem c_sortedS {ss : List Str} (hl : ss.length < 64) (h : ∀ ys : List Str, ys.Perm ss → PyProof.Rows.sortedS ys = true → P (.lst (ys.map .str))) : C1D X (.builtin "sorted") (.lst (ss.map .str)) P := ⟨fun M H v Q dm r q => by
  obtain ⟨a, vs, rfl, hs, rr⟩ := r
  have e := reps_strs rr
  subst e
  refine ⟨_, cr_sortedS, a, ss, rfl, hs, hl, fun ys p hp so np => ?_⟩
  refine q _ _ _ (h ys hp so) (Gr.upd np) ⟨p, _, rfl, ⟨notM dm np, upd_same⟩, ?_⟩
  exact reps_of_strs⟩
where
  reps_of_strs {K : PySem.W.Frag} {M : Addr → Prop} {H : Hp} : ∀ {ys : List Str}, Reps K M H (ys.map .str) (ys.map V.str)
  | [] => rfl
  | y :: ys => ⟨_, _, rfl, rfl, reps_of_strs⟩
theorem reps_bls {K : PySem.W.Frag} {M : Addr → Prop} {H : Hp} : ∀ {ss : List Bool} {vs : List V}, Reps K M H (ss.map .bl) vs → vs = ss.map V.bl
  | [], _, h => h
  | s :: ss, _, ⟨v, r, e, h, t⟩ => by
    have h : v = .bl s := h
    rw [e, h, reps_bls t]
    rfl
theorem c_all {bs : List Bool} (hc : X.calm = true) (h : P (.bl (bs.all id))) : C1D X (.builtin "all") (.lst (bs.map .bl)) P := ⟨fun M H v Q dm r q => by
  obtain ⟨a, vs, rfl, hs, rr⟩ := r
  have e := reps_bls rr
  subst e
  exact ⟨_, cr_all hc, a, bs, rfl, hs, q _ _ _ h .refl rfl⟩⟩
end
end DL
end

section
set_option maxRecDepth 100000
set_option maxHeartbeats 1000000
namespace DL
open PySem PySem.Spec L2
/-! ## dicts -/
def getD' {κ : Type} [DecidableEq κ] (l : List (κ × D)) (k : κ) : Option D := (l.find? fun kv => decide (kv.1 = k)).map (·.2)
def putD {κ : Type} [DecidableEq κ] (l : List (κ × D)) (k : κ) (d : D) : List (κ × D) := if (l.any fun kv => decide (kv.1 = k)) = true then l.map (fun kv => if kv.1 = k then (kv.1, d) else kv) else l ++ [(k, d)]
def keyD : Key → D
  | .inl i => .int i
  | .inr x => .str x
theorem rep_key {K : PySem.W.Frag} {M : Addr → Prop} {H : Hp} {k : Key} {v : V} (h : Rep K M H (keyD k) v) : v = kV k := by
  cases k with
  | inl i => exact h
  | inr x => exact h
section
variable {K : PySem.W.Frag} {M : Addr → Prop} {H : Hp}
theorem RepK.length : ∀ {l : List (Key × D)} {vs : List (Key × V)}, RepK K M H l vs → vs.length = l.length
  | [], _, h => by rw [show _ = ([] : List (Key × V)) from h]; rfl
  | (k, d) :: ds, _, ⟨v, r, e, _, t⟩ => by rw [e, List.length_cons, List.length_cons, RepK.length t]
theorem RepK.get {k : Key} {d : D} : ∀ {l : List (Key × D)} {vs : List (Key × V)}, RepK K M H l vs → getD' l k = some d → ∃ v, valV vs k = some v ∧ Rep K M H d v
  | [], _, _, e => by cases e
  | (k0, d0) :: ds, _, ⟨v, r, e, h, t⟩, q => by
    subst e
    unfold getD' valV at *
    rw [List.find?_cons] at q ⊢
    by_cases c : k0 = k
    · simp only [c, decide_true] at q ⊢
      cases q
      exact ⟨v, rfl, h⟩
    · simp only [c, decide_false] at q ⊢
      exact RepK.get t q
theorem RepK.get_none {k : Key} : ∀ {l : List (Key × D)} {vs : List (Key × V)}, RepK K M H l vs → getD' l k = none → valV vs k = none
  | [], _, h, _ => by rw [show _ = ([] : List (Key × V)) from h]; rfl
  | (k0, d0) :: ds, _, ⟨v, r, e, h, t⟩, q => by
    subst e
    unfold getD' valV at *
    rw [List.find?_cons] at q ⊢
    by_cases c : k0 = k
    · simp only [c, decide_true] at q
      cases q
    · simp only [c, decide_false] at q ⊢
      exact RepK.get_none t q
theorem RepK.any {k : Key} : ∀ {l : List (Key × D)} {vs : List (Key × V)}, RepK K M H l vs → (vs.any fun kv => decide (kv.1 = k)) = l.any fun kv => decide (kv.1 = k)
  | [], _, h => by rw [show _ = ([] : List (Key × V)) from h]; rfl
  | (k0, d0) :: ds, _, ⟨v, r, e, h, t⟩ => by
    subst e
    rw [List.any_cons, List.any_cons, RepK.any t]
theorem RepK.upd {k : Key} {d : D} {v : V} (hd : Rep K M H d v) : ∀ {l : List (Key × D)} {vs : List (Key × V)}, RepK K M H l vs → RepK K M H (l.map fun kv => if kv.1 = k then (kv.1, d) else kv) (vs.map fun kv => if kv.1 = k then (kv.1, v) else kv)
  | [], _, h => by rw [show _ = ([] : List (Key × V)) from h]; exact rfl
  | (k0, d0) :: ds, _, ⟨v0, r, e, h, t⟩ => by
    subst e
    rw [List.map_cons, List.map_cons]
    by_cases c : k0 = k
    · simp only [c, if_true]
      exact ⟨v, _, rfl, hd, RepK.upd hd t⟩
    · simp only [c, if_false]
      exact ⟨v0, _, rfl, h, RepK.upd hd t⟩
theorem RepK.snoc {k : Key} {d : D} {v : V} (hd : Rep K M H d v) : ∀ {l : List (Key × D)} {vs : List (Key × V)}, RepK K M H l vs → RepK K M H (l ++ [(k, d)]) (vs ++ [(k, v)])
  | [], _, h => by rw [show _ = ([] : List (Key × V)) from h]; exact ⟨v, [], rfl, hd, rfl⟩
  | (k0, d0) :: ds, _, ⟨v0, r, e, h, t⟩ => by
    subst e
    exact ⟨v0, _, rfl, h, RepK.snoc hd t⟩
theorem RepK.put {k : Key} {d : D} {v : V} {l : List (Key × D)} {vs : List (Key × V)} (h : RepK K M H l vs) (hd : Rep K M H d v) : RepK K M H (putD l k d) (putK vs k v) := by
  unfold putD putK
  rw [h.any]
  split
  · exact RepK.upd hd h
  · exact RepK.snoc hd h
theorem putD_new {l : List (Key × D)} {k : Key} {d : D} (h : k ∉ l.map (·.1)) : putD l k d = l ++ [(k, d)] := by
  unfold putD
  rw [if_neg]
  intro q
  obtain ⟨x, hx, e⟩ := List.any_eq_true.mp q
  exact h (of_decide_eq_true e ▸ List.mem_map.mpr ⟨x, hx, rfl⟩)
end
section
variable {X : Cx} {W : WX} {fr : Bool} {S : List Addr} {Γ : List Sl} {P : Post} {pos : Pos} {Φ : D → List Sl → Prop} {Ψ : Ex} {Θ : Bool → List Sl → Prop}
/-- x[b] = e, x one's own dict -/
theorem s_dput {i : Nat} {x : Str} {p0 p1 : Pos} {p : Addr} {d0 : D} {b e : Expr} (hu : X.A.units + 64 < cLine) (hΓ : Γ[i]? = some (.own p d0)) (hN : X.N[i]? = some x) (hv : Vis X.env.scope x)
    (h : EV X W Γ e (fun d Γ1 => EV X W Γ1 b (fun db Γ2 => ∃ l k, Γ2[i]? = some (.own p (.dk l)) ∧ db = keyD k ∧ l.length < 10000000 ∧ P.nx (Γ2.set i (.own p (.dk (putD l k d))))) P.ex) P.ex)
    (hd : (x == ("__debug__" : Str)) = false := by decide) (cdi : (x == ("__classdict__" : Str)) = false := by decide)
    (hs : swapsWith e (some (.Subscript (.Name x p0) b p1)) pos.line X.env = pure false := by rfl) : S1 X W fr S Γ (.Assign [.Subscript (.Name x p0) b p1] e pos) P := by
  refine ⟨fun E M σ H D' hS A d => ⟨_, ps_dput (by omega) (pe_var hN hv hd cdi) pe_we pe_we hs, ?_⟩⟩
  refine h.run E M σ H _ A (d.ex σ) fun dd Γ1 v H1 p1 A1 k1 r1 => ?_
  refine ⟨.ref p, (A.get i _ hΓ).1, ?_⟩
  refine p1.run E M σ H1 _ A1 (d.ex σ) fun db Γ2 vb H2 p2 A2 k2 r2 => ?_
  obtain ⟨l, k, g, rfl, hl, p3⟩ := p2
  obtain ⟨_, mp, vs, ho, rr⟩ := A2.get i _ g
  have r2 := rep_key r2
  refine ⟨p, _, rfl, by rw [r2]; exact DPut.k ho (by rw [rr.length, sizeLine_eq]; omega), ?_⟩
  refine d.nx M _ σ _ p3 (A2.change g (fun b o n e => by rw [upd_ne n]; exact e) ⟨_, upd_same, ?_⟩)
  have mv : Mv M M H2 (upd H2 p (.dK (putK vs k v))) := ⟨fun _ _ n _ => n, fun b o n e => by
    have nb : b ≠ p := fun z => n (by rw [z]; exact mp)
    rw [upd_ne nb]; exact e⟩
  exact RepK.mv mv (rr.put (r1.mv k2.mv))
/-- a[b], a a dict -/
theorem ev_dix {a b : Expr} (hu : X.A.units + 64 < cLine) (h : EV X W Γ a (fun d Γ1 => EV X W Γ1 b (fun db Γ2 => ∃ l k z, d = .dk l ∧ db = keyD k ∧ getD' l k = some z ∧ Φ z Γ2) Ψ) Ψ) (hs : NoSl b := by intro _ _; rfl) : EV X W Γ (.Subscript a b pos) Φ Ψ := by
  refine ⟨fun E M σ H Q A x q => ⟨_, pe_dget (by omega) pe_we pe_we hs, ?_⟩⟩
  refine h.run E M σ H _ A x fun d Γ1 v H1 p1 A1 k1 r1 => ?_
  refine p1.run E M σ H1 _ A1 x fun db Γ2 vb H2 p2 A2 k2 r2 => ?_
  obtain ⟨l, k, z, rfl, rfl, g, p3⟩ := p2
  obtain ⟨c, vs, rfl, _, ho, rr⟩ := r1.mv k2.mv
  obtain ⟨u, hu, ru⟩ := rr.get g
  rw [rep_key r2]
  exact ⟨c, u, rfl, .inl ⟨vs, k, ho, rfl, hu.symm⟩, q z Γ2 u H2 p3 A2 (k1.trans k2) ru⟩
theorem ev_dixo {i : Nat} {x : Str} {p0 : Pos} {p : Addr} {d0 : D} {b : Expr} (hu : X.A.units + 64 < cLine) (hΓ : Γ[i]? = some (.own p d0)) (hN : X.N[i]? = some x) (hv : Vis X.env.scope x)
    (h : EV X W Γ b (fun db Γ2 => ∃ l k z, Γ2[i]? = some (.own p (.dk l)) ∧ db = keyD k ∧ getD' l k = some z ∧ Φ z Γ2) Ψ) (hs : NoSl b := by intro _ _; rfl) (hd : (x == ("__debug__" : Str)) = false := by decide)
    (cdi : (x == ("__classdict__" : Str)) = false := by decide) : EV X W Γ (.Subscript (.Name x p0) b pos) Φ Ψ := by
  refine ⟨fun E M σ H Q A xx q => ⟨_, pe_dget (by omega) (pe_var hN hv hd cdi) pe_we hs, ?_⟩⟩
  refine ⟨.ref p, (A.get i _ hΓ).1, ?_⟩
  refine h.run E M σ H _ A xx fun db Γ2 vb H2 p2 A2 k2 r2 => ?_
  obtain ⟨l, k, z, g, rfl, gz, p3⟩ := p2
  obtain ⟨_, mp, vs, ho, rr⟩ := A2.get i _ g
  obtain ⟨u, hu, ru⟩ := rr.get gz
  rw [rep_key r2]
  exact ⟨p, u, rfl, .inl ⟨vs, k, .inl ho, rfl, hu.symm⟩, q z Γ2 u H2 p3 A2 k2 ru⟩
end
end DL
end

section
set_option maxRecDepth 100000
set_option maxHeartbeats 1000000
namespace DL
open PySem PySem.Spec L2 DLC
/-- the context within a comprehension -/
theorem ctx_blk {X Y : Cx} {W : WX} {scope : Scope} (c : CtxOk X W) (h : IsBlk X scope Y) : CtxOk Y WF := by
  obtain ⟨s, H, C, cl, fp, rfl⟩ := h
  exact ⟨c.calm, PassesOwn.never, takes_false, c.nd⟩
/-- [e for x in xs if c], e, c without effect -/
theorem clp_filt {α : Type} {X : Cx} {scope : Scope} {elt tg iter cnd : Expr} {V : List Nat} (enc out : α → D) (keep : α → Bool) (as : List α) {Γ1 : List Sl} {F : List Sl → List D → Prop} (G2 : α → List Sl) (hl : as.length < 10000000)
    (hg : ∀ Y, IsBlk X scope Y → ∀ (a : α) (Φ : List Sl → Prop), Φ (G2 a) → GV Y tg V (enc a) (wipeG Γ1 V) Φ)
    (hw : ∀ a, wipeG (G2 a) V = wipeG Γ1 V)
    (ht : ∀ Y, IsBlk X scope Y → ∀ a ∈ as, ∀ Θ : Bool → List Sl → Prop, Θ (keep a) (G2 a) → ET Y WF (G2 a) cnd Θ exF)
    (he : ∀ Y, IsBlk X scope Y → ∀ a ∈ as, ∀ Φ : D → List Sl → Prop, Φ (out a) (G2 a) → EV Y WF (G2 a) elt Φ exF)
    (h : F (wipeG Γ1 V) ((as.filter keep).map out)) : CD.CLp X scope (CD X scope (emV X scope elt) []) ⟨tg, iter, [cnd], V⟩ (as.map enc) Γ1 [] F := by
  refine ⟨fun i G acc => G = wipeG Γ1 V ∧ acc = ((as.take i).filter keep).map out, ⟨rfl, rfl⟩, fun i d G acc hd hT Y hY => ?_, fun G acc hT => ?_⟩
  · obtain ⟨rfl, rfl⟩ := hT
    rw [List.getElem?_map] at hd
    cases e : as[i]? with
    | none => rw [e] at hd; cases hd
    | some a =>
      rw [e] at hd
      cases hd
      refine hg Y hY a _ ?_
      intro Y2 hY2
      refine ts_one (ht Y2 hY2 a (List.mem_of_getElem? e) _ ⟨fun hk => ?_, fun hk => ?_⟩)
      · intro Y3 hY3
        refine he Y3 hY3 a (List.mem_of_getElem? e) _ ⟨?_, hw a, ?_⟩
        · have := List.length_filter_le keep (as.take i)
          rw [List.length_take] at this
          rw [List.length_map]; omega
        · rw [List.take_add_one, e, List.filter_append, List.map_append]
          show _ = _ ++ ([a].filter keep).map out
          rw [List.filter_cons_of_pos hk]
          rfl
      · refine ⟨hw a, ?_⟩
        rw [List.take_add_one, e, List.filter_append, List.map_append]
        show _ = _ ++ ([a].filter keep).map out
        rw [List.filter_cons_of_neg (by rw [hk]; exact Bool.false_ne_true)]
        simp
  · obtain ⟨rfl, rfl⟩ := hT
    rw [List.length_map, List.take_of_length_le (Nat.le_refl _)]
    exact h
/-- the scope of a comprehension within one that stands in a def: what it catches are the def's cells -/
def recell (sc : Scope) : Scope := { sc with names := sc.names.map fun p => (p.1, if p.2 == .free then .cell else p.2) }
theorem lcOk2 {X : Cx} {scope : Scope} {own : List (Str × Nat)} {tg iter : Expr} {ifs : List Expr} {N : List Str} {sc : Scope} (hN : X.N = N) (hsc : X.env.scope = sc) (blk : BlkOk N sc scope own) (hs : ∀ x, foldedSetIterable iter X.env x = pure x)
    (hf : ∀ (s : Shared) (H : Hp) (C : Addr) (cl : List (Str × Addr)) (fp : List Addr) (x : Value), foldedSetIterable iter (X.blk s H scope (compEnvC scope cl C X.env) fp).env x = pure x) : LcOk X scope own tg iter ifs [] [] :=
  lcOk1 (by rw [hN, hsc]; exact blk) hs hf
def asgV : Stmt → Expr
  | .Assign _ e _ => e
  | .Return (some e) _ => e
  | _ => .Constant .none 0 ⟨0, 0, 0, 0⟩
def lcSc : Expr → Scope
  | .ListComp _ _ sc _ => sc
  | .DictComp _ _ _ sc _ => sc
  | _ => { names := [], kind := .function, isCoroutine := false, isGenerator := false }
def lcElt : Expr → Expr
  | .ListComp e _ _ _ => e
  | e => e
end DL
end

section
set_option maxRecDepth 100000
set_option maxHeartbeats 1000000
namespace DL
open PySem PySem.Spec L2 DLC
section
variable {X : Cx} {W : WX} {Γ Γ' : List Sl} {Φ : D → List Sl → Prop} {Ψ : Ex} {pos : Pos} {scope : Scope} {own : List (Str × Nat)} {α : Type} {dat : α → D} {D₀ : Addr} {E : Entry} {M M' : Addr → Prop} {σ σ' : L2.St} {H H' : Hp} {acc : α}
/-- the loop of the only clause, over one's own list at p in slot k, which it leaves as it is -/
def CLpO {α : Type} (X : Cx) (scope : Scope) (body : Em α) (c : Ct) (k : Nat) (p : Addr) (ds : List D) (Γ1 : List Sl) (acc : α) (F : List Sl → α → Prop) : Prop :=
    ∃ T : Nat → List Sl → α → Prop, T 0 (wipeG Γ1 c.V) acc ∧ (∀ i Γ2 acc2, T i Γ2 acc2 → Γ2[k]? = some (.own p (.lst ds))) ∧
      (∀ i d Γ2 acc2, ds[i]? = some d → T i Γ2 acc2 → ∀ Y, IsBlk X scope Y → GV Y c.tg c.V d Γ2 (fun Γ3 => ∀ Y, IsBlk X scope Y → TS Y c.ifs Γ3 (fun b Γ4 =>
        (b = true → body Γ4 acc2 (fun Γ5 acc5 => T (i + 1) (wipeG Γ5 c.V) acc5)) ∧ (b = false → T (i + 1) (wipeG Γ4 c.V) acc2)))) ∧
      ∀ Γ2 acc2, T ds.length Γ2 acc2 → F Γ2 acc2
theorem loop_runO {body : Em α} {bodyh : TEm} {c : Ct} {ds : List D} {k : Nat} {p : Addr}
    (hb : ∀ (Γ : List Sl) (acc : α) (F : List Sl → α → Prop) (E : Entry) (M : Addr → Prop) (σ : L2.St) (H : Hp) (F' : Hp → Prop), body Γ acc F → Gw X dat D₀ E M Γ σ H acc →
      (∀ Γ' acc' σ' H', F Γ' acc' → Gw X dat D₀ E M Γ' σ' H' acc' → (∀ j, j ∉ ([] : List Nat) → σ'[j]? = σ[j]?) → σ'.length = σ.length → F' H') → bodyh σ H F')
    {F : List Sl → α → Prop} {F' : Hp → Prop} (h : CLpO X scope body c k p ds Γ acc F) (g : Gw X dat D₀ E M Γ σ H acc)
    (kk : ∀ Γ' acc' σ' H', F Γ' acc' → Gw X dat D₀ E M Γ' σ' H' acc' → (∀ j, j ∉ c.V → σ'[j]? = σ[j]?) → σ'.length = σ.length → F' H') :
    tLoop bodyh (toCl X scope c) (Itl X.K p) σ H F' := by
  obtain ⟨T, t0, hold, turn, fin⟩ := h
  let E1 : Entry := ⟨M, H, fun b => (∃ (i : Nat) (d : D), Γ[i]? = some (.own b d)) ∨ b = D₀⟩
  have A := g.at_
  have up : ∀ {M' : Addr → Prop} {Γ' : List Sl} {σ' : L2.St} {H' : Hp}, AtM X.K E1 M' Γ' σ' H' → AtM X.K E M' Γ' σ' H' := fun {M' Γ' σ' H'} B => by
    refine ⟨B.len, B.get, B.uniq, fun b m => B.m0 b (A.m0 b m), fun b m => ?_, fun b o n e => ?_, fun i a d hh => ?_, B.dom, A.s0, A.d0⟩
    · rcases B.new b m with m | z
      · exact A.new b m
      · exact .inr (A.fresh0 z)
    · refine B.kept b o (fun z => ?_) (A.kept b o n e)
      rcases z with ⟨i, d, hh⟩ | rfl
      · rcases A.owns i b d hh with q | q
        · exact n q
        · rw [q] at e; cases e
      · rcases g.new with q | q
        · exact n q
        · rw [q] at e; cases e
    · rcases B.owns i a d hh with z | z
      · rcases z with ⟨j, x, hj⟩ | rfl
        · exact A.owns j a x hj
        · exact g.new
      · exact .inr (A.fresh0 z)
  have down : AtM X.K E1 M Γ σ H := ⟨A.len, A.get, A.uniq, fun _ m => m, fun _ m => .inl m, fun _ _ _ e => e, fun i a d hh => .inl (.inl ⟨i, d, hh⟩), A.dom, fun b z => z.elim (fun ⟨i, d, hh⟩ => (A.get i _ hh).2.1) (fun e => e ▸ g.mem), A.dom⟩
  have g1 : Gw X dat D₀ E1 M Γ σ H acc := ⟨down, g.mem, .inl (.inr rfl), g.obj, g.no⟩
  have gup : ∀ {M' : Addr → Prop} {Γ' : List Sl} {σ' : L2.St} {H' : Hp} {acc' : α}, Gw X dat D₀ E1 M' Γ' σ' H' acc' → Gw X dat D₀ E M' Γ' σ' H' acc' := fun q => ⟨up q.at_, q.mem, g.new, q.obj, q.no⟩
  refine ⟨fun i m H' => m = ds.length - i ∧ i ≤ ds.length ∧ ∃ Γ' acc', T i Γ' acc' ∧ Gw X dat D₀ E1 M Γ' (wipe σ c.V) H' acc', ⟨ds.length, by simp, Nat.zero_le _, _, acc, t0, g1.forget (wipe_length _ _) fun j hj => wipe_out hj⟩, ?_⟩
  rintro i m H' ⟨rfl, hi, Γ', acc', ti, q⟩
  obtain ⟨_, mp, vs, ho, rr⟩ := q.at_.get k _ (hold i Γ' acc' ti)
  by_cases hlt : i < ds.length
  · have gd : ds[i]? = some ds[i] := List.getElem?_eq_getElem hlt
    obtain ⟨v, hv, rv⟩ := rr.get gd
    refine .inr ⟨⟨vs, v, .inl (.inl ho), hv⟩, fun H2 => i + 1 ≤ ds.length ∧ ∃ Γ2 acc2, T (i + 1) Γ2 acc2 ∧ Gw X dat D₀ E1 M Γ2 (wipe σ c.V) H2 acc2, fun H2 ⟨l, z⟩ => ⟨_, by omega, rfl, l, z⟩, fun x H2 y => ?_⟩
    obtain ⟨eH, y⟩ := y
    subst eH
    have ex : x = v := Option.some.inj ((y vs (.inl (.inl ho))).symm.trans hv)
    subst ex
    intro Y hY
    have gv := turn i _ Γ' acc' gd ti Y hY
    refine gv.run (subE M Γ' H2) M (wipe σ c.V) H2 x _ (by rw [blkK hY]; exact q.at_.down) (by rw [blkK hY]; exact rv) fun Γ3 σ3 p3 B3 ag3 l3 => ?_
    rw [blkK hY] at B3
    have q3 := q.step B3
    refine ⟨?_, fun Y2 hY2 => ?_⟩
    · show wipe σ3 c.V = wipe σ c.V
      exact (wipe_of l3 ag3).trans (wipe_of (wipe_length σ c.V) fun j hj => wipe_out hj)
    · refine (p3 Y2 hY2).run (subE M Γ3 H2) M σ3 H2 _ (by rw [blkK hY2]; exact q3.at_.down) fun b Γ4 H4 p4 B4 _ => ?_
      rw [blkK hY2] at B4
      have q4 := q3.step B4
      have ag : ∀ {σ5 : L2.St}, (∀ j, j ∉ c.V → σ5[j]? = σ3[j]?) → ∀ j, j ∉ c.V → (wipe σ c.V)[j]? = σ5[j]? := fun z j hj => by rw [z j hj, ag3 j hj]
      cases b with
      | true =>
        refine (show (if true = true then _ else _) from iteT ?_)
        refine hb Γ4 acc' _ E1 M σ3 H4 _ (p4.1 rfl) q4 fun Γ5 acc5 σ5 H5 p5 q5 ag5 l5 => ?_
        exact ⟨hlt, _, acc5, p5, q5.forget (by rw [l5, l3]) (ag fun j hj => ag5 j fun z => nomatch z)⟩
      | false =>
        refine (show (if false = true then _ else _) from iteF ?_)
        exact ⟨hlt, _, acc', p4.2 rfl, q4.forget (by rw [l3]) (ag fun j hj => rfl)⟩
  · have e : i = ds.length := by omega
    subst e
    exact .inl ⟨⟨vs, .inl (.inl ho), by rw [rr.length]; exact Nat.le_refl _⟩, kk Γ' acc' _ H' (fin Γ' acc' ti) (gup q) (fun j hj => wipe_out hj) (wipe_length _ _)⟩
theorem lcO_fact {elt tg : Expr} {ifs : List Expr} {k : Nat} {x : Str} {p0 : Pos} {p : Addr} {ds : List D} (ok : LcOk X scope own tg (.Name x p0) ifs [] []) (hΓ : Γ[k]? = some (.own p (.lst ds))) (hN : X.N[k]? = some x) (hv : Vis X.env.scope x)
    (hd : (x == ("__debug__" : Str)) = false) (cdi : (x == ("__classdict__" : Str)) = false)
    (h : CLpO X scope (emV X scope elt) ⟨tg, .Name x p0, ifs, own.map (·.2)⟩ k p ds Γ [] (fun Γ2 acc => Φ (.lst acc) (wipeG Γ2 (own.map (·.2)))))
    {Q : VK} (A : AtM X.K E M Γ σ H)
    (q : ∀ d Γ' p H', Φ d Γ' → ¬ M p → AtM X.K E (Mp M p) Γ' σ H' → Kp M H H' → OOk X.K (Mp M p) H' p d → (∀ (j : Nat) (x : D), Γ'[j]? ≠ some (.own p x)) → Q (.ref p) H') : trLc X scope own elt tg (.Name x p0) ifs [] σ H Q := by
  obtain ⟨e, m, vs, ho, rr⟩ := A.get k _ hΓ
  refine ⟨_, pi_list (pe_var hN hv hd cdi), .ref p, e, p, rfl, ⟨vs, .inl (.inl ho)⟩, fun D hD => ?_⟩
  have g : Gr H (upd H D (.lst [])) := Gr.upd hD
  have gw : Gw X DL.D.lst D (subE M Γ H) (Mp M D) Γ σ (upd H D (.lst [])) [] := ⟨A.down.alloc hD g (Ob.upd fun _ z => nomatch z), .inr rfl, .inr hD, ⟨[], upd_same, rfl⟩, own_ne A hD⟩
  refine loop_runO (fun Γ acc F E M σ H F' h g k => emOk_list Γ acc F E M σ H F' h g fun Γ' acc' H' a b => k Γ' acc' σ H' a b (fun _ _ => rfl) rfl) h gw fun Γ' acc' σ' H' p gq ag l => ?_
  have gq2 := gq.forget (σ' := σ) (V := own.map (·.2)) l.symm (fun j hj => (ag j hj).symm)
  exact q _ _ D H' p (A.fresh hD) (A.up gq2.at_) (A.kpDown gq2.at_) gq2.obj gq2.no
variable {fr : Bool} {S : List Addr} {P : Post}
theorem s_setLcO {i k : Nat} {x y : Str} {p0 py spos : Pos} {p : Addr} {ds : List D} {elt tg : Expr} {ifs : List Expr} (c : CtxOk X W) (own : List (Str × Nat)) (ok : LcOk X scope own tg (.Name x p0) ifs [] []) (hy : X.N[i]? = some y) (hyl : X.env.scope.names.lookup y = some .local)
    (hsw : swapsWith (.ListComp elt [⟨tg, .Name x p0, ifs, 0⟩] scope pos) (some (.Name y py)) spos.line X.env = pure true)
    (hΓ : Γ[k]? = some (.own p (.lst ds))) (hN : X.N[k]? = some x) (hv : Vis X.env.scope x)
    (h : CLpO X scope (emV X scope elt) ⟨tg, .Name x p0, ifs, own.map (·.2)⟩ k p ds Γ [] (fun Γ2 acc => i < (wipeG Γ2 (own.map (·.2))).length ∧ P.nx ((wipeG Γ2 (own.map (·.2))).set i (.ok (.lst acc)))))
    (hd : (x == ("__debug__" : Str)) = false := by decide) (cdi : (x == ("__classdict__" : Str)) = false := by decide) :
    S1 X W fr S Γ (.Assign [.Name y py] (.ListComp elt [⟨tg, .Name x p0, ifs, 0⟩] scope pos) spos) P :=
  ⟨fun E M σ H D' hS A d => ⟨_, ps_trLc c ok hy hyl hsw, lcO_fact (Φ := fun x G => i < G.length ∧ P.nx (G.set i (.ok x))) ok hΓ hN hv hd cdi h A fun x Γ' p H' hp hm B k o n => by
    have B' := B.drop A.m0 n
    exact d.nx M _ _ H' hp.2 (B'.setOk hp.1 (o.rep hm))⟩⟩
/-- [e for x in xs], e without effect, xs one's own -/
theorem clpO_map {α : Type} {elt tg iter : Expr} {V : List Nat} {k : Nat} {p : Addr} (enc out : α → D) (as : List α) {Γ1 : List Sl} {F : List Sl → List D → Prop} (G2 : α → List Sl) (hl : as.length < 10000000)
    (ho : (wipeG Γ1 V)[k]? = some (.own p (.lst (as.map enc))))
    (hg : ∀ Y, IsBlk X scope Y → ∀ (a : α) (Φ : List Sl → Prop), Φ (G2 a) → GV Y tg V (enc a) (wipeG Γ1 V) Φ)
    (hw : ∀ a, wipeG (G2 a) V = wipeG Γ1 V)
    (he : ∀ Y, IsBlk X scope Y → ∀ a ∈ as, ∀ Φ : D → List Sl → Prop, Φ (out a) (G2 a) → EV Y WF (G2 a) elt Φ exF)
    (h : F (wipeG Γ1 V) (as.map out)) : CLpO X scope (emV X scope elt) ⟨tg, iter, [], V⟩ k p (as.map enc) Γ1 [] F := by
  refine ⟨fun i G acc => G = wipeG Γ1 V ∧ acc = (as.take i).map out, ⟨rfl, rfl⟩, fun i G acc hT => by rw [hT.1]; exact ho, fun i d G acc hd hT Y hY => ?_, fun G acc hT => ?_⟩
  · obtain ⟨rfl, rfl⟩ := hT
    rw [List.getElem?_map] at hd
    cases e : as[i]? with
    | none => rw [e] at hd; cases hd
    | some a =>
      rw [e] at hd
      cases hd
      refine hg Y hY a _ ?_
      intro Y2 hY2
      refine ts_nil ⟨fun _ => ?_, fun z => nomatch z⟩
      intro Y3 hY3
      refine he Y3 hY3 a (List.mem_of_getElem? e) _ ⟨?_, hw a, ?_⟩
      · rw [List.length_map, List.length_take]; omega
      · rw [List.take_add_one, e, List.map_append]
        rfl
  · obtain ⟨rfl, rfl⟩ := hT
    rw [List.length_map, List.take_of_length_le (Nat.le_refl _)]
    exact h
/-- list(x), new, to be changed here -/
theorem ef_list {x : Str} {p0 : Pos} {e : Expr} (hg : Gl X x) (hm : X.mg x = none) (hv : bootBuiltins x = some (.type "list")) (h : EV X W Γ e (fun d Γ1 => ∃ ds, d = .lst ds ∧ Φ (.lst ds) Γ1) Ψ)
    (hn : x ≠ "__name__" := by decide) (hdb : (x == ("__debug__" : Str)) = false := by decide) (hs : starEach [e] X.env = (false, eval e X.env) :: starEach [] X.env := by rfl) (hpl : (backTo pos (starEach [] X.env)).any (·.1) = false := by rfl) : EF X W Γ (.Call (.Name x p0) [e] [] pos) Φ Ψ := by
  refine ⟨fun E M σ H Q A xx q => ⟨_, pe_callTy call_list_of hg hm hv (pa_cons pe_we pa_nil hs) hn hdb hs hpl, ?_⟩⟩
  refine h.run E M σ H _ A xx fun d Γ1 v H1 p1 A1 k1 r1 => ?_
  obtain ⟨ds, rfl, p1⟩ := p1
  obtain ⟨a, vs, rfl, hs, rr⟩ := r1.r
  refine ⟨a, vs, rfl, .inl hs, fun p np => ?_⟩
  have g : Gr H1 (upd H1 p (.lst vs)) := Gr.upd np
  exact q _ Γ1 p _ p1 (A1.fresh np) (A1.alloc np g (Ob.upd fun _ z => nomatch z)) (k1.trans g.kp) ⟨vs, upd_same, rr.mv (mv_new np g)⟩ (own_ne A1 np)
/-- what is known of a slot is not needed -/
theorem sv_weak {st : List Stmt} {i : Nat} {d : D} (hs : Γ[i]? = some (.ok d)) (h : SV X W fr S (Γ.set i .un) st P) : SV X W fr S Γ st P := by
  refine ⟨fun E M σ H D' hS A dd => h.run E M σ H D' hS ?_ dd⟩
  have un_of : ∀ (j : Nat) (s : Sl), (Γ.set i .un)[j]? = some s → s = .un ∨ Γ[j]? = some s := fun j s h => by
    rcases get_set h with ⟨_, z⟩ | ⟨_, z⟩
    · exact .inl z
    · exact .inr z
  refine ⟨by rw [List.length_set]; exact A.len, fun j s h => ?_, fun j k a x y h1 h2 => ?_, A.m0, A.new, A.kept, fun j a x h => ?_, A.dom, A.s0, A.d0⟩
  · rcases un_of j s h with rfl | g
    · trivial
    · exact A.get j s g
  · rcases un_of _ _ h1 with z | g1
    · cases z
    · rcases un_of _ _ h2 with z | g2
      · cases z
      · exact A.uniq j k a x y g1 g2
  · rcases un_of _ _ h with z | g
    · cases z
    · exact A.owns j a x g
end
end DL
end

section
set_option maxRecDepth 100000
set_option maxHeartbeats 1000000
namespace DL
open PySem PySem.Spec L2
/-! ## own errors: class x at C, its __init__ at fI stores one field f -/
def spInit (K : PySem.W.Frag) (C : Addr) (f : Str) : Sp := fun vs H Q _ => ∃ (a : Addr) (v : V), vs = [.ref a, v] ∧ H a = some (exo a C none) ∧ ∀ dx, H dx = none → dx ≠ a → Q .non (upd (upd H dx (exd dx [(f, v)])) a (exo a C (some dx)))
structure ExT (P : Program) (w : World) (K : PySem.W.Frag) (mg : Str → Option Value) (base : Heap) (x f : Str) (C : Addr) : Prop where
  oex : OexC K C
  xf : XfC K C
  gC : mg x = some (.ref C)
  noF : PySem.W.findIn K (.ref C) f = some none
  ini : ∃ fI fd, PySem.W.findIn K (.ref C) "__init__" = some (some (.ref fI)) ∧ PySem.W.typeIn K (.ref fI) = some (.type "function") ∧ FnOk P w K mg base (L2.CX P w) 1 fI fd ["self", f] (spInit K C f) ∧ Binds K fd ["self", f] []
section
variable {P : Program} {w : World} {K : PySem.W.Frag} {mg : Str → Option Value} {base : Heap} {qual : Str} {params : Arguments} {scope : Scope} {fi : Addr} {fd : FuncData} {C : Addr} {x f : Str} {p1 p2 p3 p4 : Pos}
/-- def __init__(self, f): self.f = f -/
theorem ok_init (F : FunD K "__init__" qual params [.Assign [.Attribute (.Name "self" p1) f p2] (.Name f p3) p4] scope [] [] fi fd) (sc : FnScope ["self", f] ["self", f] scope) (hv1 : Vis scope "self") (hv2 : Vis scope f) (T : OexC K C) (hno : PySem.W.findIn K (.ref C) f = some none)
    (h1 : (f == ("__debug__" : Str)) = false := by decide) (h2 : (f == ("__classdict__" : Str)) = false := by decide) : FnOk P w K mg base (L2.CX P w) 1 fi fd ["self", f] (spInit K C f) := by
  refine F.ok sc (fun vs H Q E h => ?_) (fun cdv A outer s H vs Q E hr h => ?_)
  · obtain ⟨a, v, rfl, _⟩ := h
    rfl
  · obtain ⟨a, v, rfl, ea, q⟩ := h
    refine ⟨_, pss_cons (ps_ost (pe_var (i := 0) rfl hv1 (by decide) (by decide)) (pe_var (i := 1) rfl hv2 h1 h2)) pss_nil, ?_⟩
    exact ⟨v, rfl, .ref a, rfl, a, C, rfl, T, hno, .inl ⟨ea, fun dx n ne => q dx n ne⟩⟩
end
section
variable {X : Cx} {W : WX} {fr : Bool} {S : List Addr} {Γ : List Sl} {P : Post} {pos p pos2 : Pos}
theorem exc_heap {H1 : Hp} {a dx : Addr} {u : HO} {o1 o2 o3 : HO} (na : H1 a = none) (nd : dx ≠ a) : upd (L2.del (upd (upd (upd H1 a o1) dx o2) a o3) a) dx u = upd H1 dx u := by
  funext b
  by_cases c : b = dx
  · rw [c, upd_same, upd_same]
  · rw [upd_ne c, upd_ne c]
    by_cases d : b = a
    · rw [d, del_same, na]
    · rw [del_ne d, upd_ne d, upd_ne c, upd_ne d]
/-- raise x(e), x an own error class -/
theorem s_raise {x f : Str} {C : Addr} {e : Expr} (c : CtxOk X W) (T : ExT X.prog X.w X.K X.mg X.base x f C) (hr : Room 2 X.A) (hg : Gl X x) (h : EV X W Γ e (fun d G => P.ex C [(f, d)] G) P.ex) (hdb : (x == ("__debug__" : Str)) = false := by decide)
    (he : starEach [e] X.env = (false, eval e X.env) :: starEach [] X.env := by rfl) (hpl : (backTo pos2 (starEach [] X.env)).any (·.1) = false := by rfl) : S1 X W fr S Γ (.Raise (some (.Call (.Name x p) [e] [] pos2)) none pos) P := by
  obtain ⟨fI, fd, iC, tI, F1, hb⟩ := T.ini
  refine ⟨fun E M σ H D' hS A d => ⟨_, ps_raise c.calm c.takes (pmk_oex (dvs := []) T.oex iC tI F1 hr hb .nil ?_ hg T.gC (pa_cons pe_we pa_nil he) hdb he hpl), ?_⟩⟩
  · exact fun pins σ H s e s' I q => c.takes e s' (XE.of_call I (fun _ _ _ h => h.elim) q)
  · refine h.run E M σ H _ A (d.ex σ) fun dd Γ1 v H1 p1 A1 k1 r1 => ⟨by show 1 ≤ 1000; decide, fun a na => ?_⟩
    refine ⟨a, v, rfl, upd_same, fun dx n ne => ?_⟩
    have n1 : H1 dx = none := by
      have e := upd_ne (H := H1) (o := exo a C none) ne
      rw [e] at n
      exact n
    refine ⟨rfl, dx, [(f, v)], upd_same, (by rw [upd_ne ne, upd_same]), n1, ?_⟩
    rw [exc_heap na ne]
    have g : Gr H1 (upd H1 dx (.xd [(f, v)])) := Gr.upd n1
    exact d.ex σ C dx [(f, dd)] [(f, v)] Γ1 M _ p1 (A1.grow g) upd_same ⟨v, [], rfl, r1.mv g.kp.mv, rfl⟩ (A1.fresh n1) (A1.fresh0 n1)
end
end DL
end

section
set_option maxRecDepth 100000
set_option maxHeartbeats 2000000
namespace DL
open PySem PySem.Spec PyProof.Rows L2
/-! ## try with several clauses, each with a name or without -/
structure Hd where
  c : Value
  sl : Option Nat
  ts : Addr → Value → Option Addr → L2.TS
def endOf : Option Nat → Ends → Ends
  | none, D => D
  | some i, D => { nx := fun τ G => D.nx (τ.set i none) G, rt := D.rt, bk := fun τ G => D.bk (τ.set i none) G, ct := fun τ G => D.ct (τ.set i none) G }
def putOf : Option Nat → Addr → L2.St → L2.St
  | none, _, τ => τ
  | some i, a, τ => τ.set i (some (.ref a))
def wN (K : PySem.W.Frag) (Wo : WX) (D : Ends) : List Hd → WX
  | [] => Wo
  | h :: r => fun cls d τ G => ∃ b, PySem.W.exmOne K cls h.c = some b ∧ (b = true → ∀ a, G a = none → h.ts a cls d (endOf h.sl D) (putOf h.sl a τ) G) ∧ (b = false → wN K Wo D r cls d τ G)
def SuiteOk (X : Cx) (st : List Stmt) (ts : Addr → Value → Option Addr → L2.TS) : Prop :=
  ∀ (a : Addr) (oe : Obj) (cls : Value) (d : Option Addr) (pn : List (Addr × Obj)), Zc cls d oe → (∃ vs, oe.data = .fields vs) → PSs (X.suite a ((a, oe) :: pn)) st (ts a cls d)
inductive HsOk (X : Cx) : List ExceptHandler → List Hd → Prop
  | nil : HsOk X [] []
  | plain {x : Str} {c : Value} {ts : Addr → Value → Option Addr → L2.TS} {st : Stmt} {sts : List Stmt} {p q : Pos} {hs : List ExceptHandler} {l : List Hd} (nm : Names X x c) (su : SuiteOk X (st :: sts) ts) (r : HsOk X hs l) :
      HsOk X (.ExceptHandler (some (.Name x p)) none (st :: sts) q :: hs) (⟨c, none, ts⟩ :: l)
  | named {x n : Str} {i : Nat} {c : Value} {ts : Addr → Value → Option Addr → L2.TS} {st : Stmt} {sts : List Stmt} {p q : Pos} {hs : List ExceptHandler} {l : List Hd} (nm : Names X x c) (hN : X.N.Nodup) (hi : X.N[i]? = some n) (hl : X.env.kindOf n = some .local)
      (su : SuiteOk X (st :: sts) ts) (r : HsOk X hs l) : HsOk X (.ExceptHandler (some (.Name x p)) (some n) (st :: sts) q :: hs) (⟨c, some i, ts⟩ :: l)
section
variable {X : Cx} {body : List Stmt} {h₀ : ExceptHandler} {hds : List ExceptHandler} {l : List Hd} {pos : Pos} {tb : WX → L2.TS} {Wo : WX}
theorem ps_tryN (hst : X.stack = X.env :: X.outer) (hfr : X.env.frame = some X.env.locals) (tk : Takes X Wo)
    (hb : ∀ (W : WX) (pn : List (Addr × Obj)) (pz : Value → Shared → Prop), Takes (X.tr pn pz) W → PassesOwn (model X.prog X.w) X.A X.env pz → PSs (X.tr pn pz) body (tb W))
    (hh : HsOk X (h₀ :: hds) l) : PS X (.Try body (h₀ :: hds) [] [] pos) (fun D τ G => tb (wN X.K Wo D l) D τ G) := by
  constructor
  intro pins s τ G D I want
  have good := I.ok
  have frames : X.A.frames = some (X.env :: X.outer) := good.frames.trans (by rw [hst])
  let xeT : Value → Shared → Prop := fun e s₁ => wpAny (model X.prog X.w) X.A (noteFrame e X.env) (fun _ s₂ => wpAny (model X.prog X.w) X.A (setFlight e none) (fun _ s₃ => wpAny (model X.prog X.w) X.A (handleBy e X.env (h₀ :: hds)) (SP X pins D) X.xe s₃) X.xe s₂) X.xe s₁
  refine wpAny_Try_except (wpAny_mono ((hb (wN X.K Wo D l) (X.pn ++ pins) xeT (fun u t air => ?caught) PassesOwn.looking).run [] s τ G D (I.toTry _) want) (fun fl t ends => ?through) fun _ _ z => z)
  case through =>
    cases fl with
    | next => obtain ⟨τ1, G1, J, q⟩ := ends; exact wpAny_execs_nil ⟨τ1, G1, J.ofTry good, q⟩
    | brk => obtain ⟨τ1, G1, J, q⟩ := ends; exact ⟨τ1, G1, J.ofTry good, q⟩
    | cont => obtain ⟨τ1, G1, J, q⟩ := ends; exact ⟨τ1, G1, J.ofTry good, q⟩
    | ret u => obtain ⟨v1, τ1, G1, J, rv, q⟩ := ends; exact ⟨v1, τ1, G1, J.ofTry good, rv, q⟩
  case caught =>
    obtain ⟨a, B, sI, pinsI, τ1, G1, cls, d, rfl, JI, nb, up0, sky, na, osE, bare, wish⟩ := air
    have J : Inv X pins τ1 G1 sI := JI.ofTry good
    have sky1 : Sky B (X.env :: X.outer) a (Zc cls d) X.env.locals t.heap := hst ▸ sky
    show wpAny (model X.prog X.w) X.A (noteFrame (.ref a) X.env) _ _ t
    refine Sky.land Zc.steady frames hfr sky1 fun h3 fly3 up3 => ?_
    have J3 : Inv X pins τ1 G1 { t with heap := h3 } := J.landed nb fly3.1 (up0.trans up3) osE bare
    obtain ⟨oe3, vs3, at3, z3, dat3⟩ := fly3.there
    have off : a ∉ frs (X.env :: X.outer) := fun hm => by
      obtain ⟨_, o1, q1, hno⟩ := fly3.2.2.1.mem hm
      cases at3.symm.trans q1
      exact hno _ dat3
    have offL : a ≠ X.env.locals := fun z => off (List.mem_filterMap.mpr ⟨X.env, List.mem_cons_self, hfr.trans (congrArg some z.symm)⟩)
    have offF : a ∉ X.fs := fun hm => by
      obtain ⟨e1, m1, q1⟩ := List.mem_filterMap.mp hm
      exact off (List.mem_filterMap.mpr ⟨e1, List.mem_cons_of_mem _ m1, q1⟩)
    have S3 := J3.suite at3 dat3 na offL offF
    have kindIs : PySem.W.Looks (model X.prog X.w) h3 (typeOf (.ref a)) cls := fun A' Q' E' s' k' q' => wpAny_typeOf_ref (k' _ _ at3) (z3.1.symm ▸ q')
    have named : ∀ {x : Str} {c : Value} {p : Pos} {Q : Value → Shared → Prop} {E : Value → Shared → Prop}, Names X x c → Q c { t with heap := h3 } → wpAny (model X.prog X.w) (X.A.mark (some (.ref a))) (eval (.Name x p) X.env) Q E { t with heap := h3 } := fun ⟨hg, hdb, how⟩ q => by
      cases how with
      | inl hm => exact ld_glob (X := X.suite a ((a, oe3) :: (X.pn ++ pins))) S3 hg hm q hdb
      | inr hb => exact ld_blt (X := X.suite a ((a, oe3) :: (X.pn ++ pins))) S3 hg hb.1 hb.2.1 q hb.2.2 hdb
    have walk : ∀ {hs : List ExceptHandler} {m : List Hd}, HsOk X hs m → wN X.K Wo D m cls d τ1 G1 → wpAny (model X.prog X.w) X.A (handleBy (.ref a) X.env hs) (SP X pins D) X.xe { t with heap := h3 } := by
      intro hs m hk
      induction hk with
      | nil =>
        intro out
        refine wpAny_handleBy_nil ?_
        obtain ⟨_, _, _, oe, vs, T0, oT, tsT, at4, _, dat4, one4, _⟩ := id fly3
        unfold PySem.passOn
        refine wpAny_bind (wpAny_field at4 dat4 one4 ?_)
        have isRef : ¬ ((Value.ref T0 == Value.none) = true) := by simp
        rw [if_neg isRef]
        have last : wpAny (model X.prog X.w) X.A (setFlight (.ref a) X.env.frame) (fun _ s₄ => wpAny (model X.prog X.w) X.A (throw (.ref a) : Sem Flow) (SP X pins D) X.xe s₄) X.xe { t with heap := h3 } := by
          rw [hfr]
          refine HandSPX.setFlight_upZ fly3 fun h4 held up4 => wpAny_throw (tk _ _ ?_)
          refine ⟨a, B, sI, pins, τ1, G1, cls, d, rfl, J, nb, (up0.trans up3).trans up4, .inr (.inr ?_), na, osE, bare, out⟩
          rw [hst]; exact held
        first | exact wpAny_bind (wpAny_pure (wpAny_bind last)) | exact wpAny_bind last
      | @plain x c ts st sts p q hs m nm su r ih =>
        rintro ⟨b, hx, yes, no⟩
        refine wpAny_handleBy_cons (codeAny_handlers_test (named nm ((PySem.W.exm_one (M := model X.prog X.w) J3.kIn kindIs hx).here ?_))) (fun z => by cases z)
        cases b with
        | false => exact ih (no rfl)
        | true =>
          refine codeAny_handlers_suite (HandSPX.lands_againZ fly3 fun h4 fly4 up4 => ?_)
          have J4 : Inv X pins τ1 G1 { t with heap := h4 } := J.landed nb fly4.1 ((up0.trans up3).trans up4) osE bare
          obtain ⟨oe4, vs4, at4, z4, dat4⟩ := fly4.there
          refine wpAny_mono ((su a oe4 cls d (X.pn ++ pins) z4 ⟨_, dat4⟩).run [] _ _ G1 _ (J4.suite at4 dat4 na offL offF) (yes rfl a na)) (fun f s6 fin => ?_) fun _ _ z => z.elim
          cases f with
          | next => obtain ⟨τ6, G6, S6, q6⟩ := fin; exact ⟨τ6, G6, S6.unsuite good, q6⟩
          | brk => obtain ⟨τ6, G6, S6, q6⟩ := fin; exact ⟨τ6, G6, S6.unsuite good, q6⟩
          | cont => obtain ⟨τ6, G6, S6, q6⟩ := fin; exact ⟨τ6, G6, S6.unsuite good, q6⟩
          | ret u => obtain ⟨v6, τ6, G6, S6, r6, q6⟩ := fin; exact ⟨v6, τ6, G6, S6.unsuite good, r6, q6⟩
      | @named x n i c ts st sts p q hs m nm hN hi hl su r ih =>
        rintro ⟨b, hx, yes, no⟩
        refine wpAny_handleBy_cons (codeAny_handlers_test (named nm ((PySem.W.exm_one (M := model X.prog X.w) J3.kIn kindIs hx).here ?_))) (fun z => by cases z)
        cases b with
        | false => exact ih (no rfl)
        | true =>
          refine codeAny_handlers_suite_as (HandSPX.lands_againZ fly3 fun h4 fly4 up4 => ?_)
          have J4 : Inv X pins τ1 G1 { t with heap := h4 } := J.landed nb fly4.1 ((up0.trans up3).trans up4) osE bare
          obtain ⟨oe4, vs4, at4, z4, dat4⟩ := fly4.there
          refine store_ok (X := X.suite a ((a, oe4) :: (X.pn ++ pins))) (v := .ref a) (J4.suite at4 dat4 na offL offF) hN hi (.inl hl) rfl (fun s5 S5 => ?_) (.inr hl)
          refine wpAny_mono ((su a oe4 cls d (X.pn ++ pins) z4 ⟨_, dat4⟩).run [] s5 _ G1 _ S5 (yes rfl a na)) (fun f s6 fin => ?_) fun _ _ z => z.elim
          have gone : ∀ {τ6 : L2.St} {G6 : Hp} {Q : Shared → Prop}, Inv (X.suite a ((a, oe4) :: (X.pn ++ pins))) [] τ6 G6 s6 → (∀ s7, Inv X pins (τ6.set i none) G6 s7 → Q s7) →
              wpAny (model X.prog X.w) X.A (do bindName X.env n .none; unbindBehindTheSuite X.env n q) (fun _ s7 => Q s7) X.xe s6 := fun S6 hq => gone_ok (S6.unsuite good) hN hi hl hq
          cases f with
          | next => obtain ⟨τ6, G6, S6, q6⟩ := fin; exact gone S6 fun s7 J7 => ⟨_, _, J7, q6⟩
          | brk => obtain ⟨τ6, G6, S6, q6⟩ := fin; exact gone S6 fun s7 J7 => ⟨_, _, J7, q6⟩
          | cont => obtain ⟨τ6, G6, S6, q6⟩ := fin; exact gone S6 fun s7 J7 => ⟨_, _, J7, q6⟩
          | ret u => obtain ⟨v6, τ6, G6, S6, r6, q6⟩ := fin; exact gone S6 fun s7 J7 => ⟨_, _, _, J7, r6, q6⟩
    exact walk hh wish
end
end DL
end

section
set_option maxRecDepth 100000
set_option maxHeartbeats 2000000
namespace DL
open PySem PySem.Spec PySem.Calls PyProof.Rows L2
/-! ## isinstance of a caught error that has an own dict -/
section
open PySem.W
variable {prog : Program} {w : World} {A : Around} {E : Value → Shared → Prop} {s : Shared} {K : Frag} {x D : Addr} {ox od : Obj}
theorem class_of {Q : Option Value → Shared → Prop} (T : ExcC K D) (X : K.In s.heap) (I : InstAt s.heap x ox D (some od)) (h : Q (some (.ref D)) { s with toks := s.toks + 1 }) : wpAny (model prog w) A (getAttr? (.ref x) "__class__") Q E s := by
  have found : findObj K D (some od) "__class__" = some (.bind (.builtin "getset_descriptor.__get__") (.builtin "object.__class__")) := findObj_data (by obtain ⟨cd, hc, _⟩ := any_some T.hd; rw [hc]; rfl) T.ha T.hn T.ht
  obtain ⟨hp, gs, dr, tk, os⟩ := s
  have l0 := I.type (M := model prog w)
  have l1 := looks_findIn (M := model prog w) X T.hg
  have l2 := looks_findIn (M := model prog w) X T.hk
  have l3 := looks_find (M := model prog w) X I found
  have isB : Looks (model prog w) hp (isInstance (.ref x) (.type "BaseException")) true := l0.andThen (looks_subIn X T.hs)
  have c2 : (Value.builtin "BaseException.__getattribute__" == Value.builtin "object.__getattribute__") = false := by decide +kernel
  have c1 : (onTheHeap (Value.ref D) && Value.builtin "BaseException.__getattribute__" == Value.builtin "object.__getattribute__") = false := by rw [c2]; rfl
  have c0 : (false && onTheHeap (Value.builtin "BaseException.__getattribute__")) = false := rfl
  unfold getAttr? getAttrBy? getAttrBy
  refine wpAny_bind (wpAny_mkText (wpAny_bind (wpAny_attempt (wpAny_holding (wpAny_bind (l0.at (wpAny_bind (l1.at ?_))))))))
  show wpAny _ A (if (onTheHeap (Value.ref D) && Value.builtin "BaseException.__getattribute__" == Value.builtin "object.__getattribute__") = true then _ else _) _ _ _
  rw [c1, if_neg Bool.false_ne_true]
  unfold getAttrByItsOwn hookBefore
  refine wpAny_bind ?_
  rw [if_pos (show onTheHeap (Value.ref D) = true by rfl)]
  refine l2.at (wpAny_bind (wpAny_attempt (wpAny_holding ?_)))
  unfold callGetattribute
  rw [c0, if_neg Bool.false_ne_true]
  unfold boundAndCalled
  rw [PySem.F.excAttr_ValueError.ga.bind (.ref x)]
  refine wpAny_bind (wpAny_pure ?_)
  show wpAny _ A (call (.builtin "BaseException.__getattribute__") [.ref x, .str "__class__" tk]) _ _ _
  refine wpAny_call (codeAny_call_builtin PySem.F.excAttr_ValueError.ga.plain PySem.F.entry_bexc_ga ?_)
  refine @check_slot (model prog w) _ _ ⟨hp, gs, dr, tk + 1, os⟩ "BaseException.__getattribute__" "BaseException" "__getattribute__" (.ref x) [.str "__class__" tk] [] _ (by decide +kernel) (by decide +kernel) isB (PySem.F.args_bexc_ga (.ref x) (.str "__class__" tk)) ?_
  unfold Builtin.«object.__getattribute__»
  refine wpAny_bind (wpAny_of_eq (a := ((Value.ref x : Value), [Value.str "__class__" tk])) (by first | rfl | (simp only [slotArgs]; rfl)) ?_)
  refine wpAny_bind (wpAny_pure (wpAny_bind (l0.at (wpAny_bind (l3.at ?_)))))
  show wpAny _ A.in1 (holding [Value.builtin "object.__class__"] (call (.builtin "getset_descriptor.__get__") [.builtin "object.__class__", .ref x, .ref D]) >>= ret) _ _ _
  refine wpAny_bind (wpAny_holding (wpAny_call (class_get (s := ⟨hp, gs, dr, tk + 1, os⟩) (ox := ox) (od := some od) X I T.hm ?_)))
  refine wpAny_pure ?_
  show wpAny _ _ (handedOut   (.ref D)) _ _ _
  rw [handedOut_of (v := .ref D) rfl]
  first | exact wpAny_pure (wpAny_pure h) | exact wpAny_pure h | exact wpAny_pure (wpAny_bind (wpAny_pure (wpAny_pure h)))
theorem kitx_of (T : ExcC K D) : KitX K (.ref x) (.ref D) (fun h => ∃ od, InstAt h x ox D (some od)) where
  ty := fun _ _ _ ⟨_, I⟩ => I.type
  it := fun _ _ X _ => by
    obtain ⟨cd, hc, _⟩ := any_some T.hd
    unfold clsIn at hc
    split at hc
    · rename_i ho
      exact fun A' Q' E' s' k q => by
        unfold isType loadHead
        exact wpAny_bind (wpAny_loadPart (k _ _ (X _ _ ho)) (wpAny_pure q))
    · cases hc
  ne := fun h tp dd its n sl X htp => by
    obtain ⟨cd, hc, _⟩ := any_some T.hd
    apply Bool.eq_false_iff.mpr
    intro q
    have e : D = tp := Value.ref.inj (beq_iff_eq.mp q)
    unfold clsIn at hc
    split at hc
    · rename_i ho
      rw [e] at ho
      cases (X _ _ ho).symm.trans htp
    · cases hc
  ca := fun X ⟨_, I⟩ k => class_of T X I k
end
def rIsX (K : PySem.W.Frag) (D a d : Addr) : List V → Hp → VK → Prop := fun xs H Q => ∃ (c : V) (cv : Value) (b : Bool) (fs : List (Str × V)), xs = [.ref a, c] ∧ (∀ u, RelV c u → u = cv) ∧ PySem.W.kitOne K (.ref D) cv = some b ∧ H d = some (.xd fs) ∧ Q (.bl b) H
theorem call_isX {X : Cx} {a d D : Addr} {oe : Obj} {pn : List (Addr × Obj)} (C : ExcC X.K D) (hz : Zc (.ref D) (some d) oe) (hf : ∃ vs, oe.data = .fields vs) : CallR (X.suite a ((a, oe) :: pn)) (.builtin "isinstance") (rIsX X.K D a d) := by
  intro pins s σ H xs us Q I r h
  obtain ⟨c, cv, b, fs, rfl, hcv, e, hx, q⟩ := h
  obtain ⟨u1, u2, rfl, rx, rt⟩ := vals2 r
  obtain rfl : u1 = Value.ref a := rx
  obtain rfl := hcv _ rt
  obtain ⟨stored, _⟩ := I.pin (a, oe) (List.mem_append.mpr (.inl List.mem_cons_self))
  obtain ⟨vs, hv⟩ := hf
  have ok : ObjOk X.prog X.w H s.heap d (.xd fs) := I.hok d _ hx
  obtain ⟨mA, hns, _⟩ := ok
  obtain ⟨od, ho, _⟩ := lookIn_ns hns
  have J : PySem.W.InstAt s.heap a oe D (some od) := ⟨stored, hz.1, by unfold PySem.W.notCls; rw [hv] <;> rfl, by rw [hz.2]; exact ho⟩
  exact PySem.W.kia_one (kitx_of C) I.kIn ⟨od, J⟩ e (fun z => nomatch z) fun tk => ⟨.bl b, H, I.kept (t' := tk) fun _ _ z => z, rfl, q⟩
end DL
end

section
set_option maxRecDepth 100000
set_option maxHeartbeats 2000000
namespace DL
open PySem PySem.Spec L2
structure HdD where
  c : Value
  sl : Option Nat
  st : List Stmt
def setS : Option Nat → Sl → List Sl → List Sl
  | none, _, Γ => Γ
  | some i, s, Γ => Γ.set i s
def aftS (o : Option Nat) (P : Post) : Post := { nx := fun G => P.nx (setS o .un G), rt := P.rt, bk := fun G => P.bk (setS o .un G), ct := fun G => P.ct (setS o .un G), ex := fun _ _ _ => False }
/-- what the clauses owe for an error of the class at C with the fields fs -/
def HB (X : Cx) (fr : Bool) (S : List Addr) (P : Post) : List HdD → Ex
  | [], C, fs, G => P.ex C fs G
  | h :: r, C, fs, G => ∃ b, PySem.W.exmOne X.K (.ref C) h.c = some b ∧
      (b = true → (∀ i, h.sl = some i → i < G.length) ∧ ∀ (a d : Addr) (oe : Obj) (pn : List (Addr × Obj)), Zc (.ref C) (some d) oe → (∃ vs, oe.data = .fields vs) → SV (X.suite a ((a, oe) :: pn)) WF fr S (setS h.sl (.ok (.exc a d fs)) G) h.st (aftS h.sl P)) ∧
      (b = false → HB X fr S P r C fs G)
inductive HsD (X : Cx) : List ExceptHandler → List HdD → Prop
  | nil : HsD X [] []
  | plain {x : Str} {c : Value} {st : Stmt} {sts : List Stmt} {p q : Pos} {hs : List ExceptHandler} {l : List HdD} (nm : Names X x c) (r : HsD X hs l) : HsD X (.ExceptHandler (some (.Name x p)) none (st :: sts) q :: hs) (⟨c, none, st :: sts⟩ :: l)
  | named {x n : Str} {i : Nat} {c : Value} {st : Stmt} {sts : List Stmt} {p q : Pos} {hs : List ExceptHandler} {l : List HdD} (nm : Names X x c) (hi : X.N[i]? = some n) (hl : X.env.kindOf n = some .local) (r : HsD X hs l) :
      HsD X (.ExceptHandler (some (.Name x p)) (some n) (st :: sts) q :: hs) (⟨c, some i, st :: sts⟩ :: l)
def tsOf (X : Cx) (st : List Stmt) : Addr → Value → Option Addr → L2.TS := fun a cls d D σ H => ∀ (oe : Obj) (pn : List (Addr × Obj)), Zc cls d oe → (∃ vs, oe.data = .fields vs) → wss (X.suite a ((a, oe) :: pn)) st D σ H
def toHd (X : Cx) (h : HdD) : Hd := ⟨h.c, h.sl, tsOf X h.st⟩
theorem suiteOk {X : Cx} {st : List Stmt} : SuiteOk X st (tsOf X st) := fun a oe cls d pn hz hf => ⟨fun pins s σ H D I q => pss_wss.run pins s σ H D I (q oe pn hz hf)⟩
theorem hsOk {X : Cx} (hN : X.N.Nodup) : ∀ {hs : List ExceptHandler} {l : List HdD}, HsD X hs l → HsOk X hs (l.map (toHd X))
  | _, _, .nil => .nil
  | _, _, .plain nm r => .plain nm suiteOk (hsOk hN r)
  | _, _, .named nm hi hl r => .named nm hN hi hl suiteOk (hsOk hN r)
section
variable {X : Cx} {W : WX} {fr : Bool} {S : List Addr} {Γ : List Sl} {P : Post} {pos : Pos}
theorem AtM.unS {K : PySem.W.Frag} {E : Entry} {M : Addr → Prop} {σ : L2.St} {H : Hp} (A : AtM K E M Γ σ H) {i : Nat} {u : Option V} (hn : ∀ a d, Γ[i]? ≠ some (.own a d)) : AtM K E M (Γ.set i .un) (σ.set i u) H := by
  have un_of : ∀ (j : Nat) (s : Sl), (Γ.set i .un)[j]? = some s → s = .un ∨ (j ≠ i ∧ Γ[j]? = some s) := fun j s h => by
    rcases get_set h with ⟨_, z⟩ | ⟨c, z⟩
    · exact .inl z
    · exact .inr ⟨fun e => c e.symm, z⟩
  refine ⟨by rw [List.length_set, List.length_set]; exact A.len, fun j s h => ?_, fun j k a x y h1 h2 => ?_, A.m0, A.new, A.kept, fun j a x h => ?_, A.dom, A.s0, A.d0⟩
  · rcases un_of j s h with rfl | ⟨n, g⟩
    · trivial
    · rw [List.getElem?_set_ne (fun e => n e.symm)]
      exact A.get j s g
  · rcases un_of _ _ h1 with z | ⟨_, g1⟩
    · cases z
    · rcases un_of _ _ h2 with z | ⟨_, g2⟩
      · cases z
      · exact A.uniq j k a x y g1 g2
  · rcases un_of _ _ h with z | ⟨_, g⟩
    · cases z
    · exact A.owns j a x g
/-- any slot forgotten, an own object's too -/
theorem AtM.unAny {K : PySem.W.Frag} {E : Entry} {M : Addr → Prop} {σ : L2.St} {H : Hp} (A : AtM K E M Γ σ H) {i : Nat} {u : Option V} : AtM K E M (Γ.set i .un) (σ.set i u) H := by
  have un_of : ∀ (j : Nat) (s : Sl), (Γ.set i .un)[j]? = some s → s = .un ∨ (j ≠ i ∧ Γ[j]? = some s) := fun j s h => by
    rcases get_set h with ⟨_, z⟩ | ⟨c, z⟩
    · exact .inl z
    · exact .inr ⟨fun e => c e.symm, z⟩
  refine ⟨by rw [List.length_set, List.length_set]; exact A.len, fun j s h => ?_, fun j k a x y h1 h2 => ?_, A.m0, A.new, A.kept, fun j a x h => ?_, A.dom, A.s0, A.d0⟩
  · rcases un_of j s h with rfl | ⟨n, g⟩
    · trivial
    · rw [List.getElem?_set_ne (fun e => n e.symm)]
      exact A.get j s g
  · rcases un_of _ _ h1 with z | ⟨_, g1⟩
    · cases z
    · rcases un_of _ _ h2 with z | ⟨_, g2⟩
      · cases z
      · exact A.uniq j k a x y g1 g2
  · rcases un_of _ _ h with z | ⟨_, g⟩
    · cases z
    · exact A.owns j a x g
theorem aft_dlv {E : Entry} {D' : Ends} {o : Option Nat} {X' : Cx} (hX : X'.K = X.K) (d : Dlv X E W fr P D') : Dlv X' E WF fr (aftS o P) (endOf o D') := by
  cases o with
  | none => exact ⟨fun M G s H p A => d.nx M G s H p (hX ▸ A), fun M G s H p A => d.bk M G s H p (hX ▸ A), fun M G s H p A => d.ct M G s H p (hX ▸ A), fun f M x G s v H p A r => d.rt f M x G s v H p (hX ▸ A) (hX ▸ r), fun f M x G s p H q hm hn A o n => d.rf f M x G s p H q hm hn (hX ▸ A) (hX ▸ o) n,
      fun f M x G s q H i hi p e A => d.ro f M x G s q H i hi p e (hX ▸ A), fun s C dd fs vs G M H p => p.elim⟩
  | some i => exact ⟨fun M G s H p A => d.nx M _ _ H p (AtM.unAny (hX ▸ A)), fun M G s H p A => d.bk M _ _ H p (AtM.unAny (hX ▸ A)), fun M G s H p A => d.ct M _ _ H p (AtM.unAny (hX ▸ A)), fun f M x G s v H p A r => d.rt f M x G s v H p (hX ▸ A) (hX ▸ r),
      fun f M x G s p H q hm hn A o n => d.rf f M x G s p H q hm hn (hX ▸ A) (hX ▸ o) n, fun f M x G s q H i hi p e A => d.ro f M x G s q H i hi p e (hX ▸ A), fun s C dd fs vs G M H p => p.elim⟩
theorem hb_wN {E : Entry} {D' : Ends} (hS : ∀ b, E.S0 b ↔ b ∈ S) (d : Dlv X E W fr P D') : ∀ {l : List HdD} {C dd : Addr} {fs : List (Str × D)} {vs : List (Str × V)} {G : List Sl} {M : Addr → Prop} {σ : L2.St} {H : Hp}, HB X fr S P l C fs G → AtM X.K E M G σ H → H dd = some (.xd vs) → RepF X.K M H fs vs → ¬ M dd → E.H0 dd = none →
    wN X.K W D' (l.map (toHd X)) (.ref C) (some dd) σ H
  | [], C, dd, fs, vs, G, M, σ, H, h, A, e, r, nm, n0 => d.ex σ C dd fs vs G M H h A e r nm n0
  | hd :: l, C, dd, fs, vs, G, M, σ, H, ⟨b, hb, yes, no⟩, A, e, r, nm, n0 => by
    refine ⟨b, hb, fun hbt a na oe pn hz hf => ?_, fun hbf => hb_wN hS d (no hbf) A e r nm n0⟩
    obtain ⟨hlt, run⟩ := yes hbt
    have sv := run a dd oe pn hz hf
    have A2 : AtM X.K E M (setS hd.sl (.ok (.exc a dd fs)) G) (putOf hd.sl a σ) H := by
      cases q : hd.sl with
      | none => exact A
      | some i => exact A.setOk (hlt i q) (d := .exc a dd fs) (v := .ref a) ⟨vs, rfl, nm, e, r⟩
    exact sv.run E M _ H _ hS A2 (aft_dlv (X := X) (X' := X.suite a ((a, oe) :: pn)) rfl d)
/-- try: .. except x as e: .. except y: .. -/
theorem s_try {body : List Stmt} {h₀ : ExceptHandler} {hds : List ExceptHandler} {l : List HdD} (c : CtxOk X W) (hst : X.stack = X.env :: X.outer) (hfr : X.env.frame = some X.env.locals) (hh : HsD X (h₀ :: hds) l)
    (hb : ∀ (W' : WX) (pn : List (Addr × Obj)) (xe : Value → Shared → Prop), CtxOk (X.tr pn xe) W' → SV (X.tr pn xe) W' fr S Γ body { P with ex := HB X fr S P l }) : S1 X W fr S Γ (.Try body (h₀ :: hds) [] [] pos) P := by
  refine ⟨fun E M σ H D' hS A d => ⟨_, ps_tryN (tb := fun W' D σ H => ∀ (pn : List (Addr × Obj)) (xe : Value → Shared → Prop), Takes (X.tr pn xe) W' → PassesOwn (model X.prog X.w) X.A X.env xe → wss (X.tr pn xe) body D σ H) hst hfr c.takes
    (fun W' pn xe tk po => ⟨fun pins s σ H D I q => pss_wss.run pins s σ H D I (q pn xe tk po)⟩) (hsOk c.nd hh), ?_⟩⟩
  intro pn xe tk po
  refine (hb (wN X.K W D' (l.map (toHd X))) pn xe ⟨c.calm, po, tk, c.nd⟩).run E M σ H D' hS A ⟨d.nx, d.bk, d.ct, d.rt, d.rf, d.ro, fun s C dd fs vs G M H p B e r nm n0 => hb_wN hS d p B e r nm n0⟩
end
section
variable {X : Cx} {W : WX} {Γ : List Sl} {Φ : D → List Sl → Prop} {Ψ : Ex} {pos : Pos} {a d C : Addr} {oe : Obj} {pn : List (Addr × Obj)} {fs : List (Str × D)}
/-- e.f, e the caught error -/
theorem ev_xf {i : Nat} {x n : Str} {p0 : Pos} {dv : D} (T : XfC X.K C) (hno : PySem.W.findIn X.K (.ref C) n = some none) (hz : Zc (.ref C) (some d) oe) (hf : ∃ vs, oe.data = .fields vs)
    (hΓ : Γ[i]? = some (.ok (.exc a d fs))) (hN : X.N[i]? = some x) (hv : Vis X.env.scope x) (hl : fs.lookup n = some dv) (h : Φ dv Γ) (hb : attributeBase (.Name x p0) n X.env (eval (.Name x p0) X.env) = eval (.Name x p0) X.env := by rfl)
    (hd : (x == ("__debug__" : Str)) = false := by decide) (hcd : (x == ("__classdict__" : Str)) = false := by decide) : EV (X.suite a ((a, oe) :: pn)) W Γ (.Attribute (.Name x p0) n pos) Φ Ψ := by
  refine ⟨fun E M σ H Q A xx q => ⟨_, pe_xf T hno hz hf (pe_var hN hv hd hcd) hb, ?_⟩⟩
  obtain ⟨v, e, vs, rfl, nm, hx, rf⟩ := A.get i _ hΓ
  obtain ⟨u, hu, ru⟩ := rf.lookup hl
  exact ⟨_, e, rfl, rfl, d, vs, u, rfl, hx, hu, q dv Γ u H h A .refl ru⟩
/-- isinstance(e, c) -/
theorem ev_isx {i : Nat} {x f : Str} {p0 p1 : Pos} {cn : Expr} {b : Bool} (T : ExcC X.K C) (hz : Zc (.ref C) (some d) oe) (hf : ∃ vs, oe.data = .fields vs) (hg : Gl X f) (hm : X.mg f = none) (hv0 : bootBuiltins f = some (.builtin "isinstance"))
    (hΓ : Γ[i]? = some (.ok (.exc a d fs))) (hN : X.N[i]? = some x) (hv : Vis X.env.scope x) {cv : Value}
    (hc : EV (X.suite a ((a, oe) :: pn)) W Γ cn (fun dc Γ1 => Γ1 = Γ ∧ (∀ (M : Addr → Prop) (H : Hp) (v : V) (u : Value), Rep X.K M H dc v → RelV v u → u = cv) ∧ PySem.W.kitOne X.K (.ref C) cv = some b ∧ Φ (.bl b) Γ) Ψ)
    (hn : f ≠ "__name__" := by decide) (hdb : (f == ("__debug__" : Str)) = false := by decide) (hd : (x == ("__debug__" : Str)) = false := by decide) (hcd : (x == ("__classdict__" : Str)) = false := by decide)
    (h1 : starEach [.Name x p1, cn] (X.suite a ((a, oe) :: pn)).env = (false, eval (.Name x p1) (X.suite a ((a, oe) :: pn)).env) :: starEach [cn] (X.suite a ((a, oe) :: pn)).env := by rfl)
    (h2 : starEach [cn] (X.suite a ((a, oe) :: pn)).env = (false, eval cn (X.suite a ((a, oe) :: pn)).env) :: starEach [] (X.suite a ((a, oe) :: pn)).env := by rfl)
    (hpl : (backTo pos (starEach [cn] (X.suite a ((a, oe) :: pn)).env)).any (·.1) = false := by rfl) : EV (X.suite a ((a, oe) :: pn)) W Γ (.Call (.Name f p0) [.Name x p1, cn] [] pos) Φ Ψ := by
  refine ⟨fun E M σ H Q A xx q => ⟨_, pe_callB (call_isX T hz hf) hg hm hv0 (pa_cons (pe_var hN hv hd hcd) (pa_cons pe_we pa_nil h2) h1) hn hdb h1 hpl, ?_⟩⟩
  obtain ⟨v, e, vs, rfl, nm, hx, rf⟩ := A.get i _ hΓ
  refine ⟨_, e, ?_⟩
  refine hc.run E M σ H _ A xx fun dc Γ1 vc H1 p1 A1 k1 r1 => ?_
  obtain ⟨rfl, hu, hk, hp⟩ := p1
  exact ⟨vc, cv, b, vs, rfl, fun u hr => hu M H1 vc u r1 hr, hk, k1 _ _ nm hx, q _ _ _ H1 hp A1 k1 rfl⟩
end
end DL
end

section
set_option maxRecDepth 100000
set_option maxHeartbeats 1000000
namespace DL
open PySem PySem.Spec L2
section
variable {X : Cx} {W : WX} {Γ : List Sl} {Φ : D → List Sl → Prop} {Ψ : Ex} {P : D → Prop} {pos : Pos} {Θ : Bool → List Sl → Prop}
def rNotRng : R2 := fun x y H Q => ∃ (i : Int) (a : Addr) (lo hi : Int), x = V.int i ∧ y = V.ref a ∧ H a = some (.rng lo hi) ∧ Q (.bl (!decide (lo ≤ i ∧ i < hi))) H
theorem op_notRng : OpR X (compareOp .NotIn) rNotRng := by
  rintro pins s σ H x y v u Q I rx ry ⟨i, a, lo, hi, rfl, rfl, ha, q⟩
  obtain ⟨k, rfl⟩ := rx
  cases (show u = Value.ref a from ry)
  obtain ⟨t1, t2, t3, ho⟩ := I.hok a _ ha
  show wpAny _ X.A (do return Value.bool (!(← contains (Value.ref a) (Value.int i k)))) _ _ s
  refine wpAny_bind (wpAny_contains_slot (T := "range") ⟨_, ho, rfl⟩ F.slot_range_contains (call_meets F.slot_range_contains ⟨_, ho, rfl⟩ F.entry_range_contains (F.args_range_contains_2 _ _) (q_contains a lo hi i t1 t2 t3 k) ⟨ho, wpAny_truthy_bool (wpAny_pure ?_)⟩))
  refine ⟨.bl _, H, I, rfl, ?_⟩
  rw [place1]
  exact q
/-- a not in range(b, c), as a test -/
theorem et_ninrng {a b e : Expr} {p0 p1 : Pos} (hg : Gl X "range") (hm : X.mg "range" = none)
    (h : EV X W Γ a (fun da Γ1 => EA X W Γ1 [b, e] (fun ds Γ2 => ∃ i lo hi : Int, da = .int i ∧ ds = [.int lo, .int hi] ∧ Θ (!decide (lo ≤ i ∧ i < hi)) Γ2) Ψ) Ψ)
    (hs : starEach [b, e] X.env = (false, eval b X.env) :: starEach [e] X.env := by rfl) (hpl : (backTo p1 (starEach [e] X.env)).any (·.1) = false := by rfl) (hmk : behindInMarks .NotIn (.Call (.Name "range" p0) [b, e] [] p1) = false := by rfl) :
    ET X W Γ (.Compare a [.NotIn] [.Call (.Name "range" p0) [b, e] [] p1] pos) Θ Ψ := by
  refine ⟨fun E M σ H Q A x q => ⟨_, pt_cmpR op_notRng pe_we (pe_callTy cr_range2 hg hm PyProof.Rows.boot_range pa_wa (by decide) (by decide) hs hpl) hmk, ?_⟩⟩
  refine h.run E M σ H _ A x fun da Γ1 va H1 p1 A1 k1 ra => ?_
  refine p1.run E M σ H1 _ A1 x fun ds Γ2 vs H2 p2 A2 k2 rs => ?_
  obtain ⟨i, lo, hi, rfl, rfl, p3⟩ := p2
  obtain ⟨v1, v2, rfl, r1, r2⟩ := rs.two
  refine ⟨lo, hi, by rw [show v1 = .int lo from r1, show v2 = .int hi from r2], fun p np => ?_⟩
  have g : Gr H2 (upd H2 p (.rng lo hi)) := Gr.upd np
  exact ⟨i, p, lo, hi, ra, rfl, upd_same, _, rfl, q _ Γ2 _ p3 (A2.grow g) (k1.trans (k2.trans g.kp))⟩
/-- k not in d, k in d: d a dict -/
theorem et_dnin {a b : Expr} (hu : X.A.units + 64 < cLine) (h : EV X W Γ a (fun da Γ1 => EV X W Γ1 b (fun db Γ2 => ∃ l k, db = .dk l ∧ da = keyD k ∧ Θ (!(getD' l k).isSome) Γ2) Ψ) Ψ) (hm : behindInMarks .NotIn b = false := by rfl) : ET X W Γ (.Compare a [.NotIn] [b] pos) Θ Ψ := by
  refine ⟨fun E M σ H Q A x q => ⟨_, pt_cmp (pc_dnotin (by omega) pe_we pe_we) hm, ?_⟩⟩
  refine h.run E M σ H _ A x fun da Γ1 va H1 p1 A1 k1 ra => ?_
  refine p1.run E M σ H1 _ A1 x fun db Γ2 vb H2 p2 A2 k2 rb => ?_
  obtain ⟨l, k, rfl, rfl, p3⟩ := p2
  obtain ⟨c, vs, rfl, _, ho, rr⟩ := rb
  rw [rep_key (ra.mv k2.mv)]
  refine ⟨c, valV vs k, rfl, .inl ⟨vs, k, ho, rfl, rfl⟩, _, rfl, ?_⟩
  have e : (valV vs k).isSome = (getD' l k).isSome := by
    cases z : getD' l k with
    | none => rw [rr.get_none z]; rfl
    | some y =>
      obtain ⟨u, hu, _⟩ := rr.get z
      rw [hu]; rfl
  rw [e]
  exact q _ Γ2 H2 p3 A2 (k1.trans k2)
theorem getD'_mem {l : List (Key × D)} {k : Key} : (getD' l k).isSome = true ↔ k ∈ l.map (·.1) := by
  unfold getD'
  rw [Option.isSome_map, List.find?_isSome]
  constructor
  · rintro ⟨x, hx, e⟩
    exact List.mem_map.mpr ⟨x, hx, of_decide_eq_true e⟩
  · intro h
    obtain ⟨x, hx, e⟩ := List.mem_map.mp h
    exact ⟨x, hx, decide_eq_true e⟩
/-- a, b, c = a tuple of three -/
theorem gv_tup3 {k : Nat} {V : List Nat} {Φ : List Sl → Prop} (hc : X.calm = true) {t1 t2 t3 : Expr} {d1 d2 d3 : D}
    (h1 : GV X t1 V d1 Γ (fun Γ1 => GV X t2 V d2 Γ1 (fun Γ2 => GV X t3 V d3 Γ2 Φ))) (hn : (assignEach [t1, t2, t3] X.env).length = 3 := by rfl) (hst : (assignEach [t1, t2, t3] X.env).findIdx? (·.1) = none := by rfl)
    (hs1 : (assignEach (t1 :: [t2, t3]) X.env).map (·.2) = assign t1 X.env :: (assignEach [t2, t3] X.env).map (·.2) := by rfl)
    (hs2 : (assignEach (t2 :: [t3]) X.env).map (·.2) = assign t2 X.env :: (assignEach [t3] X.env).map (·.2) := by rfl)
    (hs3 : (assignEach (t3 :: []) X.env).map (·.2) = assign t3 X.env :: (assignEach [] X.env).map (·.2) := by rfl) : GV X (.Tuple [t1, t2, t3] k pos) V (.tup [d1, d2, d3]) Γ Φ := by
  refine ⟨fun E M σ H v Q A r q => ⟨_, pg_tup hc (pgs_cons pg_wg (pgs_cons pg_wg (pgs_cons pg_wg pgs_nil hs3) hs2) hs1) hn hst, ?_⟩⟩
  obtain ⟨a, vs, rfl, hq, v1, r1, rfl, x1, v2, r2, rfl, x2, v3, r3, rfl, x3, e⟩ := r
  have e : r3 = [] := e
  subst e
  refine ⟨a, [v1, v2, v3], rfl, hq.elim (fun z => .inl (.inl z.2)) (fun z => z _), rfl, v1, [v2, v3], rfl, ?_⟩
  refine h1.run E M σ H v1 _ A x1 fun Γ1 σ1 p1 A1 ag1 l1 => ⟨v2, [v3], rfl, ?_⟩
  refine p1.run E M σ1 H v2 _ A1 x2 fun Γ2 σ2 p2 A2 ag2 l2 => ⟨v3, [], rfl, ?_⟩
  refine p2.run E M σ2 H v3 _ A2 x3 fun Γ3 σ3 p3 A3 ag3 l3 => ⟨rfl, q Γ3 σ3 p3 A3 (fun j hj => (ag3 j hj).trans ((ag2 j hj).trans (ag1 j hj))) (l3.trans (l2.trans l1))⟩
/-- a target takes a value, as a statement -/
theorem s_tgt {fr : Bool} {S : List Addr} {P : Post} {tg e : Expr} {V : List Nat} (h : EV X W Γ e (fun d Γ1 => GV X tg V d Γ1 P.nx) P.ex) (hs : swapsWithSole [tg] e pos.line X.env = pure false := by rfl) (hw : swappedStores [tg] e X.env = pure none := by rfl)
    (h1 : (assignEach [tg] X.env).map (·.2) = [assign tg X.env] := by rfl) : S1 X W fr S Γ (.Assign [tg] e pos) P := by
  refine ⟨fun E M σ H D' hS A d => ⟨_, ps_asg pe_we pg_wg hs hw h1, ?_⟩⟩
  refine h.run E M σ H _ A (d.ex σ) fun dd Γ1 v H1 p1 A1 k1 r1 => ?_
  exact p1.run E M σ H1 v _ A1 r1 fun Γ2 σ2 p2 A2 _ _ => d.nx M Γ2 σ2 H1 p2 A2
end
end DL
end

section
set_option maxRecDepth 100000
set_option maxHeartbeats 2000000
/-! sorted of tuples that begin with texts, no two with the same texts -/
namespace DLS
open PySem PySem.Spec PyProof.Rows L2 SrtO
abbrev cpl (s : Str) : List Nat := s.cps.toList
theorem cpl_inj {a b : Str} (h : cpl a = cpl b) : a = b := by
  cases a; cases b
  congr 1
  exact Array.ext' h
def ltS (ks ls : List Str) : Bool := decide (ks.map cpl < ls.map cpl)
theorem ltS_self (ks : List Str) : ltS ks ks = false := decide_eq_false (List.lt_irrefl _)
theorem swoS {α : Type} (k : α → List Str) : Swo fun v u => ltS (k v) (k u) := by
  constructor
  · intro x y h
    exact decide_eq_false (List.lt_asymm (of_decide_eq_true h))
  · intro x y z h1 h2
    have a := of_decide_eq_false h1
    have b := of_decide_eq_false h2
    exact decide_eq_false (List.not_lt.mpr (List.le_trans (List.not_lt.mp a) (List.not_lt.mp b)))
inductive TextsAre : List Value → List Str → Prop
  | nil : TextsAre [] []
  | cons {x : Str} {t : Tok} {vs : List Value} {ks : List Str} (r : TextsAre vs ks) : TextsAre (.str x t :: vs) (x :: ks)
theorem TextsAre.length {vs : List Value} {ks : List Str} (h : TextsAre vs ks) : vs.length = ks.length := by
  induction h with
  | nil => rfl
  | cons r ih => rw [List.length_cons, List.length_cons, ih]
theorem TextsAre.inj {vs : List Value} {ks : List Str} (h : TextsAre vs ks) : ∀ {ls : List Str} {r1 r2 us : List Value}, TextsAre us ls → ks.length = ls.length → vs ++ r1 = us ++ r2 → ks = ls := by
  induction h with
  | nil =>
    intro ls r1 r2 us h2 hl _
    exact (List.length_eq_zero_iff.mp hl.symm).symm
  | @cons x t vs ks r ih =>
    intro ls r1 r2 us h2 hl e
    cases h2 with
    | nil => cases hl
    | @cons y u us' ls' r' =>
      obtain ⟨e1, e2⟩ := List.cons.inj e
      cases e1
      rw [ih r' (Nat.succ.inj hl) e2]
section
variable {prog : Program} {w : World} {A : Around} {s : Shared} {b fin : Bool} {Q : Bool → Shared → Prop}
theorem oneLt_strs (c : Bool) {x y : Str} {t u : Tok} (h : Q (decide (cpl x < cpl y)) s) : wpAny (model prog w) A (oneLt' c (.str x t) (.str y u)) Q (fun _ _ => False) s := by
  cases c with
  | true => exact oneLt_str h
  | false => exact PySem.W.kat_one _ _ (PySem.P.lt_str (Q := PySem.W.BoolBack Q) h)
theorem kat_same : ∀ (l : List Value) (i : Nat), Q fin s → PySem.W.KatLex prog w A b fin Q (l.zip l) i s
  | [], i, h => PySem.W.kat_nil h
  | v :: l, i, h => by
    rw [List.zip_cons_cons]
    exact PySem.W.kat_cons (SeqAt.EqAt.same v prog w _ _ (PySem.W.kat_yes (kat_same l (i + 1) h)))
theorem kat_strs {xs : List Value} {ks : List Str} (hx : TextsAre xs ks) : ∀ {ys : List Value} {ls : List Str} {r1 r2 : List Value} (i : Nat), TextsAre ys ls → ks.length = ls.length → ks ≠ ls → Q (ltS ks ls) s → PySem.W.KatLex prog w A b fin Q ((xs ++ r1).zip (ys ++ r2)) i s := by
  induction hx with
  | nil =>
    intro ys ls r1 r2 i hy hl hne _
    exact absurd (List.length_eq_zero_iff.mp hl.symm).symm hne
  | @cons x t vs ks r ih =>
    intro ys ls r1 r2 i hy hl hne h
    cases hy with
    | nil => cases hl
    | @cons y u us ls' r' =>
      rw [List.cons_append, List.cons_append, List.zip_cons_cons]
      refine PySem.W.kat_cons (SeqAt.EqAt.str_str x t y u prog w _ _ (PySem.W.kat_go (fun e1 => ?_) fun e1 => ?_))
      · have e : x = y := by simpa using e1
        subst e
        refine PySem.W.kat_yes (ih (i + 1) r' (Nat.succ.inj hl) (fun z => hne (by rw [z])) ?_)
        have q : ltS (x :: ks) (x :: ls') = ltS ks ls' := by
          unfold ltS
          rw [List.map_cons, List.map_cons]
          refine decide_eq_decide.mpr ?_
          rw [List.cons_lt_cons_iff]
          exact ⟨fun z => z.elim (fun z => absurd z (List.lt_irrefl _)) (·.2), fun z => .inr ⟨rfl, z⟩⟩
        rw [← q]
        exact h
      · have e : x ≠ y := by simpa using e1
        refine PySem.W.kat_no (oneLt_strs _ ?_)
        have q : ltS (x :: ks) (y :: ls') = decide (cpl x < cpl y) := by
          unfold ltS
          rw [List.map_cons, List.map_cons]
          refine decide_eq_decide.mpr ?_
          rw [List.cons_lt_cons_iff]
          exact ⟨fun z => z.elim id (fun z => absurd (cpl_inj z.1) e), fun z => .inl z⟩
        rw [← q]
        exact h
/-- a row: a tuple of N items, the first n of them the texts ks -/
def RowV (h : Heap) (n N : Nat) (v : Value) (ks : List Str) : Prop := ∃ (a : Addr) (o : Obj) (its : Array Value) (m : Nat) (xs r : List Value), v = .ref a ∧ h.get? a = some o ∧ o.cls = .type "tuple" ∧ o.data = .seq its m ∧ its.toList = xs ++ r ∧ TextsAre xs ks ∧ ks.length = n ∧ its.size = N
theorem RowV.keeps {h h' : Heap} {n N : Nat} {v : Value} {ks : List Str} (x : RowV h n N v ks) (k : ∀ b o, h.get? b = some o → o.cls = .type "tuple" → h'.get? b = some o) : RowV h' n N v ks := by
  obtain ⟨a, o, its, m, xs, r, e, ho, hc, q⟩ := x
  exact ⟨a, o, its, m, xs, r, e, k a o ho hc, hc, q⟩
theorem RowV.fn {h : Heap} {n N : Nat} {v : Value} {ks ls : List Str} (x : RowV h n N v ks) (y : RowV h n N v ls) : ks = ls := by
  obtain ⟨a, o, its, m, xs, r, rfl, ho, hc, hd, hi, hs, hn, _⟩ := x
  obtain ⟨a', o', its', m', xs', r', e, ho', hc', hd', hi', hs', hn', _⟩ := y
  cases e
  cases ho.symm.trans ho'
  rw [hd] at hd'
  cases hd'
  exact hs.inj hs' (hn.trans hn'.symm) (hi.symm.trans hi')
noncomputable def kOf (h : Heap) (n N : Nat) (v : Value) : List Str := @Classical.epsilon (List Str) ⟨[]⟩ fun ks => RowV h n N v ks
theorem kOf_eq {h : Heap} {n N : Nat} {v : Value} {ks : List Str} (x : RowV h n N v ks) : kOf h n N v = ks := (Classical.epsilon_spec (p := fun ks => RowV h n N v ks) ⟨ks, x⟩).fn x
theorem firsts {h : Heap} {n N : Nat} (hn : 1 ≤ n) : ∀ vs : List Value, (∀ v ∈ vs, ∃ ks, RowV h n N v ks) → ∃ fs : List Value, PySem.W.KatTups h vs fs ∧ fs.length = vs.length ∧ ∀ f ∈ fs, ∃ x t, f = Value.str x t
  | [], _ => ⟨[], trivial, rfl, fun _ m => nomatch m⟩
  | v :: vs, hv => by
    obtain ⟨fs, h1, h2, h3⟩ := firsts hn vs fun u m => hv u (List.mem_cons_of_mem _ m)
    obtain ⟨ks, a, o, its, m, xs, r, rfl, ho, hc, hd, hi, hs, hl, _⟩ := hv v List.mem_cons_self
    cases hs with
    | nil => rw [← hl] at hn; exact absurd hn (by decide)
    | @cons x t vs' ks' r' =>
      refine ⟨.str x t :: fs, ⟨⟨a, o, its, m, rfl, ho, hc, hd, ?_⟩, h1⟩, by rw [List.length_cons, List.length_cons, h2], fun f mf => ?_⟩
      · rw [← Array.getElem?_toList, hi]; rfl
      · rcases List.mem_cons.mp mf with rfl | mf
        · exact ⟨x, t, rfl⟩
        · exact h3 f mf
theorem rows_cmp {h : Heap} {n N : Nat} {vs : List Value} {k : Value → List Str} (hp : ∀ v ∈ vs, RowV s.heap n N v (k v)) (hd : ∀ v ∈ vs, ∀ u ∈ vs, k v = k u → v = u) : SrtO.Cmp prog w A s (tuples' true) (fun p => p.1 ∈ vs) (lt2 fun v u => ltS (k v) (k u)) := by
  intro p q hm hm'
  have r1 := hp _ hm
  have r2 := hp _ hm'
  show wpAny (model prog w) A (keyLt' (tuples' true) p.1 q.1) (fun r s' => s' = s ∧ r = ltS (k p.1) (k q.1)) (fun _ _ => False) s
  by_cases e : k p.1 = k q.1
  · have e2 := hd _ hm _ hm' e
    rw [← e2, ltS_self]
    obtain ⟨a, o, its, m, xs, r, ev, ho, hc, hdt, hi, hs, hn, hN⟩ := r1
    rw [ev]
    refine PySem.W.kat_lt ho hdt ho hdt (kat_same _ _ ⟨rfl, ?_⟩)
    exact decide_eq_false (Nat.lt_irrefl _)
  · generalize k p.1 = ks at r1 e ⊢
    generalize k q.1 = ls at r2 e ⊢
    obtain ⟨a, o, its, m, xs, r, ev, ho, hc, hdt, hi, hs, hn, hN⟩ := r1
    obtain ⟨a', o', its', m', xs', r', ev', ho', hc', hdt', hi', hs', hn', hN'⟩ := r2
    rw [ev, ev']
    refine PySem.W.kat_lt ho hdt ho' hdt' ?_
    rw [hi, hi']
    exact kat_strs hs _ hs' (hn.trans hn'.symm) e ⟨rfl, rfl⟩
theorem rows_sortable {a : Addr} {n N : Nat} {vs : List Value} {k : Value → List Str} (hn : 1 ≤ n) (h0 : 0 < vs.length) (hp : ∀ v ∈ vs, RowV s.heap n N v (k v)) (hd : ∀ v ∈ vs, ∀ u ∈ vs, k v = k u → v = u) (ha : ∀ o, s.heap.get? a = some o → o.cls ≠ .type "tuple") :
    SortableO prog w A s a vs fun v u => ltS (k v) (k u) := by
  intro h' keep
  have hp' : ∀ v ∈ vs, RowV h' n N v (k v) := fun v hm => (hp v hm).keeps fun b o e c => keep b o (fun z => ha o (z ▸ e) c) e
  obtain ⟨fs, h1, h2, h3⟩ := firsts hn vs fun v hm => ⟨_, hp' v hm⟩
  refine ⟨tuples' true, fun Q E hq => ?_, rows_cmp (h := h') hp' hd⟩
  refine PySem.W.kat_kind (T := .type "str") h1 (h2 ▸ h0) (fun f hm => ?_) (by rfl) ?_
  · obtain ⟨x, t, rfl⟩ := h3 f hm
    exact PySem.W.Looks.now
  · have e : (Value.type "str" != Value.type "tuple") = true := by decide +kernel
    rw [e]
    exact hq
theorem sorted_rows {E : Value → Shared → Prop} {l : Addr} {n N : Nat} {vs : List Value} {k : Value → List Str} {R : Value → Shared → Prop} (hn : 1 ≤ n) (hl : s.heap.IsList l vs.toArray) (hz : vs.length ≤ sizeLine) (hp : ∀ v ∈ vs, RowV s.heap n N v (k v)) (hd : ∀ v ∈ vs, ∀ u ∈ vs, k v = k u → v = u)
    (h : ∀ (h' : Heap) (d : Addr) (out : List Value), Srtd (fun v u => ltS (k v) (k u)) out → out.Perm vs → (∀ b o, s.heap.get? b = some o → h'.get? b = some o) → s.heap.objs.size ≤ d → (∃ m, h'.get? d = some (seqObj "list" out.toArray m)) → R (.ref d) { s with heap := h' }) :
    wpAny (model prog w) A (call (.builtin "sorted") [.ref l]) R E s := by
  refine sorted_ord (swoS k) hl hz (fun h2 h₁ a ha kk => ?_) fun out hs hb => ?_
  · refine rows_sortable (s := { s with heap := h₁ }) hn (by omega) (fun v hm => (hp v hm).keeps fun b o e _ => (kk b o e).2) hd fun o e c => ?_
    cases e.symm.trans ha
    exact absurd (Value.type.inj c) (by decide)
  · exact h _ _ out hs hb.perm (fun b o e => sortedAll_old e) (Nat.le_succ _) (sortedAll_at s.heap vs out.toArray)
end
end DLS
end

section
set_option maxRecDepth 100000
set_option maxHeartbeats 2000000
namespace DLS
open PySem PySem.Spec PyProof.Rows L2 SrtO
/-- x is a tuple of N items, the first n the texts ks -/
def RowX (K : PySem.W.Frag) (H : Hp) (n N : Nat) (x : V) (ks : List Str) : Prop := ∃ (t : Addr) (r : List V), x = .ref t ∧ SqT K H t (ks.map V.str ++ r) ∧ ks.length = n ∧ ks.length + r.length = N
def rSortedR (K : PySem.W.Frag) : List V → Hp → VK → Prop := fun vs H Q => ∃ (a : Addr) (ps : List (List Str × V)) (n N : Nat), vs = [.ref a] ∧ SqL K H a (ps.map (·.2)) ∧ 1 ≤ n ∧ (∀ p ∈ ps, RowX K H n N p.2 p.1) ∧ (ps.map (·.1)).Nodup ∧
  ∀ (qs : List (List Str × V)) (d : Addr), qs.Perm ps → (qs.Pairwise fun x y => ltS y.1 x.1 = false) → H d = none → Q (.ref d) (upd H d (.lst (qs.map (·.2))))
theorem strs_of {ks : List Str} {r : List V} : ∀ {us : List Value}, Vals (ks.map V.str ++ r) us → ∃ xs rs, us = xs ++ rs ∧ TextsAre xs ks := by
  induction ks with
  | nil => exact fun {us} _ => ⟨[], us, rfl, .nil⟩
  | cons k ks ih =>
    intro us h
    cases h with
    | cons h1 h2 =>
      obtain ⟨t, rfl⟩ := (show ∃ t, _ = Value.str k t from h1)
      obtain ⟨xs, rs, rfl, h3⟩ := ih h2
      exact ⟨_ :: xs, rs, rfl, .cons h3⟩
section
variable {X : Cx}
theorem rowV_of {pins : List (Addr × Obj)} {σ : L2.St} {H : Hp} {s : Shared} (I : Inv X pins σ H s) {n N : Nat} {x : V} {ks : List Str} {u : Value} (h : RowX X.K H n N x ks) (r : RelV x u) : RowV s.heap n N u ks := by
  obtain ⟨t, rest, rfl, hs, hn, hN⟩ := h
  obtain ⟨its, rv, pt, _⟩ := I.tuple hs
  obtain ⟨xs, rs, rfl, hk⟩ := strs_of rv
  obtain rfl : u = Value.ref t := r
  obtain ⟨o, ho, hc, m, hd⟩ := pt
  refine ⟨t, o, _, m, xs, rs, rfl, ho, hc, hd, by rw [List.toList_toArray], hk, hn, ?_⟩
  have l1 := rv.length
  rw [List.length_append, List.length_map] at l1
  rw [List.size_toArray, ← l1]
  exact hN
theorem pairs_up {pins : List (Addr × Obj)} {σ : L2.St} {H : Hp} {s : Shared} (I : Inv X pins σ H s) {n N : Nat} : ∀ {ps : List (List Str × V)} {us : List Value}, Vals (ps.map (·.2)) us → (∀ p ∈ ps, RowX X.K H n N p.2 p.1) →
    ∃ T : List ((List Str × V) × Value), T.map (·.1) = ps ∧ T.map (·.2) = us ∧ ∀ t ∈ T, RelV t.1.2 t.2 ∧ RowV s.heap n N t.2 t.1.1
  | [], us, h, _ => by
    have e := h.length
    rw [List.length_eq_zero_iff.mp e.symm]
    exact ⟨[], rfl, rfl, fun _ m => nomatch m⟩
  | p :: ps, us, h, hr => by
    rw [List.map_cons] at h
    cases h with
    | @cons _ u _ us' h1 h2 =>
      obtain ⟨T, e1, e2, e3⟩ := pairs_up I h2 fun q m => hr q (List.mem_cons_of_mem _ m)
      refine ⟨(p, u) :: T, by rw [List.map_cons, e1], by rw [List.map_cons, e2], fun t m => ?_⟩
      rcases List.mem_cons.mp m with rfl | m
      · exact ⟨h1, rowV_of I (hr p List.mem_cons_self) h1⟩
      · exact e3 t m
theorem vals_of {T : List ((List Str × V) × Value)} (h : ∀ t ∈ T, RelV t.1.2 t.2) : Vals ((T.map (·.1)).map (·.2)) (T.map (·.2)) := by
  induction T with
  | nil => exact .nil
  | cons t T ih => exact .cons (h t List.mem_cons_self) (ih fun u m => h u (List.mem_cons_of_mem _ m))
theorem key_uniq {ps : List (List Str × V)} (h : (ps.map (·.1)).Nodup) : ∀ {T : List ((List Str × V) × Value)}, T.map (·.1) = ps → ∀ t ∈ T, ∀ q ∈ T, t.1.1 = q.1.1 → t.2 = q.2 := by
  induction ps with
  | nil => intro T e t m; rw [List.map_eq_nil_iff.mp e] at m; nomatch m
  | cons p ps ih =>
    intro T e t m q m' ee
    cases T with
    | nil => nomatch m
    | cons t0 T =>
      rw [List.map_cons] at e
      obtain ⟨rfl, e2⟩ := List.cons.inj e
      rw [List.map_cons, List.nodup_cons] at h
      have inT : ∀ z ∈ T, z.1.1 ∈ ps.map (·.1) := fun z hz => by
        rw [← e2, List.map_map]
        exact List.mem_map.mpr ⟨z, hz, rfl⟩
      rcases List.mem_cons.mp m with m1 | m1
      · rcases List.mem_cons.mp m' with m2 | m2
        · rw [m1, m2]
        · exact absurd (m1 ▸ ee ▸ inT q m2) h.1
      · rcases List.mem_cons.mp m' with m2 | m2
        · exact absurd (m2 ▸ ee ▸ inT t m1) h.1
        · exact ih h.2 e2 t m1 q m2 ee
theorem cr_sortedR : CallR X (.builtin "sorted") (rSortedR X.K) := by
  intro pins s σ H vs us Q I r h
  obtain ⟨a, ps, n, N, rfl, hs, hn, hrow, hnd, q⟩ := h
  obtain ⟨its, rv, hl, hz⟩ := I.list hs
  obtain ⟨u, rfl, ru⟩ := vals1 r
  obtain rfl : u = Value.ref a := ru
  obtain ⟨T, e1, e2, e3⟩ := pairs_up I rv hrow
  subst e2
  have key : ∀ t ∈ T, kOf s.heap n N t.2 = t.1.1 := fun t m => kOf_eq (e3 t m).2
  refine sorted_rows (n := n) (N := N) (k := kOf s.heap n N) hn hl.isList (by rw [← rv.length]; exact hz) (fun v hv => ?_) (fun v hv u hu e => ?_) fun h' d out h1 h2 kp hd hm => ?_
  · obtain ⟨t, m, rfl⟩ := List.mem_map.mp hv
    rw [key t m]
    exact (e3 t m).2
  · obtain ⟨t, m, rfl⟩ := List.mem_map.mp hv
    obtain ⟨z, m', rfl⟩ := List.mem_map.mp hu
    rw [key t m, key z m'] at e
    exact key_uniq hnd e1 t m z m' e
  · obtain ⟨T', p', e'⟩ := perm_lift (fun t : (List Str × V) × Value => t.2) h2 T rfl
    have mem : ∀ t ∈ T', t ∈ T := fun t m => p'.mem_iff.mp m
    have hq : (T'.map (·.1)).Perm ps := by rw [← e1]; exact p'.map _
    have hv : Vals ((T'.map (·.1)).map (·.2)) out := by
      rw [← e']
      exact vals_of fun t m => (e3 t (mem t m)).1
    have hsort : (T'.map (·.1)).Pairwise fun x y => ltS y.1 x.1 = false := by
      rw [List.pairwise_map]
      rw [← e'] at h1
      have h1' : T'.Pairwise fun x y => ltS (kOf s.heap n N y.2) (kOf s.heap n N x.2) = false := List.pairwise_map.mp h1
      refine h1'.imp_of_mem fun {x y} mx my z => ?_
      rw [key x (mem x mx), key y (mem y my)] at z
      exact z
    obtain ⟨m, hm⟩ := hm
    refine ⟨.ref d, upd H d (.lst ((T'.map (·.1)).map (·.2))), I.laid (t' := s.toks) kp hd ⟨?_, out, m, hv, hm⟩, rfl, q _ d hq hsort (I.hok.fresh hd)⟩
    rw [hv.length, h2.length_eq, ← rv.length]
    exact hz
end
end DLS
namespace DL
open PySem PySem.Spec L2
section
variable {X : Cx} {P : D → Prop}
/-- the rows' texts, then the rest -/
theorem reps_split {K : PySem.W.Frag} {M : Addr → Prop} {H : Hp} : ∀ {ks : List Str} {rest : List D} {vs : List V}, Reps K M H (ks.map .str ++ rest) vs → ∃ r, vs = ks.map V.str ++ r ∧ r.length = rest.length
  | [], rest, vs, h => ⟨vs, rfl, h.length⟩
  | k :: ks, rest, _, ⟨v, r, rfl, h, t⟩ => by
    obtain ⟨r2, rfl, e⟩ := reps_split (ks := ks) t
    have h : v = .str k := h
    exact ⟨r2, by rw [h]; rfl, e⟩
theorem pairs_row {K : PySem.W.Frag} {M : Addr → Prop} {H : Hp} {α : Type} (key : α → List Str) (rest : α → List D) : ∀ {as : List α} {vs : List V}, Reps K M H (as.map fun a => .tup ((key a).map .str ++ rest a)) vs →
    ∃ T : List (α × V), T.map (·.1) = as ∧ T.map (·.2) = vs ∧ ∀ t ∈ T, Rep K M H (.tup ((key t.1).map .str ++ rest t.1)) t.2
  | [], vs, h => ⟨[], rfl, by rw [show vs = [] from h]; rfl, fun _ m => nomatch m⟩
  | a :: as, _, ⟨v, r, rfl, h, t⟩ => by
    obtain ⟨T, e1, e2, e3⟩ := pairs_row key rest (as := as) t
    refine ⟨(a, v) :: T, by rw [List.map_cons, e1], by rw [List.map_cons, e2], fun z m => ?_⟩
    rcases List.mem_cons.mp m with rfl | m
    · exact h
    · exact e3 z m
theorem reps_back {K : PySem.W.Frag} {M : Addr → Prop} {H : Hp} {α : Type} (enc : α → D) : ∀ {T : List (α × V)}, (∀ t ∈ T, Rep K M H (enc t.1) t.2) → Reps K M H ((T.map (·.1)).map enc) (T.map (·.2))
  | [], _ => rfl
  | t :: T, h => ⟨t.2, T.map (·.2), rfl, h t List.mem_cons_self, reps_back enc fun z m => h z (List.mem_cons_of_mem _ m)⟩
/-- sorted(rows): tuples that begin with texts, all of one length, no two with the same texts -/
theorem c_sortedR {α : Type} (key : α → List Str) (rest : α → List D) (n m : Nat) {as : List α} (hn : 1 ≤ n) (hk : ∀ a ∈ as, (key a).length = n ∧ (rest a).length = m) (hd : (as.map key).Nodup)
    (h : ∀ bs : List α, bs.Perm as → (bs.Pairwise fun x y => DLS.ltS (key y) (key x) = false) → P (.lst (bs.map fun a => .tup ((key a).map .str ++ rest a)))) : C1D X (.builtin "sorted") (.lst (as.map fun a => .tup ((key a).map .str ++ rest a))) P := ⟨fun M H v Q dm r q => by
  obtain ⟨a, vs, rfl, hs, rr⟩ := r
  obtain ⟨T, e1, e2, e3⟩ := pairs_row key rest rr
  subst e1 e2
  refine ⟨_, DLS.cr_sortedR, a, T.map fun t => (key t.1, t.2), n, n + m, rfl, ?_, hn, fun p hp => ?_, ?_, fun qs d hq hsrt np => ?_⟩
  · rw [List.map_map]; exact hs
  · obtain ⟨t, mt, rfl⟩ := List.mem_map.mp hp
    obtain ⟨c, us, e, hsq, ru⟩ := (e3 t mt).r
    obtain ⟨r2, rfl, l2⟩ := reps_split ru
    obtain ⟨k1, k2⟩ := hk t.1 (List.mem_map.mpr ⟨t, mt, rfl⟩)
    exact ⟨c, r2, e, hsq, k1, by rw [k1, l2, k2]⟩
  · rw [List.map_map]
    rw [List.map_map] at hd
    exact hd
  · obtain ⟨T', p', e'⟩ := perm_lift (fun t : α × V => (key t.1, t.2)) hq T rfl
    have hT : ∀ t ∈ T', Rep X.K M H (.tup ((key t.1).map .str ++ rest t.1)) t.2 := fun t mt => e3 t (p'.mem_iff.mp mt)
    subst e'
    have hs2 : (T'.map (·.1)).Pairwise fun x y => DLS.ltS (key y) (key x) = false := by
      rw [List.pairwise_map] at hsrt ⊢
      exact hsrt
    refine q _ _ _ (h (T'.map (·.1)) (p'.map _) hs2) (Gr.upd np) ⟨d, T'.map (·.2), ?_, ⟨notM dm np, ?_⟩, ?_⟩
    · rfl
    · rw [List.map_map]; exact upd_same
    · exact Reps.mv (Gr.upd np).kp.mv (reps_back _ hT)⟩
end
end DL
end

section
set_option maxRecDepth 100000
set_option maxHeartbeats 2000000
namespace DL
open PySem PySem.Spec L2 DLS
/-! ## the sorted list, as a function -/
def leK {α : Type} (key : α → List Str) (a b : α) : Bool := !ltS (key b) (key a)
def sortR {α : Type} (key : α → List Str) (as : List α) : List α := as.mergeSort (leK key)
theorem leK_iff {α : Type} {key : α → List Str} {a b : α} : leK key a b = true ↔ ltS (key b) (key a) = false := by unfold leK; cases ltS (key b) (key a) <;> simp
theorem leK_trans {α : Type} {key : α → List Str} (a b c : α) (h1 : leK key a b = true) (h2 : leK key b c = true) : leK key a c = true := leK_iff.mpr ((swoS key).tr _ _ _ (leK_iff.mp h1) (leK_iff.mp h2))
theorem leK_total {α : Type} {key : α → List Str} (a b : α) : (leK key a b || leK key b a) = true := by
  cases e : ltS (key b) (key a) with
  | false => rw [leK_iff.mpr e, Bool.true_or]
  | true => rw [leK_iff.mpr ((swoS key).asym _ _ e), Bool.or_true]
theorem sortR_perm {α : Type} (key : α → List Str) (as : List α) : (sortR key as).Perm as := List.mergeSort_perm _ _
theorem map_cpl_inj : ∀ {ks ls : List Str}, ks.map cpl = ls.map cpl → ks = ls
  | [], [], _ => rfl
  | [], _ :: _, h => nomatch h
  | _ :: _, [], h => nomatch h
  | k :: ks, l :: ls, h => by
    obtain ⟨h1, h2⟩ := List.cons.inj h
    rw [cpl_inj h1, map_cpl_inj h2]
theorem ltS_anti {ks ls : List Str} (h1 : ltS ks ls = false) (h2 : ltS ls ks = false) : ks = ls :=
  map_cpl_inj (List.le_antisymm (List.not_lt.mp (of_decide_eq_false h2)) (List.not_lt.mp (of_decide_eq_false h1)))
theorem sortR_uniq {α : Type} {key : α → List Str} {as bs : List α} (hd : (as.map key).Nodup) (hp : bs.Perm as) (hs : bs.Pairwise fun x y => ltS (key y) (key x) = false) : bs = sortR key as := by
  have inj : ∀ x ∈ as, ∀ y ∈ as, key x = key y → x = y := by
    clear hp hs
    induction as with
    | nil => intro x m; nomatch m
    | cons a as ih =>
      intro x mx y my e
      rw [List.map_cons, List.nodup_cons] at hd
      rcases List.mem_cons.mp mx with m1 | m1
      · rcases List.mem_cons.mp my with m2 | m2
        · rw [m1, m2]
        · exact absurd (List.mem_map.mpr ⟨y, m2, by rw [← e, m1]⟩) hd.1
      · rcases List.mem_cons.mp my with m2 | m2
        · exact absurd (List.mem_map.mpr ⟨x, m1, by rw [e, m2]⟩) hd.1
        · exact ih hd.2 x m1 y m2 e
  refine List.Perm.eq_of_pairwise (le := fun a b => leK key a b = true) (fun a b ha hb h1 h2 => ?_) (hs.imp fun z => leK_iff.mpr z) (List.pairwise_mergeSort leK_trans leK_total as) (hp.trans (sortR_perm key as).symm)
  exact inj a (hp.mem_iff.mp ha) b ((sortR_perm key as).mem_iff.mp hb) (ltS_anti (leK_iff.mp h2) (leK_iff.mp h1))
/-- texts -/
def sortS (ss : List Str) : List Str := sortR (fun s => [s]) ss
theorem ltS_one {a b : Str} : ltS [a] [b] = decide (cpl a < cpl b) := by
  unfold ltS
  refine decide_eq_decide.mpr ?_
  show cpl a :: [] < cpl b :: [] ↔ _
  rw [List.cons_lt_cons_iff]
  exact ⟨fun z => z.elim id fun z => absurd z.2 (List.lt_irrefl _), .inl⟩
section
variable {X : Cx} {P : D → Prop}
theorem c_sortedRf {α : Type} (key : α → List Str) (rest : α → List D) (n m : Nat) {as : List α} (hn : 1 ≤ n) (hk : ∀ a ∈ as, (key a).length = n ∧ (rest a).length = m) (hd : (as.map key).Nodup)
    (h : P (.lst ((sortR key as).map fun a => .tup ((key a).map .str ++ rest a)))) : C1D X (.builtin "sorted") (.lst (as.map fun a => .tup ((key a).map .str ++ rest a))) P :=
  c_sortedR key rest n m hn hk hd fun bs hp hs => by rw [sortR_uniq hd hp hs]; exact h
theorem rising_pair : ∀ {l : List Str} {p : Str}, PyProof.Rows.risingS p l = true → (p :: l).Pairwise fun a b => ltS [b] [a] = false
  | [], p, _ => List.pairwise_singleton _ _
  | x :: r, p, h => by
    obtain ⟨h1, h2⟩ := Bool.and_eq_true_iff.mp (show (!PySem.Spec.ltCps x.cps.toList p.cps.toList && PyProof.Rows.risingS x r) = true from h)
    have ih := rising_pair h2
    have px : ltS [x] [p] = false := by
      rw [ltS_one]
      rw [PyProof.Rows.ltCps_eq] at h1
      exact decide_eq_false fun z => by rw [decide_eq_true z] at h1; cases h1
    refine List.pairwise_cons.mpr ⟨fun y hy => ?_, ih⟩
    rcases List.mem_cons.mp hy with rfl | hy
    · exact px
    · exact (swoS (fun s : Str => [s])).tr p x y px ((List.pairwise_cons.mp ih).1 y hy)
theorem sorted_pair {l : List Str} (h : PyProof.Rows.sortedS l = true) : l.Pairwise fun a b => ltS [b] [a] = false := by
  cases l with
  | nil => exact List.Pairwise.nil
  | cons a l => exact rising_pair h
theorem sortS_uniq {ss ys : List Str} (hn : ss.Nodup) (hp : ys.Perm ss) (hs : PyProof.Rows.sortedS ys = true) : ys = sortS ss := by
  refine sortR_uniq ?_ hp (sorted_pair hs)
  refine List.pairwise_map.mpr ?_
  exact hn.imp fun h e => h (List.cons.inj e).1
theorem c_sortedSf {ss : List Str} (hl : ss.length < 64) (hn : ss.Nodup) (h : P (.lst ((sortS ss).map .str))) : C1D X (.builtin "sorted") (.lst (ss.map .str)) P :=
  c_sortedS hl fun ys hp hs => by rw [sortS_uniq hn hp hs]; exact h
/-- a tuple in a list of tuples, by what they hold -/
theorem d_inD {da : D} {ds : List D} (hu : X.A.units + 65 < cLine) (ha : Shp da) (hb : Shp (.lst ds)) (h : P (.bl ((pys ds).any fun z => z.eqv (py da)))) : OpD X (compareOp .In) da (.lst ds) P :=
  gen_op (op_inD hu) h fun M H va vb Q _ ra rb q => ⟨_, _, dp_of ra.r ha.lay, dp_of rb.r hb.lay, ha, hb, q _ H .refl rfl⟩
end
end DL
end

section
set_option maxRecDepth 100000
set_option maxHeartbeats 1000000
namespace DL
open PySem PySem.Spec PyProof.Rows L2
/-! ## an own object is made, by keywords too; its __init__ may let an exception out -/
section
variable {X : Cx} {CX : CXT} {k n : Nat} {f C : Addr} {fd : FuncData} {ps ks : List Str} {sp : Sp} {E : L2.St → XK} {x : Str} {p pos : Pos} {e : Expr} {es : List Expr} {kws : List Keyword} {t tk : TA} {g : List Value → List Value → List Value} {gV : List V → List V → List V}
theorem made_S {pins : List (Addr × Obj)} {σ : L2.St} {H : Hp} {s : Shared} {Q : VK} {us ws : List Value} {vs ys : List V} (M : Mk X.K C f) (F : FnOk X.prog X.w X.K X.mg X.base CX k f fd ps sp) (room : Room (k + 1) X.A) (bd : KBn X.K fd ps (n + 1) ks g gV)
    (out : PassesAt CX X σ (E σ)) (I : Inv X pins σ H s) (rv : Vals vs us) (rz : Vals ys ws) (nv : vs.length = n) (nz : ys.length = ks.length)
    (h : ∀ a dx, H a = none → H dx = none → dx ≠ a → sp (gV (.ref a :: vs) ys) (upd (upd H dx (.own a)) a (.ins C dx [])) (fun v G => v = .non ∧ Q (.ref a) G) (E σ)) : wpAny (model X.prog X.w) X.A (call (.ref C) us (ks.zip ws)) (EP X pins σ Q) X.xe s := by
  have want := h (s.heap.objs.size + 1) s.heap.objs.size (I.hok.fresh (Nat.le_succ _)) (I.hok.fresh (Nat.le_refl _)) (Nat.ne_of_lt (Nat.lt_succ_self _))
  have I' := Inv.made (C := C) I
  have all : Vals (V.ref (s.heap.objs.size + 1) :: vs) (Value.ref (s.heap.objs.size + 1) :: us) := .cons rfl rv
  have len : (Value.ref (s.heap.objs.size + 1) :: us).length = n + 1 := by rw [List.length_cons, ← rv.length, nv]
  have go := F.run _ X.stack _ _ ⟨Value.ref (s.heap.objs.size + 1) :: us, ks.zip ws⟩ (g (Value.ref (s.heap.objs.size + 1) :: us) ws) _ _ (E σ) (room.make C us (ks.zip ws)) (I'.env0.make C us (ks.zip ws)) (bd.to _ (Value.ref (s.heap.objs.size + 1) :: us) ws I'.kIn len (rz.length.symm.trans nz)) (bd.rel all rz) want
  refine wpAny_call (make_map (f := f) I.kIn M.makes M.init (beq_iff_eq.mp M.fn) (codeAny_mono go fun r s' fin => ?_))
  cases r with
  | error er => exact out pins _ _ er s' I' fin
  | ok fl =>
    cases fl with
    | ret u =>
      obtain ⟨v, G, J, ru, ev, q⟩ := I'.after fin
      subst ev
      exact ⟨ru, V.ref (s.heap.objs.size + 1), G, J, rfl, q⟩
    | next => exact fin.elim
    | brk => exact fin.elim
    | cont => exact fin.elim
theorem pe_mkS (M : Mk X.K C f) (F : FnOk X.prog X.w X.K X.mg X.base CX k f fd ps sp) (room : Room (k + 1) X.A) (hg : Gl X x) (hm : X.mg x = some (.ref C)) (bd : KBn X.K fd ps (n + 1) ks g gV) (out : ∀ σ, PassesAt CX X σ (E σ)) (ha : PA X (e :: es) t) (hkw : PK X kws tk)
    (plain : (backToKw pos (keywordEach kws X.env)).all (·.1.isSome) = true) (names : (backToKw pos (keywordEach kws X.env)).filterMap (·.1) = ks) (ndb : (x == ("__debug__" : Str)) = false)
    (he : starEach (e :: es) X.env = (false, eval e X.env) :: starEach es X.env) (unst : ((backTo pos (starEach (e :: es) X.env)).any (·.1) || (backToKw pos (keywordEach kws X.env)).any (·.1.isNone)) = false) :
    PE X (.Call (.Name x p) (e :: es) kws pos) (fun σ H Q => tMakeK C n ks.length sp gV (E σ) t tk σ H Q) := by
  subst names
  constructor
  intro pins s σ H Q I h
  refine wpAny_Call_Name_kw (ld_glob I hg hm ?_ ndb)
  refine PySem.W.callWith_KW (h₀ := X.base) I.ok.mod.kin M.kp plain (thn (ha.run pos pins s σ H _ I h) fun us s1 ⟨vs, H1, I1, r, q⟩ => ?_) unst he
  refine thn (hkw.run pos pins s1 σ H1 _ I1 q) fun ws s2 ⟨ys, H2, I2, rz, l1, l2, q2⟩ => ⟨I2.kIn, ?_⟩
  exact made_S M F room bd (out σ) I2 r rz l1 l2 q2
end
/-! by trees -/
def wk (X : Cx) (kws : List Keyword) : TA := fun σ H Q => ∃ t, PK X kws t ∧ t σ H Q
theorem pk_wk {X : Cx} {kws : List Keyword} : PK X kws (wk X kws) := ⟨fun po pins s σ H Q I ⟨_, h, q⟩ => h.run po pins s σ H Q I q⟩
structure EK (X : Cx) (W : WX) (Γ : List Sl) (kws : List Keyword) (Φ : List D → List Sl → Prop) (Ψ : Ex) : Prop where
  run : ∀ (E : Entry) (M : Addr → Prop) (σ : L2.St) (H : Hp) (Q : List V → Hp → Prop), AtM X.K E M Γ σ H → ExD X E W Ψ σ → (∀ ds Γ' vs H', Φ ds Γ' → AtM X.K E M Γ' σ H' → Kp M H H' → Reps X.K M H' ds vs → Q vs H') → wk X kws σ H Q
section
variable {X : Cx} {W : WX} {Γ : List Sl} {Ψ : Ex} {Φk : List D → List Sl → Prop}
theorem ek_nil (h : Φk [] Γ) : EK X W Γ [] Φk Ψ := ⟨fun E M σ H Q A x q => ⟨_, pk_nil, q [] Γ [] H h A .refl rfl⟩⟩
theorem ek_cons {nm : Option Str} {kpos : Pos} {e : Expr} {kws : List Keyword} (h : EV X W Γ e (fun d Γ1 => EK X W Γ1 kws (fun ds Γ2 => Φk (d :: ds) Γ2) Ψ) Ψ) : EK X W Γ ({ arg := nm, value := e, pos := kpos } :: kws) Φk Ψ := by
  refine ⟨fun E M σ H Q A x q => ⟨_, pk_cons pe_we pk_wk, ?_⟩⟩
  refine h.run E M σ H _ A x fun d Γ1 v H1 p1 A1 k1 r1 => ?_
  exact p1.run E M σ H1 _ A1 x fun ds Γ2 vs H2 p2 A2 k2 r2 => q (d :: ds) Γ2 (v :: vs) H2 p2 A2 (k1.trans k2) ⟨v, vs, rfl, r1.mv k2.mv, r2⟩
variable {k n : Nat} {f C : Addr} {fd : FuncData} {ps ks : List Str} {x : Str} {p pos : Pos} {e : Expr} {es : List Expr} {kws : List Keyword} {g : List Value → List Value → List Value} {gV : List V → List V → List V} {Φ : D → List Sl → Prop}
/-- C(e, .., k = v, ..): S is the promise of __init__, which owns the new object -/
theorem ef_make {S : Sc} (M : Mk X.K C f) (F : FnD X.prog X.w X.K X.mg X.base k f fd ps (spC X.K S)) (room : Room (k + 1) X.A) (hg : Gl X x) (hm : X.mg x = some (.ref C)) (bd : KBn X.K fd ps (n + 1) ks g gV) (hgV : ∀ a vs ys, gV (.ref a :: vs) ys = .ref a :: (vs ++ ys)) (tk : Takes X W)
    (h : EA X W Γ (e :: es) (fun ds Γ1 => EK X W Γ1 kws (fun dk Γ2 => ds.length = n ∧ dk.length = ks.length ∧ S (.ins C []) (ds ++ dk) (fun d c => d = .non ∧ Φ c Γ2) (fun C' fs _ => Ψ C' fs Γ2)) Ψ) Ψ)
    (plain : (backToKw pos (keywordEach kws X.env)).all (·.1.isSome) = true := by rfl) (names : (backToKw pos (keywordEach kws X.env)).filterMap (·.1) = ks := by rfl) (ndb : (x == ("__debug__" : Str)) = false := by decide)
    (he : starEach (e :: es) X.env = (false, eval e X.env) :: starEach es X.env := by rfl) (unst : ((backTo pos (starEach (e :: es) X.env)).any (·.1) || (backToKw pos (keywordEach kws X.env)).any (·.1.isNone)) = false := by rfl) :
    EF X W Γ (.Call (.Name x p) (e :: es) kws pos) Φ Ψ := by
  refine ⟨fun E MM σ H Q A xx q => ⟨_, pe_mkS M F room hg hm bd (fun σ => passAt tk σ) pa_wa pk_wk plain names ndb he unst, ?_⟩⟩
  refine h.run E MM σ H _ A xx fun ds Γ1 vs H1 p1 A1 k1 r1 => ?_
  refine p1.run E MM σ H1 _ A1 xx fun dk Γ2 ys H2 p2 A2 k2 r2 => ?_
  obtain ⟨l1, l2, hS⟩ := p2
  refine ⟨by rw [r1.length]; exact l1, by rw [r2.length]; exact l2, fun a dx na nd ne => ?_⟩
  rw [hgV]
  have g1 : Gr H2 (upd (upd H2 dx (.own a)) a (.ins C dx [])) := fun b o e => by rw [upd_ne (ne_of_none e na), upd_ne (ne_of_none e nd)]; exact e
  have A3 : AtM X.K E (Mp MM a) Γ2 σ (upd (upd H2 dx (.own a)) a (.ins C dx [])) := A2.alloc na g1 (Ob.upd fun _ z => nomatch z)
  refine ⟨Mp MM a, a, vs ++ ys, .ins C [], ds ++ dk, _, _, rfl, A3.dom, .inr rfl, ⟨dx, [], upd_same, rfl⟩, Reps.mv (mv_new na g1) ((r1.mv k2.mv).append r2), hS, fun d c' v H' hp gx oo rr => ?_, fun C' dd fs c' us H' hp gx oo e1 rf nz => ?_⟩
  · obtain ⟨rfl, hp⟩ := hp
    refine ⟨rr, ?_⟩
    have gk : Gr H2 H' := fun b o e => gx b o (ne_of_none e na) (g1 b o e)
    exact q c' Γ2 a H' hp (A2.fresh na) (A2.alloc na gk oo.there) (k1.trans (k2.trans gk.kp)) oo (own_ne A2 na)
  · have gk : Gr H2 H' := fun b o e => gx b o (ne_of_none e na) (g1 b o e)
    have nz2 : H2 dd = none := by
      cases z : H2 dd with
      | none => rfl
      | some o => rw [g1 dd o z] at nz; cases nz
    have hda : dd ≠ a := fun z => by rw [z, upd_same] at nz; cases nz
    exact xx C' dd fs us Γ2 MM H' hp (A2.grow gk) e1 (RepF.mv mv_drop rf) (A2.fresh nz2) (A2.fresh0 nz2)
end
end DL
end

section
set_option maxRecDepth 100000
set_option maxHeartbeats 1000000
namespace DL
open PySem PySem.Spec L2
/-! ## one's own instance: its fields stored and read -/
def putFD (f : Str) (d : D) : List (Str × D) → List (Str × D)
  | [] => [(f, d)]
  | (g, e) :: r => if g = f then (f, d) :: r else (g, e) :: putFD f d r
section
variable {K : PySem.W.Frag} {M : Addr → Prop} {H : Hp}
theorem RepF.length : ∀ {l : List (Str × D)} {vs : List (Str × V)}, RepF K M H l vs → vs.length = l.length
  | [], _, h => by rw [show _ = ([] : List (Str × V)) from h]; rfl
  | (k, d) :: ds, _, ⟨v, r, e, _, t⟩ => by rw [e, List.length_cons, List.length_cons, RepF.length t]
theorem RepF.put {f : Str} {d : D} {v : V} (hd : Rep K M H d v) : ∀ {l : List (Str × D)} {vs : List (Str × V)}, RepF K M H l vs → RepF K M H (putFD f d l) (putF f v vs)
  | [], _, h => by rw [show _ = ([] : List (Str × V)) from h]; exact ⟨v, [], rfl, hd, rfl⟩
  | (g, e) :: ds, _, ⟨u, r, q, h, t⟩ => by
    subst q
    unfold putFD putF
    by_cases c : g = f
    · subst c
      simp only [if_true]
      exact ⟨v, r, rfl, hd, t⟩
    · simp only [c, if_false]
      exact ⟨u, _, rfl, h, RepF.put hd t⟩
end
section
variable {X : Cx} {W : WX} {fr : Bool} {S : List Addr} {Γ : List Sl} {P : Post} {pos : Pos} {Φ : D → List Sl → Prop} {Ψ : Ex}
/-- self.f = e -/
theorem s_setf {i : Nat} {x f : Str} {p0 p1 : Pos} {p C : Addr} {d0 : D} {e : Expr} (cl : Cls X.K C) (na : NoAttr X.K C f) (hΓ : Γ[i]? = some (.own p d0)) (hN : X.N[i]? = some x) (hv : Vis X.env.scope x)
    (h : EV X W Γ e (fun d Γ1 => ∃ fs, Γ1[i]? = some (.own p (.ins C fs)) ∧ fs.length < 1000 ∧ P.nx (Γ1.set i (.own p (.ins C (putFD f d fs))))) P.ex)
    (hd : (x == ("__debug__" : Str)) = false := by decide) (cdi : (x == ("__classdict__" : Str)) = false := by decide)
    (hs : swapsWith e (some (.Attribute (.Name x p0) f p1)) pos.line X.env = pure false := by rfl) : S1 X W fr S Γ (.Assign [.Attribute (.Name x p0) f p1] e pos) P := by
  refine ⟨fun E M σ H D' hS A d => ⟨_, ps_fld (pe_var hN hv hd cdi) pe_we hs, ?_⟩⟩
  refine h.run E M σ H _ A (d.ex σ) fun dd Γ1 v H1 p1 A1 k1 r1 => ?_
  obtain ⟨fs, g, hl, p2⟩ := p1
  obtain ⟨_, mp, dx, vs, ho, rr⟩ := A1.get i _ g
  refine ⟨.ref p, (A.get i _ hΓ).1, p, C, dx, vs, rfl, ho, cl, na, by rw [rr.length]; exact hl, ?_⟩
  refine d.nx M _ σ _ p2 (A1.change g (fun b o n e => by rw [upd_ne n]; exact e) ⟨dx, _, upd_same, ?_⟩)
  have mv : Mv M M H1 (upd H1 p (.ins C dx (putF f v vs))) := ⟨fun _ _ n _ => n, fun b o n e => by
    have nb : b ≠ p := fun z => n (by rw [z]; exact mp)
    rw [upd_ne nb]; exact e⟩
  exact RepF.mv mv (rr.put r1)
/-- self.f, self one's own -/
theorem ev_fldo {i : Nat} {x f : Str} {p0 : Pos} {p C : Addr} {fs : List (Str × D)} {dv : D} (cl : Cls X.K C) (na : NoAttr X.K C f) (hΓ : Γ[i]? = some (.own p (.ins C fs))) (hN : X.N[i]? = some x) (hv : Vis X.env.scope x) (hl : fs.lookup f = some dv) (h : Φ dv Γ)
    (hd : (x == ("__debug__" : Str)) = false := by decide) (cdi : (x == ("__classdict__" : Str)) = false := by decide)
    (hb : attributeBase (.Name x p0) f X.env (eval (.Name x p0) X.env) = eval (.Name x p0) X.env := by rfl) : EV X W Γ (.Attribute (.Name x p0) f pos) Φ Ψ := by
  refine ⟨fun E M σ H Q A xx q => ⟨_, pe_fld (pe_var hN hv hd cdi) hb, ?_⟩⟩
  obtain ⟨e, mp, dx, vs, ho, rr⟩ := A.get i _ hΓ
  obtain ⟨u, hu, ru⟩ := rr.lookup hl
  exact ⟨.ref p, e, p, C, dx, vs, u, rfl, ho, cl, na, hu, q dv Γ u H h A .refl ru⟩
/-- C.NAME, a number of the class -/
theorem ev_cval {x f : Str} {p0 : Pos} {C : Addr} {mc : Value} {i : Int} {u : Value} (hg : Gl X x) (hm : X.mg x = some (.ref C)) (r : ClX.CRead X.K C mc) (k : ClX.CVal X.K C mc f (.int i) u) (h : Φ (.int i) Γ) (hd : (x == ("__debug__" : Str)) = false := by decide)
    (hb : attributeBase (.Name x p0) f X.env (eval (.Name x p0) X.env) = eval (.Name x p0) X.env := by rfl) : EV X W Γ (.Attribute (.Name x p0) f pos) Φ Ψ :=
  ⟨fun E M σ H Q A xx q => ⟨_, ClX.pe_cval (pe_glob (v := .ref C) hg hm rfl hd) hb, C, mc, .int i, u, rfl, r, k, q _ Γ _ H h A .refl rfl⟩⟩
end
end DL
end

section
set_option maxRecDepth 100000
set_option maxHeartbeats 1000000
namespace DL
open PySem PySem.Spec L2 DLC
section
variable {X : Cx} {W : WX} {Γ : List Sl} {Φ : D → List Sl → Prop} {Ψ : Ex} {pos : Pos} {scope : Scope} {own : List (Str × Nat)}
/-- the emission of a dict's entry, keys numbers or texts -/
def emK (X : Cx) (scope : Scope) (kx vx : Expr) : Em (List (Key × D)) := fun Γ acc F => ∀ Y, IsBlk X scope Y → EV Y WF Γ kx (fun dk Γ1 => EV Y WF Γ1 vx (fun dv Γ2 => ∃ k, dk = keyD k ∧ acc.length < 10000000 ∧ F Γ2 (putD acc k dv)) exF) exF
def emKh (X : Cx) (scope : Scope) (kx vx : Expr) (D₀ : Addr) : TEm := fun σ H G => ∀ Y, IsBlk X scope Y → we Y kx σ H fun y H1 => we Y vx σ H1 fun z H2 => ∃ (kvs : List (Key × V)) (k : Key), H2 D₀ = some (.dK kvs) ∧ y = kV k ∧ kvs.length < sizeLine ∧ G (upd H2 D₀ (.dK (putK kvs k z)))
theorem emOk_dict {kx vx : Expr} {D₀ : Addr} : EmOk X D.dk D₀ (emK X scope kx vx) (emKh X scope kx vx D₀) := by
  intro Γ acc F E M σ H F' h g k Y hY
  refine (h Y hY).run (subE M Γ H) M σ H _ (by rw [blkK hY]; exact g.at_.down) exd_false fun dk Γ1 y H1 p1 B1 k1 r1 => ?_
  have B1' := B1
  rw [blkK hY] at B1 r1
  have g1 := g.step B1
  refine p1.run (subE M Γ1 H1) M σ H1 _ (by rw [blkK hY]; exact g1.at_.down) exd_false fun dv Γ2 z H2 p2 B2 k2 r2 => ?_
  rw [blkK hY] at B2 r2
  have g2 := g1.step B2
  obtain ⟨kk, rfl, hl, p3⟩ := p2
  obtain ⟨vs, e, rr⟩ := g2.obj
  refine ⟨vs, kk, e, rep_key r1, by rw [rr.length, sizeLine_eq]; omega, k Γ2 _ _ p3 (g2.poke ⟨_, upd_same, RepK.mv g2.mvPoke (rr.put r2)⟩)⟩
def trDc (X : Cx) (scope : Scope) (own : List (Str × Nat)) (kx vx tg iter : Expr) (ifs : List Expr) (cs : List Ct) : TE := fun σ' H' Q' =>
  wi X tg iter σ' H' fun J H1 => ∀ D, H1 D = none → tLoop (tCl (emKh X scope kx vx D) (cs.map (toCl X scope))) (toCl X scope ⟨tg, iter, ifs, own.map (·.2)⟩) J σ' (upd H1 D (.dK [])) (fun H2 => Q' (.ref D) H2)
theorem dc_run {kx vx tg iter : Expr} {ifs : List Expr} {gs : List Comprehension} {cs : List Ct} (c : CtxOk X W) (ok : LcOk X scope own tg iter ifs gs cs) {pins : List (Addr × Obj)} {s : Shared} {σ : L2.St} {H : Hp} {Q : VK} {pos' : Pos} {use : Option (Value → Sem Unit)} {Qf : Value → Shared → Prop}
    (I : Inv X pins σ H s) (hq : trDc X scope own kx vx tg iter ifs cs σ H Q)
    (hRR : ∀ O C t m G, Inv X pins σ G t → Q (.ref O) G → t.heap.Ns C m → FpOk X pins G C → compPost (model X.prog X.w) X.A X.xe use Qf (.ref O) C (.ok .next) t) :
    wpAny (model X.prog X.w) X.A (comprehension (.DictComp kx vx (⟨tg, iter, ifs, 0⟩ :: gs) scope pos) scope X.env pos' (newDict) false (eval iter X.env) use) Qf X.xe s := by
  refine comp_core (mk := .DictComp kx vx (⟨tg, iter, ifs, 0⟩ :: gs) scope pos) (c := toCl X scope ⟨tg, iter, ifs, own.map (·.2)⟩) (cs := cs.map (toCl X scope)) (em := fun D => emKh X scope kx vx D) (T := "dict") (dat := .dict #[]) (u0 := fun _ => .dK []) c.calm c.nd I rfl (fun _ _ _ _ z => nomatch z) ok.blk pi_wi ok.hs rfl rfl rfl rfl ok.ch.1 ?_ ?_ ?_ hq hRR
  · intro Y D hY
    refine ⟨clOk hY (ok.hfs Y hY _ List.mem_cons_self), after_dict (blkXe hY) (blkCalm c.calm hY) (fun pins' s σ2 H G N R I h hN => ?_) _ 0 ok.ch.2 (fun c' hc' => ?_) (fun j c' hc' => ?_) ?_⟩
    · refine thnY (blkXe hY) (pe_we.run pins' s σ2 H _ I (h Y hY)) fun u1 s1 h1 => ?_
      obtain ⟨y, H1, I1, r1, q1⟩ := h1
      refine thnY (blkXe hY) (pe_we.run pins' s1 σ2 H1 _ I1 q1) fun u2 s2 h2 => ?_
      obtain ⟨z, H2, I2, r2, kvs, k, e, rfl, hl, q⟩ := h2
      exact d_dictSet I2 e hl r1 r2 fun s' I' => hN s' _ I' q
    · obtain ⟨c0, m0, rfl⟩ := List.mem_map.mp hc'
      exact clOk hY (ok.hfs Y hY _ (List.mem_cons_of_mem _ m0))
    · rw [List.getElem?_map] at hc'
      cases e : cs[j]? with
      | none => rw [e] at hc'; cases hc'
      | some c0 =>
        rw [e] at hc'
        cases hc'
        rw [ok.gs_, show 0 + 1 + j = j + 1 by omega, List.getElem?_cons_succ, List.getElem?_map, e]
        rfl
    · rw [ok.gs_, List.length_cons, List.length_map, List.length_map]; omega
  · intro s2 H2 I2
    exact I2.laid (t' := s2.toks) (fun b o e => Heap.get?_push_of_some _ e) (Nat.le_refl _) (dk_empty s2.heap I2.big)
  · intro M A E s2 R hR
    exact wpAny_newObj_type hR
theorem pe_trDc {kx vx tg iter : Expr} {ifs : List Expr} {gs : List Comprehension} {cs : List Ct} (c : CtxOk X W) (ok : LcOk X scope own tg iter ifs gs cs) : PE X (.DictComp kx vx (⟨tg, iter, ifs, 0⟩ :: gs) scope pos) (trDc X scope own kx vx tg iter ifs cs) := by
  refine ⟨fun pins s σ H Q I hq => ?_⟩
  rw [arm_eval_DictComp]
  refine dc_run c ok I hq fun D C s' m H' I' hq' hn f => ⟨m, hn, fun h'' sb => ?_⟩
  obtain ⟨f0, f1, f2, f3, f4, f5⟩ := f
  exact ⟨.ref D, H', I'.turned (t' := s'.toks) (fun b o hb e => (sb.2 b hb).trans e) f0 f1 f3 f4 f5, rfl, hq'⟩
/-- {k: v for ..}, a new dict -/
theorem ef_dc {kx vx tg iter : Expr} {ifs : List Expr} {gs : List Comprehension} (c : CtxOk X W) (own : List (Str × Nat)) (cs : List Ct) (ok : LcOk X scope own tg iter ifs gs cs)
    (h : EI X W Γ tg iter (fun ds Γ1 => CD.CLp X scope (CD X scope (emK X scope kx vx) cs) ⟨tg, iter, ifs, own.map (·.2)⟩ ds Γ1 [] (fun Γ2 acc => Φ (.dk acc) (wipeG Γ2 (own.map (·.2))))) Ψ) :
    EF X W Γ (.DictComp kx vx (⟨tg, iter, ifs, 0⟩ :: gs) scope pos) Φ Ψ := by
  refine ⟨fun E M σ H Q A xx q => ⟨_, pe_trDc c ok, ?_⟩⟩
  refine h.run (subE M Γ H) M σ H _ A.down (fun C d fs vs G M' H' hp B e4 r4 n4 z4 => xx C d fs vs G M' H' hp (A.up B) e4 r4 n4 (A.fresh0 z4)) fun ds Γ1 J H1 p1 A1 k1 it D hD => ?_
  have g : Gr H1 (upd H1 D (.dK [])) := Gr.upd hD
  have gw : Gw X DL.D.dk D (subE M Γ H) (Mp M D) Γ1 σ (upd H1 D (.dK [])) [] := ⟨A1.alloc hD g (Ob.upd fun _ z => nomatch z), .inr rfl, .inr (A1.fresh0 hD), ⟨[], upd_same, rfl⟩, own_ne A1 hD⟩
  refine loop_run (V1 := heads (cs.map (toCl X scope))) ok.ch.1 (fun Γ acc F E M σ H F' h g k => cd_run emOk_dict cs ok.ch.2 Γ acc F E M σ H F' h g k) p1 gw (it.grow hD) fun Γ' acc' σ' H' p gq ag l => ?_
  have gq2 := gq.forget (σ' := σ) (V := own.map (·.2)) l.symm (fun j hj => (ag j hj).symm)
  exact q _ _ D H' p (A1.fresh hD) (A.up gq2.at_) (A.kpDown gq2.at_) gq2.obj gq2.no
end
end DL
end

section
set_option maxRecDepth 100000
set_option maxHeartbeats 1000000
namespace DL
open PySem PySem.Spec PyProof.Rows L2
/-- d[k] = v within a comprehension, k a tuple of numbers and texts that stands in H -/
theorem d_dictSetT {X : Cx} {pins : List (Addr × Obj)} {σ : L2.St} {H : Hp} {s : Shared} {E : Value → Shared → Prop} {D b : Addr} {kvs : List (List Key × V)} {k : List Key} {v : V} {r : Value} {Q : Unit → Shared → Prop} (hu : X.A.units + 64 < cLine) (I : Inv X pins σ H s) (hD : H D = some (.dT kvs)) (hz : kvs.length < sizeLine)
    (eb : H b = some (.tup (k.map kV))) (rv : RelV v r) (h : ∀ s', Inv X pins σ (upd H D (.dT (putK kvs k v))) s' → Q () s') : wpAny (model X.prog X.w) X.A (dictSet D (.ref b) r) Q E s := by
  obtain ⟨z, hd, xs, rel, dd⟩ := dt_of I.hok hD
  have lx : xs.length ≤ sizeLine := by rw [← Paired.length rel]; exact z
  have ll : (putK kvs k v).length ≤ sizeLine := by have := length_putK kvs k v; omega
  refine wpAny_dictSet_heap (hsz := lx) (show X.A.units < cLine by omega) (key_of I.hok eb) dd fun h' dd' same => h _ ?_
  obtain ⟨q, es, ep, hq, h2, h3, h4, -, h5⟩ := dd'
  refine d_write I (by rw [hD]; trivial) same ⟨q, hq⟩ ⟨ll, hd, _, (rel.put k eb rv).keeps fun c ys ec => ?_, q, es, ep, hq, h2, h3, h4, h5⟩
  have nc : c ≠ D := ne_of ec hD (fun z => nomatch z)
  rw [upd_ne nc]; exact ec
/-! ### keys that are tuples -/
theorem keys_reps {K : PySem.W.Frag} {M : Addr → Prop} {H : Hp} : ∀ {ks : List Key}, Reps K M H (ks.map keyD) (ks.map kV)
  | [] => rfl
  | k :: ks => ⟨kV k, ks.map kV, rfl, by cases k <;> rfl, keys_reps⟩
theorem keys_of {K : PySem.W.Frag} {M : Addr → Prop} {H : Hp} : ∀ {ks : List Key} {vs : List V}, Reps K M H (ks.map keyD) vs → vs = ks.map kV
  | [], _, h => h
  | k :: ks, _, ⟨v, r, e, h, t⟩ => by rw [e, rep_key h, keys_of t]; rfl
theorem ktup_tup {K : PySem.W.Frag} {M : Addr → Prop} {H : Hp} {ks : List Key} {v : V} (h : Rep K M H (.ktup ks) v) : Rep K M H (.tup (ks.map keyD)) v := by
  obtain ⟨a, rfl, n, e⟩ := h
  exact ⟨a, ks.map kV, rfl, .inl ⟨n, e⟩, keys_reps⟩
theorem getT_some {K : PySem.W.Frag} {M : Addr → Prop} {H : Hp} {k : List Key} {d : D} : ∀ {l : List (List Key × D)} {vs : List (List Key × V)}, RepT K M H l vs → getD' l k = some d → ∃ v, valV vs k = some v ∧ Rep K M H d v
  | [], _, _, e => nomatch e
  | (k0, d0) :: ds, _, ⟨v, r, e, h, t⟩, q => by
    subst e
    unfold getD' valV at *
    rw [List.find?_cons] at q ⊢
    by_cases c : k0 = k
    · simp only [c, decide_true] at q ⊢
      cases q
      exact ⟨v, rfl, h⟩
    · simp only [c, decide_false] at q ⊢
      exact getT_some t q
theorem RepT.length : ∀ {K : PySem.W.Frag} {M : Addr → Prop} {H : Hp} {l : List (List Key × D)} {vs : List (List Key × V)}, RepT K M H l vs → vs.length = l.length
  | _, _, _, [], _, h => by rw [show _ = ([] : List (List Key × V)) from h]; rfl
  | _, _, _, (k, d) :: ds, _, ⟨v, r, e, _, t⟩ => by rw [e, List.length_cons, List.length_cons, RepT.length t]
theorem RepT.any {K : PySem.W.Frag} {M : Addr → Prop} {H : Hp} {k : List Key} : ∀ {l : List (List Key × D)} {vs : List (List Key × V)}, RepT K M H l vs → (vs.any fun kv => decide (kv.1 = k)) = l.any fun kv => decide (kv.1 = k)
  | [], _, h => by rw [show _ = ([] : List (List Key × V)) from h]; rfl
  | (k0, d0) :: ds, _, ⟨v, r, e, h, t⟩ => by
    subst e
    rw [List.any_cons, List.any_cons, RepT.any t]
theorem RepT.upd {K : PySem.W.Frag} {M : Addr → Prop} {H : Hp} {k : List Key} {d : D} {v : V} (hd : Rep K M H d v) : ∀ {l : List (List Key × D)} {vs : List (List Key × V)}, RepT K M H l vs → RepT K M H (l.map fun kv => if kv.1 = k then (kv.1, d) else kv) (vs.map fun kv => if kv.1 = k then (kv.1, v) else kv)
  | [], _, h => by rw [show _ = ([] : List (List Key × V)) from h]; exact rfl
  | (k0, d0) :: ds, _, ⟨v0, r, e, h, t⟩ => by
    subst e
    rw [List.map_cons, List.map_cons]
    by_cases c : k0 = k
    · simp only [c, if_true]
      exact ⟨v, _, rfl, hd, RepT.upd hd t⟩
    · simp only [c, if_false]
      exact ⟨v0, _, rfl, h, RepT.upd hd t⟩
theorem RepT.snoc {K : PySem.W.Frag} {M : Addr → Prop} {H : Hp} {k : List Key} {d : D} {v : V} (hd : Rep K M H d v) : ∀ {l : List (List Key × D)} {vs : List (List Key × V)}, RepT K M H l vs → RepT K M H (l ++ [(k, d)]) (vs ++ [(k, v)])
  | [], _, h => by rw [show _ = ([] : List (List Key × V)) from h]; exact ⟨v, [], rfl, hd, rfl⟩
  | (k0, d0) :: ds, _, ⟨v0, r, e, h, t⟩ => by
    subst e
    exact ⟨v0, _, rfl, h, RepT.snoc hd t⟩
theorem RepT.put {K : PySem.W.Frag} {M : Addr → Prop} {H : Hp} {k : List Key} {d : D} {v : V} {l : List (List Key × D)} {vs : List (List Key × V)} (h : RepT K M H l vs) (hd : Rep K M H d v) : RepT K M H (putD l k d) (putK vs k v) := by
  unfold putD putK
  rw [h.any]
  split
  · exact RepT.upd hd h
  · exact RepT.snoc hd h
section
open DLC
variable {X : Cx} {W : WX} {Γ : List Sl} {Φ : D → List Sl → Prop} {Ψ : Ex} {pos : Pos} {scope : Scope} {own : List (Str × Nat)}
/-- a tuple display of numbers and texts, as a key -/
theorem ev_ktup {es : List Expr} {x1} (h : EA X W Γ es (fun ds Γ1 => ∃ ks : List Key, ds = ks.map keyD ∧ ks.length ≤ 1000 ∧ Φ (.ktup ks) Γ1) Ψ) : EV X W Γ (.Tuple es x1 pos) Φ Ψ := by
  refine ⟨fun E M σ H Q A x q => ⟨_, pe_tup pa_wa, ?_⟩⟩
  refine h.run E M σ H _ A x fun ds Γ1 vs H1 p1 A1 k1 r1 => ?_
  obtain ⟨ks, rfl, hl, hp⟩ := p1
  have ev := keys_of r1
  subst ev
  refine ⟨by rw [List.length_map]; exact Nat.le_of_lt (small1000 hl), fun p np => ?_⟩
  have g : Gr H1 (upd H1 p (.tup (ks.map kV))) := Gr.upd np
  exact q _ Γ1 _ _ hp (A1.grow g) (k1.trans g.kp) ⟨p, rfl, A1.fresh np, upd_same⟩
theorem ev_unk {e : Expr} (h : EV X W Γ e (fun d Γ1 => ∃ ks, d = .ktup ks ∧ Φ (.tup (ks.map keyD)) Γ1) Ψ) : EV X W Γ e Φ Ψ := by
  refine ⟨fun E M σ H Q A x q => h.run E M σ H Q A x fun d Γ1 v H1 p1 A1 k1 r1 => ?_⟩
  obtain ⟨ks, rfl, hp⟩ := p1
  exact q _ Γ1 v H1 hp A1 k1 (ktup_tup r1)
/-- the emission of an entry with a tuple as its key -/
def emT (X : Cx) (scope : Scope) (kx vx : Expr) : Em (List (List Key × D)) := fun Γ acc F => ∀ Y, IsBlk X scope Y → EV Y WF Γ kx (fun dk Γ1 => EV Y WF Γ1 vx (fun dv Γ2 => ∃ k, dk = .ktup k ∧ acc.length < 10000000 ∧ F Γ2 (putD acc k dv)) exF) exF
def emTh (X : Cx) (scope : Scope) (kx vx : Expr) (D₀ : Addr) : TEm := fun σ H G => ∀ Y, IsBlk X scope Y → we Y kx σ H fun y H1 => we Y vx σ H1 fun z H2 => ∃ (kvs : List (List Key × V)) (k : List Key) (b : Addr), H2 D₀ = some (.dT kvs) ∧ y = .ref b ∧ H2 b = some (.tup (k.map kV)) ∧ kvs.length < sizeLine ∧ G (upd H2 D₀ (.dT (putK kvs k z)))
theorem emOk_dictT {kx vx : Expr} {D₀ : Addr} : EmOk X D.dt D₀ (emT X scope kx vx) (emTh X scope kx vx D₀) := by
  intro Γ acc F E M σ H F' h g k Y hY
  refine (h Y hY).run (subE M Γ H) M σ H _ (by rw [blkK hY]; exact g.at_.down) exd_false fun dk Γ1 y H1 p1 B1 k1 r1 => ?_
  rw [blkK hY] at B1 r1
  have g1 := g.step B1
  refine p1.run (subE M Γ1 H1) M σ H1 _ (by rw [blkK hY]; exact g1.at_.down) exd_false fun dv Γ2 z H2 p2 B2 k2 r2 => ?_
  rw [blkK hY] at B2 r2
  have g2 := g1.step B2
  obtain ⟨kk, rfl, hl, p3⟩ := p2
  obtain ⟨b, rfl, nb, eb⟩ := r1
  obtain ⟨vs, e, rr⟩ := g2.obj
  refine ⟨vs, kk, b, e, rfl, k2 _ _ nb eb, by rw [rr.length, sizeLine_eq]; omega, k Γ2 _ _ p3 (g2.poke ⟨_, upd_same, RepT.mv g2.mvPoke (rr.put r2)⟩)⟩
def trDt (X : Cx) (scope : Scope) (own : List (Str × Nat)) (kx vx tg iter : Expr) (ifs : List Expr) (cs : List Ct) : TE := fun σ' H' Q' =>
  wi X tg iter σ' H' fun J H1 => ∀ D, H1 D = none → tLoop (tCl (emTh X scope kx vx D) (cs.map (toCl X scope))) (toCl X scope ⟨tg, iter, ifs, own.map (·.2)⟩) J σ' (upd H1 D (.dT [])) (fun H2 => Q' (.ref D) H2)
theorem dt_run {kx vx tg iter : Expr} {ifs : List Expr} {gs : List Comprehension} {cs : List Ct} (hu : X.A.units + 64 < cLine) (c : CtxOk X W) (ok : LcOk X scope own tg iter ifs gs cs) {pins : List (Addr × Obj)} {s : Shared} {σ : L2.St} {H : Hp} {Q : VK} {pos' : Pos} {use : Option (Value → Sem Unit)} {Qf : Value → Shared → Prop}
    (I : Inv X pins σ H s) (hq : trDt X scope own kx vx tg iter ifs cs σ H Q)
    (hRR : ∀ O C t m G, Inv X pins σ G t → Q (.ref O) G → t.heap.Ns C m → FpOk X pins G C → compPost (model X.prog X.w) X.A X.xe use Qf (.ref O) C (.ok .next) t) :
    wpAny (model X.prog X.w) X.A (comprehension (.DictComp kx vx (⟨tg, iter, ifs, 0⟩ :: gs) scope pos) scope X.env pos' (newDict) false (eval iter X.env) use) Qf X.xe s := by
  refine comp_core (mk := .DictComp kx vx (⟨tg, iter, ifs, 0⟩ :: gs) scope pos) (c := toCl X scope ⟨tg, iter, ifs, own.map (·.2)⟩) (cs := cs.map (toCl X scope)) (em := fun D => emTh X scope kx vx D) (T := "dict") (dat := .dict #[]) (u0 := fun _ => .dT []) c.calm c.nd I rfl (fun _ _ _ _ z => nomatch z) ok.blk pi_wi ok.hs rfl rfl rfl rfl ok.ch.1 ?_ ?_ ?_ hq hRR
  · intro Y D hY
    have huY : Y.A.units + 64 < cLine := by
      obtain ⟨_, _, _, _, _, rfl⟩ := hY
      exact hu
    refine ⟨clOk hY (ok.hfs Y hY _ List.mem_cons_self), after_dict (blkXe hY) (blkCalm c.calm hY) (fun pins' s σ2 H G N R I h hN => ?_) _ 0 ok.ch.2 (fun c' hc' => ?_) (fun j c' hc' => ?_) ?_⟩
    · refine thnY (blkXe hY) (pe_we.run pins' s σ2 H _ I (h Y hY)) fun u1 s1 h1 => ?_
      obtain ⟨y, H1, I1, r1, q1⟩ := h1
      refine thnY (blkXe hY) (pe_we.run pins' s1 σ2 H1 _ I1 q1) fun u2 s2 h2 => ?_
      obtain ⟨z, H2, I2, r2, kvs, k, b, e, rfl, eb, hl, q⟩ := h2
      obtain rfl : u1 = Value.ref b := r1
      exact d_dictSetT huY I2 e hl eb r2 fun s' I' => hN s' _ I' q
    · obtain ⟨c0, m0, rfl⟩ := List.mem_map.mp hc'
      exact clOk hY (ok.hfs Y hY _ (List.mem_cons_of_mem _ m0))
    · rw [List.getElem?_map] at hc'
      cases e : cs[j]? with
      | none => rw [e] at hc'; cases hc'
      | some c0 =>
        rw [e] at hc'
        cases hc'
        rw [ok.gs_, show 0 + 1 + j = j + 1 by omega, List.getElem?_cons_succ, List.getElem?_map, e]
        rfl
    · rw [ok.gs_, List.length_cons, List.length_map, List.length_map]; omega
  · intro s2 H2 I2
    exact I2.laid (t' := s2.toks) (fun b o e => Heap.get?_push_of_some _ e) (Nat.le_refl _) (dt_empty s2.heap I2.big)
  · intro M A E s2 R hR
    exact wpAny_newObj_type hR
theorem pe_trDt {kx vx tg iter : Expr} {ifs : List Expr} {gs : List Comprehension} {cs : List Ct} (hu : X.A.units + 64 < cLine) (c : CtxOk X W) (ok : LcOk X scope own tg iter ifs gs cs) : PE X (.DictComp kx vx (⟨tg, iter, ifs, 0⟩ :: gs) scope pos) (trDt X scope own kx vx tg iter ifs cs) := by
  refine ⟨fun pins s σ H Q I hq => ?_⟩
  rw [arm_eval_DictComp]
  refine dt_run hu c ok I hq fun D C s' m H' I' hq' hn f => ⟨m, hn, fun h'' sb => ?_⟩
  obtain ⟨f0, f1, f2, f3, f4, f5⟩ := f
  exact ⟨.ref D, H', I'.turned (t' := s'.toks) (fun b o hb e => (sb.2 b hb).trans e) f0 f1 f3 f4 f5, rfl, hq'⟩
theorem ef_dt {kx vx tg iter : Expr} {ifs : List Expr} {gs : List Comprehension} (hu : X.A.units + 64 < cLine) (c : CtxOk X W) (own : List (Str × Nat)) (cs : List Ct) (ok : LcOk X scope own tg iter ifs gs cs)
    (h : EI X W Γ tg iter (fun ds Γ1 => CD.CLp X scope (CD X scope (emT X scope kx vx) cs) ⟨tg, iter, ifs, own.map (·.2)⟩ ds Γ1 [] (fun Γ2 acc => Φ (.dt acc) (wipeG Γ2 (own.map (·.2))))) Ψ) :
    EF X W Γ (.DictComp kx vx (⟨tg, iter, ifs, 0⟩ :: gs) scope pos) Φ Ψ := by
  refine ⟨fun E M σ H Q A xx q => ⟨_, pe_trDt hu c ok, ?_⟩⟩
  refine h.run (subE M Γ H) M σ H _ A.down (fun C d fs vs G M' H' hp B e4 r4 n4 z4 => xx C d fs vs G M' H' hp (A.up B) e4 r4 n4 (A.fresh0 z4)) fun ds Γ1 J H1 p1 A1 k1 it D hD => ?_
  have g : Gr H1 (upd H1 D (.dT [])) := Gr.upd hD
  have gw : Gw X DL.D.dt D (subE M Γ H) (Mp M D) Γ1 σ (upd H1 D (.dT [])) [] := ⟨A1.alloc hD g (Ob.upd fun _ z => nomatch z), .inr rfl, .inr (A1.fresh0 hD), ⟨[], upd_same, rfl⟩, own_ne A1 hD⟩
  refine loop_run (V1 := heads (cs.map (toCl X scope))) ok.ch.1 (fun Γ acc F E M σ H F' h g k => cd_run emOk_dictT cs ok.ch.2 Γ acc F E M σ H F' h g k) p1 gw (it.grow hD) fun Γ' acc' σ' H' p gq ag l => ?_
  have gq2 := gq.forget (σ' := σ) (V := own.map (·.2)) l.symm (fun j hj => (ag j hj).symm)
  exact q _ _ D H' p (A1.fresh hD) (A.up gq2.at_) (A.kpDown gq2.at_) gq2.obj gq2.no
end
end DL
end

section
set_option maxRecDepth 100000
set_option maxHeartbeats 1000000
namespace DL
open PySem PySem.Spec L2
/-! ## one's own instance looked at; dicts locked while they are walked -/
mutual
/-- no instance, no exception, no lock within -/
def Still : D → Prop
  | .tup l => Stills l
  | .lst l => Stills l
  | .dk l => StillK l
  | .dt l => StillT l
  | .ins _ _ => False
  | .exc _ _ _ => False
  | .fz _ => False
  | .fzt _ => False
  | .nd _ _ l => StillN l
  | .rlst _ => False
  | _ => True
def Stills : List D → Prop
  | [] => True
  | d :: r => Still d ∧ Stills r
def StillK : List (Key × D) → Prop
  | [] => True
  | (_, d) :: r => Still d ∧ StillK r
def StillN : List (NestedKey × D) → Prop
  | [] => True
  | (_, d) :: r => Still d ∧ StillN r
def StillT : List (List Key × D) → Prop
  | [] => True
  | (_, d) :: r => Still d ∧ StillT r
end
theorem stills_all : ∀ {l : List D}, (∀ d ∈ l, Still d) → Stills l
  | [], _ => trivial
  | d :: r, h => ⟨h d List.mem_cons_self, stills_all fun x m => h x (List.mem_cons_of_mem _ m)⟩
theorem stills_map {α : Type} {f : α → D} {l : List α} (h : ∀ a ∈ l, Still (f a)) : Stills (l.map f) := stills_all fun d m => by
  obtain ⟨a, ha, rfl⟩ := List.mem_map.mp m
  exact h a ha
theorem stillK_all : ∀ {l : List (Key × D)}, (∀ x ∈ l, Still x.2) → StillK l
  | [], _ => trivial
  | (k, d) :: r, h => ⟨h (k, d) List.mem_cons_self, stillK_all fun x m => h x (List.mem_cons_of_mem _ m)⟩
theorem stillT_all : ∀ {l : List (List Key × D)}, (∀ x ∈ l, Still x.2) → StillT l
  | [], _ => trivial
  | (k, d) :: r, h => ⟨h (k, d) List.mem_cons_self, stillT_all fun x m => h x (List.mem_cons_of_mem _ m)⟩
/-- what a tree without instances stands on -/
inductive Sq : HO → Prop where
  | tup {vs : List V} : Sq (.tup vs)
  | lst {vs : List V} : Sq (.lst vs)
  | ext {φ : Heap → Prop} : Sq (.ext φ)
inductive Dc : HO → Prop where
  | k {vs : List (Key × V)} : Dc (.dK vs)
  | t {vs : List (List Key × V)} : Dc (.dT vs)
section
variable {K : PySem.W.Frag} {M M' : Addr → Prop} {H H' : Hp}
structure Tv (M M' : Addr → Prop) (H H' : Hp) : Prop where
  sq : ∀ b o, Sq o → ¬ M b → H b = some o → ¬ M' b ∧ H' b = some o
  dc : ∀ b o, Dc o → ¬ M b → Rd H b o → ¬ M' b ∧ Rd H' b o
mutual
theorem KeyR.tv (k : Tv M M' H H') : ∀ {d : NestedKey} {v : V}, KeyR K M H d v → KeyR K M' H' d v
  | .none, _, h => h
  | .num _, _, h => h
  | .text _, _, h => h
  | .tup l, v, ⟨a, vs, e, r, q⟩ => ⟨a, vs, e, r.imp (fun r => k.sq _ _ .tup r.1 r.2) id, KeyRs.tv k q⟩
theorem KeyRs.tv (k : Tv M M' H H') : ∀ {d : List NestedKey} {v : List V}, KeyRs K M H d v → KeyRs K M' H' d v
  | [], _, h => h
  | d :: ds, vs, ⟨v, r, e, h, t⟩ => ⟨v, r, e, KeyR.tv k h, KeyRs.tv k t⟩
end
mutual
theorem Rep.tv (k : Tv M M' H H') : ∀ {d : D} {v : V}, Still d → Rep K M H d v → Rep K M' H' d v
  | .non, _, _, h => h
  | .bl _, _, _, h => h
  | .int _, _, _, h => h
  | .str _, _, _, h => h
  | .ty _, _, _, h => h
  | .ref _, _, _, h => h
  | .tup l, v, s, ⟨a, vs, e, r, q⟩ => ⟨a, vs, e, r.imp (fun r => k.sq _ _ .tup r.1 r.2) id, Reps.tv k s q⟩
  | .lst l, v, s, ⟨a, vs, e, r, q⟩ => ⟨a, vs, e, k.sq _ _ .lst r.1 r.2, Reps.tv k s q⟩
  | .dk l, v, s, ⟨a, vs, e, n, r, q⟩ => ⟨a, vs, e, (k.dc _ _ .k n r).1, (k.dc _ _ .k n r).2, RepK.tv k s q⟩
  | .dt l, v, s, ⟨a, vs, e, n, r, q⟩ => ⟨a, vs, e, (k.dc _ _ .t n r).1, (k.dc _ _ .t n r).2, RepT.tv k s q⟩
  | .ins C l, v, s, _ => (show False from s).elim
  | .exc a d l, v, s, _ => (show False from s).elim
  | .ktup ks, v, _, ⟨a, e, n, r⟩ => ⟨a, e, k.sq _ _ .tup n r⟩
  | .fz l, v, s, _ => (show False from s).elim
  | .fzt l, v, s, _ => (show False from s).elim
  | .rlst l, v, s, _ => (show False from s).elim
  | .nd P w l, v, s, ⟨a, xs, e, n, r, q⟩ => ⟨a, xs, e, (let ⟨_, h, _⟩ := r; (k.sq _ _ .ext n h).1), (let ⟨o, h, t⟩ := r; ⟨o, (k.sq _ _ .ext n h).2, t⟩), RepN.tv k s q⟩
theorem Reps.tv (k : Tv M M' H H') : ∀ {d : List D} {v : List V}, Stills d → Reps K M H d v → Reps K M' H' d v
  | [], _, _, h => h
  | d :: ds, vs, s, ⟨v, r, e, h, t⟩ => ⟨v, r, e, Rep.tv k s.1 h, Reps.tv k s.2 t⟩
theorem RepK.tv (k : Tv M M' H H') : ∀ {d : List (Key × D)} {v : List (Key × V)}, StillK d → RepK K M H d v → RepK K M' H' d v
  | [], _, _, h => h
  | (_, d) :: ds, vs, s, ⟨v, r, e, h, t⟩ => ⟨v, r, e, Rep.tv k s.1 h, RepK.tv k s.2 t⟩
theorem RepN.tv (k : Tv M M' H H') : ∀ {d : List (NestedKey × D)} {v : List (NestedKey × Addr × Value)}, StillN d → RepN K M H d v → RepN K M' H' d v
  | [], _, _, h => h
  | (_, d) :: ds, xs, s, ⟨q, v, u, r, e, h1, h2, h3, h, t⟩ => ⟨q, v, u, r, e, h1.tv k, h2, h3, Rep.tv k s.1 h, RepN.tv k s.2 t⟩
theorem RepT.tv (k : Tv M M' H H') : ∀ {d : List (List Key × D)} {v : List (List Key × V)}, StillT d → RepT K M H d v → RepT K M' H' d v
  | [], _, _, h => h
  | (_, d) :: ds, vs, s, ⟨v, r, e, h, t⟩ => ⟨v, r, e, Rep.tv k s.1 h, RepT.tv k s.2 t⟩
end
/-- H' is H with a dict locked -/
structure Lk (H H' : Hp) : Prop where
  ne : ∀ b o, ¬ Dc o → H b = some o → H' b = some o
  dc : ∀ b o, Dc o → Rd H b o → Rd H' b o
mutual
theorem KeyR.lk (k : Lk H H') : ∀ {d : NestedKey} {v : V}, KeyR K M H d v → KeyR K M H' d v
  | .none, _, h => h
  | .num _, _, h => h
  | .text _, _, h => h
  | .tup l, v, ⟨a, vs, e, r, q⟩ => ⟨a, vs, e, r.imp (fun r => ⟨r.1, k.ne _ _ (fun z => nomatch z) r.2⟩) id, KeyRs.lk k q⟩
theorem KeyRs.lk (k : Lk H H') : ∀ {d : List NestedKey} {v : List V}, KeyRs K M H d v → KeyRs K M H' d v
  | [], _, h => h
  | d :: ds, vs, ⟨v, r, e, h, t⟩ => ⟨v, r, e, KeyR.lk k h, KeyRs.lk k t⟩
end
mutual
theorem Rep.lk (k : Lk H H') : ∀ {d : D} {v : V}, Rep K M H d v → Rep K M H' d v
  | .non, _, h => h
  | .bl _, _, h => h
  | .int _, _, h => h
  | .str _, _, h => h
  | .ty _, _, h => h
  | .ref _, _, h => h
  | .tup l, v, ⟨a, vs, e, r, q⟩ => ⟨a, vs, e, r.imp (fun r => ⟨r.1, k.ne _ _ (fun z => nomatch z) r.2⟩) id, Reps.lk k q⟩
  | .lst l, v, ⟨a, vs, e, r, q⟩ => ⟨a, vs, e, ⟨r.1, k.ne _ _ (fun z => nomatch z) r.2⟩, Reps.lk k q⟩
  | .dk l, v, ⟨a, vs, e, n, r, q⟩ => ⟨a, vs, e, n, k.dc _ _ .k r, RepK.lk k q⟩
  | .dt l, v, ⟨a, vs, e, n, r, q⟩ => ⟨a, vs, e, n, k.dc _ _ .t r, RepT.lk k q⟩
  | .ins C l, v, ⟨a, dx, vs, e, n, r, q⟩ => ⟨a, dx, vs, e, n, k.ne _ _ (fun z => nomatch z) r, RepF.lk k q⟩
  | .exc a d l, v, ⟨vs, e, n, r, q⟩ => ⟨vs, e, n, k.ne _ _ (fun z => nomatch z) r, RepF.lk k q⟩
  | .ktup ks, v, ⟨a, e, n, r⟩ => ⟨a, e, n, k.ne _ _ (fun z => nomatch z) r⟩
  | .fz l, v, ⟨a, o, vs, e, n, r, q⟩ => ⟨a, o, vs, e, n, k.ne _ _ (fun z => nomatch z) r, RepK.lk k q⟩
  | .fzt l, v, ⟨a, o, vs, e, n, r, q⟩ => ⟨a, o, vs, e, n, k.ne _ _ (fun z => nomatch z) r, RepT.lk k q⟩
  | .rlst l, v, ⟨a, vs, e, r, q⟩ => ⟨a, vs, e, r.imp (fun ⟨n, o, h⟩ => ⟨n, o, k.ne _ _ (fun z => nomatch z) h⟩) id, Reps.lk k q⟩
  | .nd P w l, v, ⟨a, xs, e, n, r, q⟩ => ⟨a, xs, e, n, (let ⟨o, h, t⟩ := r; ⟨o, k.ne _ _ (fun z => nomatch z) h, t⟩), RepN.lk k q⟩
theorem Reps.lk (k : Lk H H') : ∀ {d : List D} {v : List V}, Reps K M H d v → Reps K M H' d v
  | [], _, h => h
  | d :: ds, vs, ⟨v, r, e, h, t⟩ => ⟨v, r, e, Rep.lk k h, Reps.lk k t⟩
theorem RepK.lk (k : Lk H H') : ∀ {d : List (Key × D)} {v : List (Key × V)}, RepK K M H d v → RepK K M H' d v
  | [], _, h => h
  | (_, d) :: ds, vs, ⟨v, r, e, h, t⟩ => ⟨v, r, e, Rep.lk k h, RepK.lk k t⟩
theorem RepN.lk (k : Lk H H') : ∀ {d : List (NestedKey × D)} {v : List (NestedKey × Addr × Value)}, RepN K M H d v → RepN K M H' d v
  | [], _, h => h
  | (_, d) :: ds, xs, ⟨q, v, u, r, e, h1, h2, h3, h, t⟩ => ⟨q, v, u, r, e, h1.lk k, h2, h3, Rep.lk k h, RepN.lk k t⟩
theorem RepT.lk (k : Lk H H') : ∀ {d : List (List Key × D)} {v : List (List Key × V)}, RepT K M H d v → RepT K M H' d v
  | [], _, h => h
  | (_, d) :: ds, vs, ⟨v, r, e, h, t⟩ => ⟨v, r, e, Rep.lk k h, RepT.lk k t⟩
theorem RepF.lk (k : Lk H H') : ∀ {d : List (Str × D)} {v : List (Str × V)}, RepF K M H d v → RepF K M H' d v
  | [], _, h => h
  | (_, d) :: ds, vs, ⟨v, r, e, h, t⟩ => ⟨v, r, e, Rep.lk k h, RepF.lk k t⟩
end
theorem lk_upd {a : Addr} {u : HO} {od : Obj} (hd : Dc u) (e : H a = some u) : Lk H (upd H a (.frz od u)) := by
  refine ⟨fun b o n q => ?_, fun b o d q => ?_⟩
  · rw [upd_ne (fun z => n (by rw [z, e] at q; cases q; exact hd))]; exact q
  · by_cases c : b = a
    · rw [c] at q ⊢
      rcases q with q | ⟨o', q⟩
      · rw [e] at q
        cases q
        exact .inr ⟨od, upd_same⟩
      · rw [e] at q
        cases q
        cases hd
    · rcases q with q | ⟨o', q⟩
      · exact .inl (by rw [upd_ne c]; exact q)
      · exact .inr ⟨o', by rw [upd_ne c]; exact q⟩
/-- the tree with the dict at the end of the path locked -/
def lockP : List Str → D → Option D
  | [], .dk l => some (.fz l)
  | [], .dt l => some (.fzt l)
  | f :: r, .ins C l => match l.lookup f with
    | some d => (lockP r d).map fun d' => .ins C (putFD f d' l)
    | none => none
  | _, _ => none
theorem putF_id {f : Str} {v : V} : ∀ {vs : List (Str × V)}, vs.lookup f = some v → putF f v vs = vs
  | [], e => by cases e
  | (g, u) :: r, e => by
    rw [List.lookup_cons] at e
    unfold putF
    by_cases c : g = f
    · subst c
      rw [beq_self_eq_true] at e
      cases e
      simp only [if_true]
    · rw [show (f == g) = false from beq_eq_false_iff_ne.mpr fun z => c z.symm] at e
      simp only [c, if_false]
      rw [putF_id e]
theorem Rep.lockP {path : List Str} : ∀ {d d' : D} {v : V}, Rep K M H d v → lockP path d = some d' →
    ∃ a u, ¬ M a ∧ Dc u ∧ Rd H a u ∧ (H a = some u → ∀ od, Rep K M (upd H a (.frz od u)) d' v) ∧ ((∃ o, H a = some (.frz o u)) → Rep K M H d' v) := by
  induction path with
  | nil =>
    intro d d' v r h
    cases d with
    | dk l =>
      obtain ⟨a, vs, e, n, r, q⟩ := r
      cases h
      exact ⟨a, .dK vs, n, .k, r, fun ha od => ⟨a, od, vs, e, n, upd_same, RepK.lk (lk_upd .k ha) q⟩, fun ⟨o, ho⟩ => ⟨a, o, vs, e, n, ho, q⟩⟩
    | dt l =>
      obtain ⟨a, vs, e, n, r, q⟩ := r
      cases h
      exact ⟨a, .dT vs, n, .t, r, fun ha od => ⟨a, od, vs, e, n, upd_same, RepT.lk (lk_upd .t ha) q⟩, fun ⟨o, ho⟩ => ⟨a, o, vs, e, n, ho, q⟩⟩
    | _ => cases h
  | cons f path ih =>
    intro d d' v r h
    cases d with
    | ins C l =>
      obtain ⟨p, dx, vs, e, n, r, q⟩ := r
      unfold DL.lockP at h
      cases hl : l.lookup f with
      | none => rw [hl] at h; cases h
      | some d0 =>
        rw [hl] at h
        obtain ⟨d1, h1, rfl⟩ := Option.map_eq_some_iff.mp h
        obtain ⟨u0, hu, ru⟩ := q.lookup hl
        obtain ⟨a, u, na, du, rd, lck, lcd⟩ := ih ru h1
        refine ⟨a, u, na, du, rd, fun ha od => ?_, fun ho => ?_⟩
        · have k := lk_upd (od := od) du ha
          have e2 := RepF.put (f := f) (lck ha od) (RepF.lk k q)
          rw [putF_id hu] at e2
          exact ⟨p, dx, vs, e, n, k.ne _ _ (fun z => nomatch z) r, e2⟩
        · have e2 := RepF.put (f := f) (lcd ho) q
          rw [putF_id hu] at e2
          exact ⟨p, dx, vs, e, n, r, e2⟩
    | _ => cases h
end
def hide : Sl → Sl
  | .own _ _ => .un
  | s => s
theorem hide_own {Γ : List Sl} {i j : Nat} {e x : D} {a : Addr} : ((Γ.map hide).set i (.ok e))[j]? ≠ some (.own a x) := fun h => by
  rcases get_set h with ⟨_, z⟩ | ⟨_, z⟩
  · cases z
  · rw [List.getElem?_map] at z
    cases q : Γ[j]? with
    | none => rw [q] at z; cases z
    | some s =>
      rw [q] at z
      cases s <;> cases z
theorem hide_ok {Γ : List Sl} {j : Nat} {x : D} (h : (Γ.map hide)[j]? = some (.ok x)) : Γ[j]? = some (.ok x) := by
  rw [List.getElem?_map] at h
  cases q : Γ[j]? with
  | none => rw [q] at h; cases h
  | some s =>
    rw [q] at h
    cases s with
    | un => cases h
    | ok d => cases h; rfl
    | own a d => cases h
section
variable {X : Cx} {W : WX} {Γ : List Sl} {Φ : D → List Sl → Prop} {Ψ : Ex}
/-- the state with everything of one's own hidden, and slot i read so -/
theorem AtM.veil {K : PySem.W.Frag} {E : Entry} {M M' : Addr → Prop} {σ : L2.St} {H H' : Hp} (A : AtM K E M Γ σ H) {i : Nat} {d : D} {v : V} (hi : i < Γ.length) (hv : σ[i]? = some (some v)) (r : Rep K M' H' d v)
    (t : ∀ (d : D) (v : V), Rep K M H d v → Rep K M' H' d v) (dm : ∀ b, M' b → Ob (H' b)) : AtM K ⟨M', H', fun _ => False⟩ M' ((Γ.map hide).set i (.ok d)) σ H' := by
  refine ⟨by rw [List.length_set, List.length_map]; exact A.len, fun j s h => ?_, fun j k a x y h _ => absurd h hide_own, fun _ m => m, fun _ m => .inl m, fun _ _ _ e => e, fun j a x h => absurd h hide_own, dm, fun _ z => z.elim, dm⟩
  cases s with
  | un => trivial
  | own a x => exact absurd h hide_own
  | ok x =>
    rcases get_set h with ⟨e, z⟩ | ⟨_, z⟩
    · cases z
      subst e
      exact ⟨v, hv, r⟩
    · obtain ⟨u, e, q⟩ := A.get j _ (hide_ok z)
      exact ⟨u, e, t x u q⟩
theorem exd_no {E : Entry} {σ : L2.St} : ExD X E W (fun _ _ _ => False) σ := fun _ _ _ _ _ _ _ p => p.elim
/-- one's own instance, looked at -/
theorem ev_see {e : Expr} {i : Nat} {p C : Addr} {fs : List (Str × D)} (hΓ : Γ[i]? = some (.own p (.ins C fs))) (h : EV X W ((Γ.map hide).set i (.ok (.ins C fs))) e (fun d _ => Still d ∧ Φ d Γ) (fun _ _ _ => False)) : EV X W Γ e Φ Ψ := by
  refine ⟨fun E M σ H Q A xx q => ?_⟩
  obtain ⟨es, mp, o⟩ := A.get i _ hΓ
  have hi : i < Γ.length := by
    by_cases c : i < Γ.length
    · exact c
    · rw [List.getElem?_eq_none (by omega)] at hΓ; cases hΓ
  obtain ⟨dx, vs, ho, rr⟩ := id o
  have mv : Mv M (Mm M p) H H := ⟨fun b o n e z => n z.1, fun _ _ _ e => e⟩
  have rp : Rep X.K (Mm M p) H (.ins C fs) (.ref p) := ⟨p, dx, vs, rfl, fun z => z.2 rfl, ho, rr.mv mv⟩
  have B := A.veil (M' := Mm M p) (H' := H) hi es rp (fun d v r => r.mv mv) (fun b m => A.dom b m.1)
  refine h.run _ _ σ H _ B exd_no fun d Γ1 v H1 p1 A1 k1 r1 => ?_
  have g : Gr H H1 := fun b o e => A1.kept b o id e
  have ho1 : H1 p = some (.ins C dx vs) := g p _ ho
  refine q d Γ v H1 p1.2 (A.grow g) g.kp (r1.tv ⟨fun b o s n e => ⟨fun m => n ⟨m, fun z => ?_⟩, e⟩, fun b o s n e => ⟨fun m => n ⟨m, fun z => ?_⟩, e⟩⟩ p1.1)
  · rw [z, ho1] at e
    cases e
    cases s
  · rw [z] at e
    rcases e with e | ⟨o', e⟩ <;> rw [ho1] at e <;> cases e
    cases s
/-- a dict that stands is locked while an expression runs -/
theorem ev_lock {e : Expr} {i : Nat} {t t' : D} (path : List Str) (hΓ : Γ[i]? = some (.ok t)) (hp : lockP path t = some t') (h : EV X W ((Γ.map hide).set i (.ok t')) e (fun d _ => Still d ∧ Φ d Γ) (fun _ _ _ => False)) : EV X W Γ e Φ Ψ := by
  refine ⟨fun E M σ H Q A xx q => ?_⟩
  obtain ⟨v, ev, rv⟩ := A.get i _ hΓ
  have hi : i < Γ.length := by
    by_cases c : i < Γ.length
    · exact c
    · rw [List.getElem?_eq_none (by omega)] at hΓ; cases hΓ
  obtain ⟨a, u, na, du, rd, lck, lcd⟩ := rv.lockP hp
  rcases rd with ha | ho
  · have mu : Mut (some u) := by cases du <;> trivial
    refine ⟨_, pe_lock pe_we, a, u, ha, mu, fun od => ?_⟩
    have k := lk_upd (od := od) du ha
    have dm : ∀ b, M b → Ob (upd H a (.frz od u) b) := fun b m => by
      have nb : b ≠ a := fun z => na (by rw [← z]; exact m)
      rw [upd_ne nb]; exact A.dom b m
    have B := A.veil (M' := M) hi ev (lck ha od) (fun d v r => r.lk k) dm
    refine h.run _ _ σ _ _ B exd_no fun d Γ1 v1 H1 p1 A1 k1 r1 => ?_
    have g1 : Gr (upd H a (.frz od u)) H1 := fun b o e => A1.kept b o id e
    have e1 : H1 a = some (.frz od u) := g1 a _ upd_same
    have g : Gr H (upd H1 a u) := fun b o e => by
      by_cases c : b = a
      · rw [c] at e ⊢
        rw [ha] at e
        rw [upd_same]; exact e
      · rw [upd_ne c]
        exact g1 b o (by rw [upd_ne c]; exact e)
    refine ⟨e1, q d Γ v1 _ p1.2 (A.grow g) g.kp (r1.tv ⟨fun b o s n e => ⟨n, ?_⟩, fun b o s n e => ⟨n, ?_⟩⟩ p1.1)⟩
    · rw [upd_ne (fun z => ?_)]; exact e
      rw [z, e1] at e
      cases e
      cases s
    · by_cases c : b = a
      · rw [c] at e ⊢
        rcases e with e | ⟨o', e⟩
        · rw [e1] at e; cases e; cases s
        · rw [e1] at e
          cases e
          exact .inl upd_same
      · exact e.imp (fun e => by rw [upd_ne c]; exact e) fun ⟨o', e⟩ => ⟨o', by rw [upd_ne c]; exact e⟩
  · have B := A.veil (M' := M) hi ev (lcd ho) (fun d v r => r) A.dom
    refine h.run _ _ σ _ _ B exd_no fun d Γ1 v1 H1 p1 A1 k1 r1 => ?_
    have g : Gr H H1 := fun b o e => A1.kept b o id e
    exact q d Γ v1 H1 p1.2 (A.grow g) g.kp r1
/-- a locked dict read as a dict -/
theorem ev_unz {e : Expr} (h : EV X W Γ e (fun d Γ1 => (∃ l, d = .fz l ∧ Φ (.dk l) Γ1) ∨ ∃ l, d = .fzt l ∧ Φ (.dt l) Γ1) Ψ) : EV X W Γ e Φ Ψ := by
  refine ⟨fun E M σ H Q A x q => h.run E M σ H Q A x fun d Γ1 v H1 p1 A1 k1 r1 => ?_⟩
  rcases p1 with ⟨l, rfl, hp⟩ | ⟨l, rfl, hp⟩
  · obtain ⟨a, o, vs, e, n, r, rr⟩ := r1
    exact q _ Γ1 v H1 hp A1 k1 ⟨a, vs, e, n, .inr ⟨o, r⟩, rr⟩
  · obtain ⟨a, o, vs, e, n, r, rr⟩ := r1
    exact q _ Γ1 v H1 hp A1 k1 ⟨a, vs, e, n, .inr ⟨o, r⟩, rr⟩
theorem RepK.fst {K : PySem.W.Frag} {M : Addr → Prop} {H : Hp} : ∀ {l : List (Key × D)} {vs : List (Key × V)}, RepK K M H l vs → vs.map (·.1) = l.map (·.1)
  | [], _, h => by rw [show _ = ([] : List (Key × V)) from h]; rfl
  | (k, d) :: ds, _, ⟨v, r, e, _, t⟩ => by rw [e, List.map_cons, List.map_cons, RepK.fst t]
theorem RepT.fst {K : PySem.W.Frag} {M : Addr → Prop} {H : Hp} : ∀ {l : List (List Key × D)} {vs : List (List Key × V)}, RepT K M H l vs → vs.map (·.1) = l.map (·.1)
  | [], _, h => by rw [show _ = ([] : List (List Key × V)) from h]; rfl
  | (k, d) :: ds, _, ⟨v, r, e, _, t⟩ => by rw [e, List.map_cons, List.map_cons, RepT.fst t]
/-- for k in d, d a locked dict -/
theorem ei_keys {tg e : Expr} {Φ : List D → List Sl → Prop} (h : EV X W Γ e (fun d Γ1 => (∃ l, d = .fz l ∧ Φ (l.map fun x => keyD x.1) Γ1) ∨ ∃ l, d = .fzt l ∧ Φ (l.map fun x => .ktup x.1) Γ1) Ψ) : EI X W Γ tg e Φ Ψ := by
  refine ⟨fun E M σ H R A x q => ⟨_, pi_keys pe_we, h.run E M σ H _ A x fun d Γ1 v H1 p1 A1 k1 r1 => ?_⟩⟩
  rcases p1 with ⟨l, rfl, hp⟩ | ⟨l, rfl, hp⟩
  · obtain ⟨a, o, vs, rfl, n, r, rr⟩ := r1
    have len := rr.length
    refine ⟨a, o, rfl, .inl ⟨vs, r, q _ Γ1 _ H1 hp A1 k1 ⟨fun i d H2 hd k => ?_, fun i d H2 x H' hd k y => ?_, fun H2 k => ?_⟩⟩⟩
    · refine ⟨k a _ n r, ?_⟩
      by_cases c : i < vs.length
      · exact c
      · rw [List.getElem?_map, List.getElem?_eq_none (by omega)] at hd; cases hd
    · obtain ⟨rfl, kk, w, hk, rfl⟩ := y
      refine ⟨fun b o e => e, fun M' _ _ => ?_⟩
      have h1 : (vs.map (·.1))[i]? = some kk := by rw [List.getElem?_map, hk]; rfl
      rw [rr.fst, List.getElem?_map] at h1
      rw [List.getElem?_map] at hd
      cases hl : l[i]? with
      | none => rw [hl] at hd; cases hd
      | some z =>
        rw [hl] at hd h1
        have e1 : z.1 = kk := Option.some.inj h1
        have e2 : keyD z.1 = d := Option.some.inj hd
        rw [← e2, e1]
        cases kk <;> rfl
    · exact ⟨k a _ n r, by rw [List.length_map, ← len]; exact Nat.le_refl _⟩
  · obtain ⟨a, o, vs, rfl, n, r, rr⟩ := r1
    have len := rr.length
    refine ⟨a, o, rfl, .inr ⟨vs, r, q _ Γ1 _ H1 hp A1 k1 ⟨fun i d H2 hd k => ?_, fun i d H2 x H' hd k y => ?_, fun H2 k => ?_⟩⟩⟩
    · refine ⟨k a _ n r, ?_⟩
      by_cases c : i < vs.length
      · exact c
      · rw [List.getElem?_map, List.getElem?_eq_none (by omega)] at hd; cases hd
    · obtain ⟨rfl, kk, w, b, hk, rfl, hb⟩ := y
      refine ⟨fun b o e => e, fun M' _ dm => ?_⟩
      have h1 : (vs.map (·.1))[i]? = some kk := by rw [List.getElem?_map, hk]; rfl
      rw [rr.fst, List.getElem?_map] at h1
      rw [List.getElem?_map] at hd
      cases hl : l[i]? with
      | none => rw [hl] at hd; cases hd
      | some z =>
        rw [hl] at hd h1
        have e1 : z.1 = kk := Option.some.inj h1
        have e2 : D.ktup z.1 = d := Option.some.inj hd
        rw [← e2, e1]
        exact ⟨b, rfl, fun m => (dm b m).nt hb, hb⟩
    · exact ⟨k a _ n r, by rw [List.length_map, ← len]; exact Nat.le_refl _⟩
end
end DL
end

section
set_option maxRecDepth 100000
set_option maxHeartbeats 1000000
namespace DL
open PySem PySem.Spec L2
/-! ## o.m(..), o an instance that stands -/
def tMthS (C : Addr) (m : Str) (sp : Sp) (E : L2.St → XK) (to : TE) (t : TA) : TE := fun σ H Q => to σ H fun x H1 => ∃ a dx fs, x = .ref a ∧ H1 a = some (.ins C dx fs) ∧ fs.lookup m = none ∧ t σ H1 fun vs H2 => sp (.ref a :: vs) H2 Q (E σ)
section
variable {X : Cx} {CX : CXT} {k : Nat} {f C : Addr} {fd : FuncData} {ps : List Str} {sp : Sp} {E : L2.St → XK} {m : Str} {apos pos : Pos} {e o : Expr} {es : List Expr} {to : TE} {t : TA}
/-- with arguments -/
theorem pe_mthS {pl : Sem Bool} (ho : PE X o to) (cl : Cls X.K C) (mt : Meth X.K C m f) (F : FnOk X.prog X.w X.K X.mg X.base CX k f fd ps sp) (room : Room k X.A) (bd : Binds X.K fd ps []) (out : ∀ σ, PassesAt CX X σ (E σ)) (ha : PA X (e :: es) t)
    (st : starEach (e :: es) X.env = (false, eval e X.env) :: starEach es X.env) (np : (backTo pos (starEach es X.env)).any (·.1) = false)
    (cut : eval (.Call (.Attribute o m apos) (e :: es) [] pos) X.env = (eval o X.env >>= fun y => standAt apos.atName >>= fun _ => holding [y] (getMethod y m pl) >>= fun z => callWith pos z.1 z.2 (backTo pos (starEach (e :: es) X.env)) (backToKw pos (keywordEach [] X.env)))) :
    PE X (.Call (.Attribute o m apos) (e :: es) [] pos) (tMthS C m sp E to t) := by
  constructor
  intro pins s σ H Q I want
  refine PySem.W.methodCall_KW (pl := pl) (thn (ho.run pins s σ H _ I want) fun u s1 got => ?_) cut
  obtain ⟨x, H1, I1, rx, a, dx, fs, rfl, ea, nl, go⟩ := got
  cases (show u = Value.ref a from rx)
  refine getmeth_ok I1 ea cl mt nl ?_
  refine PySem.W.callWith_K (first := [.ref a]) (h₀ := X.base) I.ok.mod.kin mt.kp (thn (ha.run pos pins s1 σ H1 _ I1 go) fun us s2 got2 => ?_) st np
  obtain ⟨vs, H2, I2, rv, go2⟩ := got2
  exact ⟨I2.kIn, run_fnS (us := .ref a :: us) (vs := .ref a :: vs) F room bd (out σ) I2 (.cons rfl rv) go2⟩
/-- without -/
theorem pe_mthS0 {pl : Sem Bool} (ho : PE X o to) (cl : Cls X.K C) (mt : Meth X.K C m f) (F : FnOk X.prog X.w X.K X.mg X.base CX k f fd ps sp) (room : Room k X.A) (bd : Binds X.K fd ps []) (out : ∀ σ, PassesAt CX X σ (E σ))
    (cut : eval (.Call (.Attribute o m apos) [] [] pos) X.env = (eval o X.env >>= fun y => standAt apos.atName >>= fun _ => holding [y] (getMethod y m pl) >>= fun z => callWith pos z.1 z.2 (backTo pos (starEach [] X.env)) (backToKw pos (keywordEach [] X.env)))) :
    PE X (.Call (.Attribute o m apos) [] [] pos) (tMthS C m sp E to tNil) := by
  constructor
  intro pins s σ H Q I want
  refine PySem.W.methodCall_KW (pl := pl) (thn (ho.run pins s σ H _ I want) fun u s1 got => ?_) cut
  obtain ⟨x, H1, I1, rx, a, dx, fs, rfl, ea, nl, go⟩ := got
  cases (show u = Value.ref a from rx)
  refine getmeth_ok I1 ea cl mt nl ?_
  exact PySem.W.callWith_K0 (first := [.ref a]) I1.kIn mt.kp (run_fnS (us := [.ref a]) (vs := [.ref a]) F room bd (out σ) I1 (.cons rfl .nil) go)
end
section
variable {X : Cx} {W : WX} {Γ : List Sl} {Φ : D → List Sl → Prop} {Ψ : Ex} {k : Nat} {f C : Addr} {fd : FuncData} {ps : List Str} {m : Str} {apos pos : Pos} {e o : Expr} {es : List Expr} {S : Sv}
theorem ev_meth {pl : Sem Bool} (cl : Cls X.K C) (mt : Meth X.K C m f) (F : FnD X.prog X.w X.K X.mg X.base k f fd ps (spV X.K S)) (room : Room k X.A) (bd : Binds X.K fd ps []) (tk : Takes X W)
    (h : EV X W Γ o (fun d Γ1 => ∃ fs, d = .ins C fs ∧ fs.lookup m = none ∧ EA X W Γ1 (e :: es) (fun ds Γ2 => S (.ins C fs :: ds) (fun d => Φ d Γ2) (fun C fs => Ψ C fs Γ2)) Ψ) Ψ)
    (st : starEach (e :: es) X.env = (false, eval e X.env) :: starEach es X.env := by rfl) (np : (backTo pos (starEach es X.env)).any (·.1) = false := by rfl)
    (cut : eval (.Call (.Attribute o m apos) (e :: es) [] pos) X.env = (eval o X.env >>= fun y => standAt apos.atName >>= fun _ => holding [y] (getMethod y m pl) >>= fun z => callWith pos z.1 z.2 (backTo pos (starEach (e :: es) X.env)) (backToKw pos (keywordEach [] X.env))) := by rfl) :
    EV X W Γ (.Call (.Attribute o m apos) (e :: es) [] pos) Φ Ψ := by
  refine ⟨fun E M σ H Q A xx q => ⟨_, pe_mthS pe_we cl mt F room bd (fun σ => passAt tk σ) pa_wa st np cut, ?_⟩⟩
  refine h.run E M σ H _ A xx fun d Γ1 v H1 p1 A1 k1 r1 => ?_
  obtain ⟨fs, rfl, nl, p1⟩ := p1
  obtain ⟨a, dx, us, rfl, na, ea, rf⟩ := id r1
  refine ⟨a, dx, us, rfl, ea, rf.lookup_none nl, ?_⟩
  refine p1.run E M σ H1 _ A1 xx fun ds Γ2 vs H2 p2 A2 k2 r2 => ?_
  exact ⟨M, _, _, _, A2.dom, Reps.cons (r1.mv k2.mv) r2, p2, fun d v H' hp g rr => q d Γ2 v H' hp (A2.grow g) (k1.trans (k2.trans g.kp)) rr, fun C d fs us H' hp g e1 rf nz => xx C d fs us Γ2 M H' hp (A2.grow g) e1 rf (A2.fresh nz) (A2.fresh0 nz)⟩
theorem ev_meth0 {pl : Sem Bool} (cl : Cls X.K C) (mt : Meth X.K C m f) (F : FnD X.prog X.w X.K X.mg X.base k f fd ps (spV X.K S)) (room : Room k X.A) (bd : Binds X.K fd ps []) (tk : Takes X W)
    (h : EV X W Γ o (fun d Γ1 => ∃ fs, d = .ins C fs ∧ fs.lookup m = none ∧ S [.ins C fs] (fun d => Φ d Γ1) (fun C fs => Ψ C fs Γ1)) Ψ)
    (cut : eval (.Call (.Attribute o m apos) [] [] pos) X.env = (eval o X.env >>= fun y => standAt apos.atName >>= fun _ => holding [y] (getMethod y m pl) >>= fun z => callWith pos z.1 z.2 (backTo pos (starEach [] X.env)) (backToKw pos (keywordEach [] X.env))) := by rfl) :
    EV X W Γ (.Call (.Attribute o m apos) [] [] pos) Φ Ψ := by
  refine ⟨fun E M σ H Q A xx q => ⟨_, pe_mthS0 pe_we cl mt F room bd (fun σ => passAt tk σ) cut, ?_⟩⟩
  refine h.run E M σ H _ A xx fun d Γ1 v H1 p1 A1 k1 r1 => ?_
  obtain ⟨fs, rfl, nl, p1⟩ := p1
  obtain ⟨a, dx, us, rfl, na, ea, rf⟩ := id r1
  refine ⟨a, dx, us, rfl, ea, rf.lookup_none nl, ?_⟩
  exact ⟨M, [_], _, _, A1.dom, Reps.cons r1 Reps.nil, p1, fun d v H' hp g rr => q d Γ1 v H' hp (A1.grow g) (k1.trans g.kp) rr, fun C d fs us H' hp g e1 rf nz => xx C d fs us Γ1 M H' hp (A1.grow g) e1 rf (A1.fresh nz) (A1.fresh0 nz)⟩
end
end DL
end

section
set_option maxRecDepth 100000
set_option maxHeartbeats 1000000
/-! sorted of any trees of numbers and texts that can be compared place by place -/
namespace DLS
open PySem PySem.Spec PyProof.Rows L2
open PySem.W (EachIs AllAlike Sortable SortsAt dataKind dataLe sortVals sortingHeap copyHeap)
abbrev ordD (xs : List (V × PyData)) : List (V × PyData) := xs.mergeSort (dataLe false fun p => p.2)
def rSortedD (X : Cx) : List V → Hp → VK → Prop := fun vs H Q => ∃ (a : Addr) (ps : List (V × PyData)), vs = [.ref a] ∧ SqL X.K H a (ps.map (·.1)) ∧ (∀ p ∈ ps, Dp X.K H p.1 p.2) ∧ AllAlike (ps.map (·.2)) ∧ Sortable (ps.map (·.2)) ∧ (∀ p ∈ ps, X.A.units + 2 + p.2.depth < cLine) ∧
  ∀ d, H d = none → Q (.ref d) (upd H d (.lst ((ordD ps).map (·.1))))
theorem each_of {pins : List (Addr × Obj)} {X : Cx} {σ : L2.St} {H : Hp} {s : Shared} (I : Inv X pins σ H s) : ∀ {ps : List (V × PyData)} {us : List Value}, Vals (ps.map (·.1)) us → (∀ p ∈ ps, Dp X.K H p.1 p.2) →
    EachIs (fun u (p : V × PyData) => RelV p.1 u) us ps ∧ EachIs (fun u (p : V × PyData) => ∃ as, Reads s.heap u p.2 as) us ps
  | [], us, h, _ => by
    cases h
    exact ⟨.nil, .nil⟩
  | p :: ps, us, h, hd => by
    rw [List.map_cons] at h
    cases h with
    | cons h1 h2 =>
      obtain ⟨a, b⟩ := each_of I h2 fun q m => hd q (List.mem_cons_of_mem _ m)
      exact ⟨.cons h1 a, .cons (Dp.reads I _ _ _ (hd p List.mem_cons_self) h1) b⟩
theorem vals_each : ∀ {us : List Value} {ps : List (V × PyData)}, EachIs (fun u (p : V × PyData) => RelV p.1 u) us ps → Vals (ps.map (·.1)) us
  | _, _, .nil => .nil
  | _, _, .cons h t => .cons h (vals_each t)
theorem each_keeps {h h' : Heap} (k : ∀ b o, h.get? b = some o → h'.get? b = some o) : ∀ {us : List Value} {ps : List (V × PyData)}, EachIs (fun u (p : V × PyData) => ∃ as, Reads h u p.2 as) us ps → EachIs (fun u (p : V × PyData) => ∃ as, Reads h' u p.2 as) us ps
  | _, _, .nil => .nil
  | _, _, .cons ⟨as, r⟩ t => .cons ⟨as, Reads.keeps k r⟩ (each_keeps k t)
theorem cr_sortedD {X : Cx} : CallR X (.builtin "sorted") (rSortedD X) := by
  intro pins s σ H vs us Q I r h
  obtain ⟨a, ps, rfl, hs, hd, al, so, hu, q⟩ := h
  obtain ⟨its, rv, hl, hz⟩ := I.list hs
  obtain ⟨u, rfl, ru⟩ := vals1 r
  cases (show u = Value.ref a from ru)
  obtain ⟨e1, e2⟩ := each_of I rv hd
  have kp : ∀ b o, s.heap.get? b = some o → (sortingHeap (copyHeap s.heap its) (s.heap.objs.size + 1) its).get? b = some o := fun b o e => PySem.W.sorting_copy_old e
  have e3 := each_keeps kp e2
  have un : X.A.in1.in1.units = X.A.units + 2 := rfl
  refine PySem.W.sorted_vals (κ := dataKind (sortingHeap (copyHeap s.heap its) (s.heap.objs.size + 1) its) (ps.map (·.2))) hl.isList (SortsAt.data (s := { s with heap := sortingHeap (copyHeap s.heap its) (s.heap.objs.size + 1) its }) (PySem.W.each_map (R := fun v d => ∃ as, Reads _ v d as) (fun p : V × PyData => p.2) e3) al so fun d md => ?_) (by rw [← rv.length]; exact hz) ?_
  · obtain ⟨p, mp, rfl⟩ := List.mem_map.mp md
    rw [un]
    exact hu p mp
  · have e4 := PySem.W.sortVals_data (enc := fun p : V × PyData => p.2) false e1 e3 al
    obtain ⟨ep, he⟩ := PyProof.Rows.sortedAll_at s.heap its (sortVals (dataKind (sortingHeap (copyHeap s.heap its) (s.heap.objs.size + 1) its) (ps.map (·.2))) false its its).toArray
    refine ⟨.ref _, upd H (s.heap.objs.size + 1) (.lst ((ordD ps).map (·.1))), I.laid (t' := s.toks) (fun _ _ => PyProof.Rows.sortedAll_old) (Nat.le_succ _) ⟨?_, _, ep, vals_each e4, he⟩, rfl, q _ (I.hok.fresh (Nat.le_succ _))⟩
    rw [List.length_map, (List.mergeSort_perm _ _).length_eq]
    rw [List.length_map] at hz
    exact hz
end DLS
namespace DL
open PySem PySem.Spec L2
open PySem.W (AllAlike Sortable dataLe)
/-- the list, sorted by what the trees are -/
def sortD {α : Type} (enc : α → D) (as : List α) : List α := as.mergeSort (dataLe false fun a => py (enc a))
theorem sortD_perm {α : Type} {enc : α → D} {as : List α} : (sortD enc as).Perm as := List.mergeSort_perm _ _
theorem ms_map {α β : Type} {r : α → α → Bool} {s : β → β → Bool} (f : α → β) (h : ∀ a b, s (f a) (f b) = r a b) (l : List α) : (l.mergeSort r).map f = (l.map f).mergeSort s :=
  List.map_mergeSort (fun a _ b _ => (h a b).symm)
section
variable {X : Cx} {P : D → Prop}
theorem c_sortedD {α : Type} (enc : α → D) {as : List α} (hl : ∀ a ∈ as, (py (enc a)).canLay0 = true) (al : AllAlike (as.map fun a => py (enc a))) (so : Sortable (as.map fun a => py (enc a))) (hu : ∀ a ∈ as, X.A.units + 2 + (py (enc a)).depth < cLine)
    (h : P (.lst ((sortD enc as).map enc))) : C1D X (.builtin "sorted") (.lst (as.map enc)) P := ⟨fun M H v Q dm r q => by
  obtain ⟨a, vs, rfl, hs, rr⟩ := r
  have hT : ∃ T : List (α × V), T.map (·.1) = as ∧ T.map (·.2) = vs ∧ ∀ t ∈ T, Rep X.K M H (enc t.1) t.2 := by
    clear hs hl al so hu h
    induction as generalizing vs with
    | nil => exact ⟨[], rfl, by rw [show vs = [] from rr]; rfl, fun _ m => nomatch m⟩
    | cons a as ih =>
      obtain ⟨v, r, rfl, h, t⟩ := rr
      obtain ⟨T, e1, e2, e3⟩ := ih r t
      refine ⟨(a, v) :: T, by rw [List.map_cons, e1], by rw [List.map_cons, e2], fun z m => ?_⟩
      rcases List.mem_cons.mp m with rfl | m
      · exact h
      · exact e3 z m
  obtain ⟨T, rfl, rfl, e3⟩ := hT
  have mm : (T.map fun t => (t.2, py (enc t.1))).map (·.2) = (T.map (·.1)).map fun a => py (enc a) := by rw [List.map_map, List.map_map]; rfl
  refine ⟨_, DLS.cr_sortedD, a, T.map fun t => (t.2, py (enc t.1)), rfl, ?_, fun p hp => ?_, ?_, ?_, fun p hp => ?_, fun d np => ?_⟩
  · rw [List.map_map]; exact hs
  · obtain ⟨t, mt, rfl⟩ := List.mem_map.mp hp
    exact dp_of (e3 t mt).r (hl t.1 (List.mem_map.mpr ⟨t, mt, rfl⟩))
  · rw [mm]; exact al
  · rw [mm]; exact so
  · obtain ⟨t, mt, rfl⟩ := List.mem_map.mp hp
    exact hu t.1 (List.mem_map.mpr ⟨t, mt, rfl⟩)
  · let T' := T.mergeSort (dataLe false fun t => py (enc t.1))
    have e1 : (DLS.ordD (T.map fun t => (t.2, py (enc t.1)))) = T'.map fun t => (t.2, py (enc t.1)) := (ms_map (fun t : α × V => (t.2, py (enc t.1))) (fun _ _ => rfl) T).symm
    have e2 : sortD enc (T.map (·.1)) = T'.map (·.1) := (ms_map (fun t : α × V => t.1) (fun _ _ => rfl) T).symm
    rw [e1, List.map_map]
    rw [e2] at h
    have hT' : ∀ t ∈ T', Rep X.K M H (enc t.1) t.2 := fun t mt => e3 t ((List.mergeSort_perm _ _).mem_iff.mp mt)
    exact q _ _ _ h (Gr.upd np) ⟨d, T'.map (·.2), rfl, ⟨notM dm np, upd_same⟩, Reps.mv (Gr.upd np).kp.mv (reps_back _ hT')⟩⟩
end
end DL
end

section
set_option maxRecDepth 100000
set_option maxHeartbeats 1000000
/-! dicts whose keys are tuples of tuples, made by a comprehension; their keys may be the module's own -/
namespace DL
open PySem PySem.Spec L2
mutual
def keyT : NestedKey → D
  | .none => .non
  | .num i => .int i
  | .text x => .str x
  | .tup l => .tup (keyTs l)
def keyTs : List NestedKey → List D
  | [] => []
  | k :: ks => keyT k :: keyTs ks
end
section
variable {K : PySem.W.Frag} {M : Addr → Prop} {H : Hp}
mutual
theorem keyR_of : ∀ {k : NestedKey} {v : V}, Rep K M H (keyT k) v → KeyR K M H k v
  | .none, _, h => h
  | .num _, _, h => h
  | .text _, _, h => h
  | .tup l, v, ⟨a, vs, e, r, q⟩ => ⟨a, vs, e, r, keyRs_of q⟩
theorem keyRs_of : ∀ {k : List NestedKey} {v : List V}, Reps K M H (keyTs k) v → KeyRs K M H k v
  | [], _, h => h
  | k :: ks, vs, ⟨v, r, e, h, t⟩ => ⟨v, r, e, keyR_of h, keyRs_of t⟩
end
mutual
theorem key_rep : ∀ {k : NestedKey} {v : V}, KeyR K M H k v → Rep K M H (keyT k) v
  | .none, _, h => h
  | .num _, _, h => h
  | .text _, _, h => h
  | .tup l, v, ⟨a, vs, e, r, q⟩ => ⟨a, vs, e, r, key_reps q⟩
theorem key_reps : ∀ {k : List NestedKey} {v : List V}, KeyRs K M H k v → Reps K M H (keyTs k) v
  | [], _, h => h
  | k :: ks, vs, ⟨v, r, e, h, t⟩ => ⟨v, r, e, key_rep h, key_reps t⟩
end
theorem mv_free : Mv M (fun _ => False) H H := ⟨fun _ _ _ _ z => z, fun _ _ _ e => e⟩
end
section
variable {X : Cx} {pins : List (Addr × Obj)} {σ : L2.St} {H : Hp} {s : Shared} {M : Addr → Prop}
mutual
theorem nis_of (I : Inv X pins σ H s) : ∀ {k : NestedKey} {v : V} {u : Value}, KeyR X.K M H k v → RelV v u → NestedIs s.heap k u
  | .none, _, u, h, r => by
    cases h
    cases (show u = Value.none from r)
    exact .none
  | .num i, _, u, h, r => by
    cases h
    obtain ⟨t, rfl⟩ : ∃ t, u = Value.int i t := r
    exact .int i t
  | .text x, _, u, h, r => by
    cases h
    obtain ⟨t, rfl⟩ : ∃ t, u = Value.str x t := r
    exact .text x t
  | .tup l, _, u, ⟨a, vs, e, q, t⟩, r => by
    subst e
    cases (show u = Value.ref a from r)
    obtain ⟨its, rv, pt, _⟩ := I.tuple (q.elim (fun q => .inl (.inl q.2)) fun q => q H)
    obtain ⟨o, ho, hc, m, hd⟩ := pt
    exact .tup ho hc hd (nis_all I t rv)
theorem nis_all (I : Inv X pins σ H s) : ∀ {k : List NestedKey} {v : List V} {u : List Value}, KeyRs X.K M H k v → Vals v u → NestedAll s.heap k u
  | [], _, u, h, r => by
    cases h
    cases r
    exact .nil
  | k :: ks, _, u, ⟨v, vs, e, h, t⟩, r => by
    subst e
    cases r with
    | cons r1 r2 => exact .cons (nis_of I h r1) (nis_all I t r2)
end
theorem pin_ok {P : Program} {w : World} {H : Hp} {h : Heap} {a : Addr} {o : Obj} (e : h.get? a = some o) (hs : (a == sysModules) = false) : ObjOk P w H h a (.ext (pinO a o)) :=
  ⟨⟨e, hs⟩, ⟨o, e⟩, fun h1 h2 z k => ⟨k o z.1, z.2⟩⟩
/-- the entries of a dict that stands -/
theorem nd_of (I : Inv X pins σ H s) {a : Addr} {xs : List (NestedKey × Addr × Value)} (h : NdO X.prog X.w H a xs) (hk : ∀ x ∈ xs, KeyR X.K M H x.1 (.ref x.2.1) ∧ x.1.depth ≤ 8) : (a == sysModules) = false ∧ s.heap.DictOfH (nestedKind X.prog X.w) a xs := by
  obtain ⟨o, e, ex, ⟨es, ep, hd, he⟩, nd⟩ := h
  obtain ⟨⟨ho, hs⟩, _⟩ := (show ObjOk X.prog X.w H s.heap a (.ext (pinO a o)) from I.hok a _ e)
  exact ⟨hs, o, es, ep, ho, ex, hd, he, fun x m => ⟨nis_of I (hk x m).1 rfl, (hk x m).2⟩, nd⟩
/-- d[k] = v -/
theorem d_dictSetN {E : Value → Shared → Prop} {D b : Addr} {xs : List (NestedKey × Addr × Value)} {k : NestedKey} {r : Value} {Q : Unit → Shared → Prop} (hu : X.A.units + 64 < cLine) (I : Inv X pins σ H s) (hD : NdO X.prog X.w H D xs)
    (hk : ∀ x ∈ xs, KeyR X.K M H x.1 (.ref x.2.1) ∧ x.1.depth ≤ 8) (hz : xs.length < sizeLine) (kb : KeyR X.K M H k (.ref b)) (hdp : k.depth ≤ 8)
    (h : ∀ o s', NdB X.prog X.w o (storedH xs k b r) → Inv X pins σ (upd H D (.ext (pinO D o))) s' → Q () s') : wpAny (model X.prog X.w) X.A (dictSet D (.ref b) r) Q E s := by
  obtain ⟨hs, dd⟩ := nd_of I hD hk
  refine wpAny_dictSet_heap (hsz := Nat.le_of_lt hz) (show X.A.units + 8 < cLine by omega) (show (nestedKind X.prog X.w).is s.heap k b from ⟨nis_of I kb rfl, hdp⟩) dd fun h' dd' same => ?_
  obtain ⟨q, es, ep, hq, h2, h3, h4, -, h5⟩ := dd'
  obtain ⟨o, e, _⟩ := hD
  exact h q _ ⟨h2, ⟨es, ep, h3, h4⟩, h5⟩ (d_write I (by rw [e]; trivial) same ⟨q, hq⟩ (pin_ok hq hs))
end
section
variable {K : PySem.W.Frag} {M : Addr → Prop} {H : Hp}
theorem RepN.length : ∀ {l : List (NestedKey × D)} {xs : List (NestedKey × Addr × Value)}, RepN K M H l xs → xs.length = l.length
  | [], _, h => by rw [show _ = [] from h]; rfl
  | (k, d) :: ds, _, ⟨q, v, u, r, e, _, _, _, _, t⟩ => by rw [e, List.length_cons, List.length_cons, RepN.length t]
theorem RepN.keys : ∀ {l : List (NestedKey × D)} {xs : List (NestedKey × Addr × Value)}, RepN K M H l xs → ∀ x ∈ xs, KeyR K M H x.1 (.ref x.2.1) ∧ x.1.depth ≤ 8
  | [], _, h, x, m => by rw [show _ = [] from h] at m; nomatch m
  | (k, d) :: ds, _, ⟨q, v, u, r, e, h1, h2, _, _, t⟩, x, m => by
    rw [e] at m
    rcases List.mem_cons.mp m with rfl | m
    · exact ⟨h1, h2⟩
    · exact RepN.keys t x m
theorem RepN.fst : ∀ {l : List (NestedKey × D)} {xs : List (NestedKey × Addr × Value)}, RepN K M H l xs → xs.map (·.1) = l.map (·.1)
  | [], _, h => by rw [show _ = [] from h]; rfl
  | (k, d) :: ds, _, ⟨q, v, u, r, e, _, _, _, _, t⟩ => by rw [e, List.map_cons, List.map_cons, RepN.fst t]
theorem RepN.upd {k : NestedKey} {d : D} {v : V} {u : Value} (hv : RelV v u) (hd : Rep K M H d v) : ∀ {l : List (NestedKey × D)} {xs : List (NestedKey × Addr × Value)}, RepN K M H l xs → RepN K M H (l.map fun kv => if kv.1 = k then (kv.1, d) else kv) (xs.map (putAt k u))
  | [], _, h => by rw [show _ = [] from h]; exact rfl
  | (k0, d0) :: ds, _, ⟨q, v0, u0, r, e, h1, h2, h3, h4, t⟩ => by
    subst e
    rw [List.map_cons, List.map_cons]
    unfold putAt
    by_cases c : k0 = k
    · simp only [c, if_true]
      exact ⟨q, v, u, _, rfl, c ▸ h1, c ▸ h2, hv, hd, RepN.upd hv hd t⟩
    · simp only [c, if_false]
      exact ⟨q, v0, u0, _, rfl, h1, h2, h3, h4, RepN.upd hv hd t⟩
theorem RepN.snoc {k : NestedKey} {d : D} {v : V} {u : Value} {b : Addr} (kb : KeyR K M H k (.ref b)) (hp : k.depth ≤ 8) (hv : RelV v u) (hd : Rep K M H d v) : ∀ {l : List (NestedKey × D)} {xs : List (NestedKey × Addr × Value)}, RepN K M H l xs → RepN K M H (l ++ [(k, d)]) (xs ++ [(k, b, u)])
  | [], _, h => by rw [show _ = [] from h]; exact ⟨b, v, u, [], rfl, kb, hp, hv, hd, rfl⟩
  | (k0, d0) :: ds, _, ⟨q, v0, u0, r, e, h1, h2, h3, h4, t⟩ => by
    subst e
    exact ⟨q, v0, u0, _, rfl, h1, h2, h3, h4, RepN.snoc kb hp hv hd t⟩
theorem RepN.put {k : NestedKey} {d : D} {v : V} {u : Value} {b : Addr} (kb : KeyR K M H k (.ref b)) (hp : k.depth ≤ 8) (hv : RelV v u) (hd : Rep K M H d v) {l : List (NestedKey × D)} {xs : List (NestedKey × Addr × Value)} (h : RepN K M H l xs) : RepN K M H (putD l k d) (storedH xs k b u) := by
  have iff : (l.any fun kv => decide (kv.1 = k)) = true ↔ (atKey xs k).isSome = true := by
    have e1 : (l.any fun kv => decide (kv.1 = k)) = true ↔ k ∈ l.map (·.1) := by
      rw [List.any_eq_true]
      constructor
      · rintro ⟨x, hx, e⟩
        exact List.mem_map.mpr ⟨x, hx, of_decide_eq_true e⟩
      · intro m
        obtain ⟨x, hx, e⟩ := List.mem_map.mp m
        exact ⟨x, hx, decide_eq_true e⟩
    have e2 : (atKey xs k).isSome = true ↔ k ∈ xs.map (·.1) := by
      unfold atKey
      rw [Option.isSome_map, List.find?_isSome]
      constructor
      · rintro ⟨x, hx, e⟩
        exact List.mem_map.mpr ⟨x, hx, of_decide_eq_true e⟩
      · intro m
        obtain ⟨x, hx, e⟩ := List.mem_map.mp m
        exact ⟨x, hx, decide_eq_true e⟩
    rw [e1, e2, h.fst]
  unfold putD
  cases c : atKey xs k with
  | none =>
    have n : ¬ (l.any fun kv => decide (kv.1 = k)) = true := fun z => by
      have q := iff.mp z
      rw [c] at q
      cases q
    rw [if_neg n, storedH_new c]
    exact RepN.snoc kb hp hv hd h
  | some p =>
    rw [if_pos (iff.mpr (by rw [c]; rfl)), storedH_old c]
    exact RepN.upd hv hd h
end
section
open DLC
variable {X : Cx} {W : WX} {Γ : List Sl} {Φ : D → List Sl → Prop} {Ψ : Ex} {pos : Pos} {scope : Scope} {own : List (Str × Nat)}
/-- the emission of an entry -/
def emN (X : Cx) (scope : Scope) (kx vx : Expr) : Em (List (NestedKey × D)) := fun Γ acc F => ∀ Y, IsBlk X scope Y → EV Y WF Γ kx (fun dk Γ1 => EV Y WF Γ1 vx (fun dv Γ2 => ∃ l, dk = keyT (.tup l) ∧ (NestedKey.tup l).depth ≤ 8 ∧ acc.length < 10000000 ∧ F Γ2 (putD acc (.tup l) dv)) exF) exF
def emNh (X : Cx) (scope : Scope) (kx vx : Expr) (D₀ : Addr) : TEm := fun σ H G => ∀ Y, IsBlk X scope Y → we Y kx σ H fun y H1 => we Y vx σ H1 fun z H2 => ∃ (xs : List (NestedKey × Addr × Value)) (k : NestedKey) (b : Addr), NdO X.prog X.w H2 D₀ xs ∧ y = .ref b ∧ (∀ x ∈ xs, KeyR X.K (fun _ => False) H2 x.1 (.ref x.2.1) ∧ x.1.depth ≤ 8) ∧
  xs.length < sizeLine ∧ KeyR X.K (fun _ => False) H2 k (.ref b) ∧ k.depth ≤ 8 ∧ ∀ u o, RelV z u → NdB X.prog X.w o (storedH xs k b u) → G (upd H2 D₀ (.ext (pinO D₀ o)))
theorem emOk_dictN {kx vx : Expr} {D₀ : Addr} : EmOk X (D.nd X.prog X.w) D₀ (emN X scope kx vx) (emNh X scope kx vx D₀) := by
  intro Γ acc F E M σ H F' h g k Y hY
  refine (h Y hY).run (subE M Γ H) M σ H _ (by rw [blkK hY]; exact g.at_.down) exd_false fun dk Γ1 y H1 p1 B1 k1 r1 => ?_
  rw [blkK hY] at B1 r1
  have g1 := g.step B1
  refine p1.run (subE M Γ1 H1) M σ H1 _ (by rw [blkK hY]; exact g1.at_.down) exd_false fun dv Γ2 z H2 p2 B2 k2 r2 => ?_
  rw [blkK hY] at B2 r2
  have g2 := g1.step B2
  obtain ⟨l, rfl, hp, hl, p3⟩ := p2
  have kr := keyR_of (r1.mv k2.mv)
  obtain ⟨b, us, rfl, _⟩ := id kr
  obtain ⟨xs, hN, rr⟩ := g2.obj
  refine ⟨xs, .tup l, b, hN, rfl, fun x m => ⟨((rr.keys x m).1).mv mv_free, (rr.keys x m).2⟩, by rw [rr.length, sizeLine_eq]; omega, kr.mv mv_free, hp, fun u o ru hb => ?_⟩
  exact k Γ2 _ _ p3 (g2.poke ⟨_, ⟨o, upd_same, hb⟩, RepN.mv g2.mvPoke (RepN.put kr hp ru r2 rr)⟩)
def trNd (X : Cx) (scope : Scope) (own : List (Str × Nat)) (kx vx tg iter : Expr) (ifs : List Expr) (cs : List Ct) : TE := fun σ' H' Q' =>
  wi X tg iter σ' H' fun J H1 => ∀ D, H1 D = none → tLoop (tCl (emNh X scope kx vx D) (cs.map (toCl X scope))) (toCl X scope ⟨tg, iter, ifs, own.map (·.2)⟩) J σ' (upd H1 D (.ext (pinO D { cls := .type "dict", data := .dict #[] }))) (fun H2 => Q' (.ref D) H2)
theorem nd_run {kx vx tg iter : Expr} {ifs : List Expr} {gs : List Comprehension} {cs : List Ct} (hu : X.A.units + 64 < cLine) (c : CtxOk X W) (ok : LcOk X scope own tg iter ifs gs cs) {pins : List (Addr × Obj)} {s : Shared} {σ : L2.St} {H : Hp} {Q : VK} {pos' : Pos} {use : Option (Value → Sem Unit)} {Qf : Value → Shared → Prop}
    (I : Inv X pins σ H s) (hq : trNd X scope own kx vx tg iter ifs cs σ H Q)
    (hRR : ∀ O C t m G, Inv X pins σ G t → Q (.ref O) G → t.heap.Ns C m → FpOk X pins G C → compPost (model X.prog X.w) X.A X.xe use Qf (.ref O) C (.ok .next) t) :
    wpAny (model X.prog X.w) X.A (comprehension (.DictComp kx vx (⟨tg, iter, ifs, 0⟩ :: gs) scope pos) scope X.env pos' (newDict) false (eval iter X.env) use) Qf X.xe s := by
  refine comp_core (mk := .DictComp kx vx (⟨tg, iter, ifs, 0⟩ :: gs) scope pos) (c := toCl X scope ⟨tg, iter, ifs, own.map (·.2)⟩) (cs := cs.map (toCl X scope)) (em := fun D => emNh X scope kx vx D) (T := "dict") (dat := .dict #[]) (u0 := fun D => .ext (pinO D { cls := .type "dict", data := .dict #[] })) c.calm c.nd I rfl (fun _ _ _ _ z => nomatch z) ok.blk pi_wi ok.hs rfl rfl rfl rfl ok.ch.1 ?_ ?_ ?_ hq hRR
  · intro Y D hY
    have huY : Y.A.units + 64 < cLine := by
      obtain ⟨_, _, _, _, _, rfl⟩ := hY
      exact hu
    have hP : Y.prog = X.prog ∧ Y.w = X.w := by
      obtain ⟨_, _, _, _, _, rfl⟩ := hY
      exact ⟨rfl, rfl⟩
    refine ⟨clOk hY (ok.hfs Y hY _ List.mem_cons_self), after_dict (blkXe hY) (blkCalm c.calm hY) (fun pins' s σ2 H G N R I h hN => ?_) _ 0 ok.ch.2 (fun c' hc' => ?_) (fun j c' hc' => ?_) ?_⟩
    · refine thnY (blkXe hY) (pe_we.run pins' s σ2 H _ I (h Y hY)) fun u1 s1 h1 => ?_
      obtain ⟨y, H1, I1, r1, q1⟩ := h1
      refine thnY (blkXe hY) (pe_we.run pins' s1 σ2 H1 _ I1 q1) fun u2 s2 h2 => ?_
      obtain ⟨z, H2, I2, r2, xs, k, b, hN2, rfl, hk, hl, kb, hp, q⟩ := h2
      cases (show u1 = Value.ref b from r1)
      rw [← hP.1, ← hP.2] at hN2
      refine d_dictSetN huY I2 hN2 (fun x m => by rw [blkK hY]; exact hk x m) hl (by rw [blkK hY]; exact kb) hp fun o s' hb I' => hN s' _ I' (q u2 o r2 ?_)
      rw [← hP.1, ← hP.2]; exact hb
    · obtain ⟨c0, m0, rfl⟩ := List.mem_map.mp hc'
      exact clOk hY (ok.hfs Y hY _ (List.mem_cons_of_mem _ m0))
    · rw [List.getElem?_map] at hc'
      cases e : cs[j]? with
      | none => rw [e] at hc'; cases hc'
      | some c0 =>
        rw [e] at hc'
        cases hc'
        rw [ok.gs_, show 0 + 1 + j = j + 1 by omega, List.getElem?_cons_succ, List.getElem?_map, e]
        rfl
    · rw [ok.gs_, List.length_cons, List.length_map, List.length_map]; omega
  · intro s2 H2 I2
    have hs : (s2.heap.objs.size == sysModules) = false := beq_eq_false_iff_ne.mpr (Ne.symm (Nat.ne_of_lt I2.big))
    exact I2.laid (t' := s2.toks) (fun b o e => Heap.get?_push_of_some _ e) (Nat.le_refl _) (pin_ok (Heap.get?_push_size _ rfl) hs)
  · intro M A E s2 R hR
    exact wpAny_newObj_type hR
theorem pe_trNd {kx vx tg iter : Expr} {ifs : List Expr} {gs : List Comprehension} {cs : List Ct} (hu : X.A.units + 64 < cLine) (c : CtxOk X W) (ok : LcOk X scope own tg iter ifs gs cs) : PE X (.DictComp kx vx (⟨tg, iter, ifs, 0⟩ :: gs) scope pos) (trNd X scope own kx vx tg iter ifs cs) := by
  refine ⟨fun pins s σ H Q I hq => ?_⟩
  rw [arm_eval_DictComp]
  refine nd_run hu c ok I hq fun D C s' m H' I' hq' hn f => ⟨m, hn, fun h'' sb => ?_⟩
  obtain ⟨f0, f1, f2, f3, f4, f5⟩ := f
  exact ⟨.ref D, H', I'.turned (t' := s'.toks) (fun b o hb e => (sb.2 b hb).trans e) f0 f1 f3 f4 f5, rfl, hq'⟩
/-- {k: v for ..}, the keys tuples of numbers, texts, tuples -/
theorem ef_nd {kx vx tg iter : Expr} {ifs : List Expr} {gs : List Comprehension} (hu : X.A.units + 64 < cLine) (c : CtxOk X W) (own : List (Str × Nat)) (cs : List Ct) (ok : LcOk X scope own tg iter ifs gs cs)
    (h : EI X W Γ tg iter (fun ds Γ1 => CD.CLp X scope (CD X scope (emN X scope kx vx) cs) ⟨tg, iter, ifs, own.map (·.2)⟩ ds Γ1 [] (fun Γ2 acc => Φ (.nd X.prog X.w acc) (wipeG Γ2 (own.map (·.2))))) Ψ) :
    EF X W Γ (.DictComp kx vx (⟨tg, iter, ifs, 0⟩ :: gs) scope pos) Φ Ψ := by
  refine ⟨fun E M σ H Q A xx q => ⟨_, pe_trNd hu c ok, ?_⟩⟩
  refine h.run (subE M Γ H) M σ H _ A.down (fun C d fs vs G M' H' hp B e4 r4 n4 z4 => xx C d fs vs G M' H' hp (A.up B) e4 r4 n4 (A.fresh0 z4)) fun ds Γ1 J H1 p1 A1 k1 it D hD => ?_
  have g : Gr H1 (upd H1 D (.ext (pinO D { cls := .type "dict", data := .dict #[] }))) := Gr.upd hD
  have gw : Gw X (DL.D.nd X.prog X.w) D (subE M Γ H) (Mp M D) Γ1 σ (upd H1 D (.ext (pinO D { cls := .type "dict", data := .dict #[] }))) [] :=
    ⟨A1.alloc hD g (Ob.upd fun _ z => nomatch z), .inr rfl, .inr (A1.fresh0 hD), ⟨[], ⟨_, upd_same, ⟨rfl, rfl, rfl⟩, ⟨#[], 0, rfl, rfl⟩, List.nodup_nil⟩, rfl⟩, own_ne A1 hD⟩
  refine loop_run (V1 := heads (cs.map (toCl X scope))) ok.ch.1 (fun Γ acc F E M σ H F' h g k => cd_run emOk_dictN cs ok.ch.2 Γ acc F E M σ H F' h g k) p1 gw (it.grow hD) fun Γ' acc' σ' H' p gq ag l => ?_
  have gq2 := gq.forget (σ' := σ) (V := own.map (·.2)) l.symm (fun j hj => (ag j hj).symm)
  exact q _ _ D H' p (A1.fresh hD) (A.up gq2.at_) (A.kpDown gq2.at_) gq2.obj gq2.no
end
end DL
end

section
set_option maxRecDepth 100000
set_option maxHeartbeats 1000000
namespace DL
open PySem PySem.Spec L2 DLC
/-! ## clauses of a comprehension, one within another -/
section
variable {X : Cx} {scope : Scope} {own : List (Str × Nat)} {tg iter tg2 iter2 tg3 iter3 tg4 iter4 : Expr} {ifs ifs2 ifs3 ifs4 : List Expr} {V2 V3 V4 : List Nat}
theorem lcOkN (cs : List Ct) (blk : BlkOk X.N X.env.scope scope own) (hs : ∀ x, foldedSetIterable iter X.env x = pure x) (ch : chain ((⟨tg, iter, ifs, own.map (·.2)⟩ :: cs).map (toCl X scope)))
    (hf : ∀ (s : Shared) (H : Hp) (C : Addr) (cl : List (Str × Addr)) (fp : List Addr), ∀ c ∈ (⟨tg, iter, ifs, own.map (·.2)⟩ : Ct) :: cs, ∀ x : Value, foldedSetIterable c.iter (X.blk s H scope (compEnvC scope cl C X.env) fp).env x = pure x) :
    LcOk X scope own tg iter ifs (cs.map fun c => ⟨c.tg, c.iter, c.ifs, 0⟩) cs :=
  ⟨blk, rfl, ch, hs, fun Y ⟨s, H, C, cl, fp, e⟩ c hc x => by rw [e]; exact hf s H C cl fp c hc x⟩
abbrev NoSet (X : Cx) (scope : Scope) (it : Expr) : Prop := ∀ (s : Shared) (H : Hp) (C : Addr) (cl : List (Str × Addr)) (fp : List Addr) (x : Value), foldedSetIterable it (X.blk s H scope (compEnvC scope cl C X.env) fp).env x = pure x
theorem lcOk2c (blk : BlkOk X.N X.env.scope scope own) (hs : ∀ x, foldedSetIterable iter X.env x = pure x) (h1 : NoSet X scope iter) (h2 : NoSet X scope iter2) (hV : ∀ i ∈ V2, i ∈ own.map (·.2)) :
    LcOk X scope own tg iter ifs [⟨tg2, iter2, ifs2, 0⟩] [⟨tg2, iter2, ifs2, V2⟩] :=
  lcOkN [⟨tg2, iter2, ifs2, V2⟩] blk hs ⟨hV, (fun _ h => nomatch h), trivial⟩ fun s H C cl fp c hc x => by
    rcases List.mem_cons.mp hc with rfl | hc
    · exact h1 s H C cl fp x
    · obtain rfl := List.mem_singleton.mp hc
      exact h2 s H C cl fp x
theorem lcOk4c (blk : BlkOk X.N X.env.scope scope own) (hs : ∀ x, foldedSetIterable iter X.env x = pure x) (h1 : NoSet X scope iter) (h2 : NoSet X scope iter2) (h3 : NoSet X scope iter3) (h4 : NoSet X scope iter4) (hV : ∀ i ∈ V2, i ∈ own.map (·.2)) (hV3 : ∀ i ∈ V3, i ∈ V2) (hV4 : ∀ i ∈ V4, i ∈ V3) :
    LcOk X scope own tg iter ifs [⟨tg2, iter2, ifs2, 0⟩, ⟨tg3, iter3, ifs3, 0⟩, ⟨tg4, iter4, ifs4, 0⟩] [⟨tg2, iter2, ifs2, V2⟩, ⟨tg3, iter3, ifs3, V3⟩, ⟨tg4, iter4, ifs4, V4⟩] :=
  lcOkN [⟨tg2, iter2, ifs2, V2⟩, ⟨tg3, iter3, ifs3, V3⟩, ⟨tg4, iter4, ifs4, V4⟩] blk hs ⟨hV, hV3, hV4, (fun _ h => nomatch h), trivial⟩ fun s H C cl fp c hc x => by
    rcases List.mem_cons.mp hc with rfl | hc
    · exact h1 s H C cl fp x
    rcases List.mem_cons.mp hc with rfl | hc
    · exact h2 s H C cl fp x
    rcases List.mem_cons.mp hc with rfl | hc
    · exact h3 s H C cl fp x
    obtain rfl := List.mem_singleton.mp hc
    exact h4 s H C cl fp x
/-- a clause without a test, whose turns only put something behind what is there -/
theorem clp_app {α δ : Type} {body : Em (List δ)} {V : List Nat} (enc : α → D) (f : α → List δ) (as : List α) {Γ1 : List Sl} {F : List Sl → List δ → Prop} (acc0 : List δ) (G2 : α → List Sl)
    (hg : ∀ Y, IsBlk X scope Y → ∀ a ∈ as, ∀ Φ : List Sl → Prop, Φ (G2 a) → GV Y tg V (enc a) (wipeG Γ1 V) Φ)
    (hw : ∀ a ∈ as, wipeG (G2 a) V = wipeG Γ1 V)
    (he : ∀ i a, as[i]? = some a → ∀ F' : List Sl → List δ → Prop, F' (G2 a) (acc0 ++ (as.take i).flatMap f ++ f a) → body (G2 a) (acc0 ++ (as.take i).flatMap f) F')
    (h : F (wipeG Γ1 V) (acc0 ++ as.flatMap f)) : CD.CLp X scope body ⟨tg, iter, [], V⟩ (as.map enc) Γ1 acc0 F := by
  refine ⟨fun i G acc => G = wipeG Γ1 V ∧ acc = acc0 ++ (as.take i).flatMap f, ⟨rfl, by simp⟩, fun i d G acc hd hT Y hY => ?_, fun G acc hT => ?_⟩
  · obtain ⟨rfl, rfl⟩ := hT
    rw [List.getElem?_map] at hd
    cases e : as[i]? with
    | none => rw [e] at hd; cases hd
    | some a =>
      rw [e] at hd
      cases hd
      have ma := List.mem_of_getElem? e
      refine hg Y hY a ma _ ?_
      intro Y2 hY2
      refine ts_nil ⟨fun _ => he i a e _ ⟨hw a ma, ?_⟩, fun z => nomatch z⟩
      rw [List.take_add_one, e, List.flatMap_append, List.append_assoc]
      simp
  · obtain ⟨rfl, rfl⟩ := hT
    rw [List.length_map, List.take_of_length_le (Nat.le_refl _)]
    exact h
/-- a dict's entry with a new key is put behind what is there -/
theorem putD_app {κ : Type} [DecidableEq κ] {acc : List (κ × D)} {k : κ} {d : D} (h : k ∉ acc.map (·.1)) : putD acc k d = acc ++ [(k, d)] := by
  unfold putD
  rw [if_neg]
  intro q
  obtain ⟨x, hx, e⟩ := List.any_eq_true.mp q
  exact h (of_decide_eq_true e ▸ List.mem_map.mpr ⟨x, hx, rfl⟩)
end
/-! ## looked up in a dict whose keys are tuples -/
section
variable {X : Cx} {W : WX} {Γ : List Sl} {Φ : D → List Sl → Prop} {Ψ : Ex} {pos : Pos}
theorem getT_none {K : PySem.W.Frag} {M : Addr → Prop} {H : Hp} {k : List Key} : ∀ {l : List (List Key × D)} {vs : List (List Key × V)}, RepT K M H l vs → getD' l k = none → valV vs k = none
  | [], _, h, _ => by rw [show _ = ([] : List (List Key × V)) from h]; rfl
  | (k0, d0) :: ds, _, ⟨v, r, e, h, t⟩, q => by
    subst e
    unfold getD' valV at *
    rw [List.find?_cons] at q ⊢
    by_cases c : k0 = k
    · simp only [c, decide_true] at q
      cases q
    · simp only [c, decide_false] at q ⊢
      exact getT_none t q
theorem ev_dixT {a b : Expr} (hu : X.A.units + 64 < cLine) (h : EV X W Γ a (fun d Γ1 => EV X W Γ1 b (fun db Γ2 => ∃ l k z, d = .dt l ∧ db = .ktup k ∧ getD' l k = some z ∧ Φ z Γ2) Ψ) Ψ) (hs : NoSl b := by intro _ _; rfl) : EV X W Γ (.Subscript a b pos) Φ Ψ := by
  refine ⟨fun E M σ H Q A x q => ⟨_, pe_dget (by omega) pe_we pe_we hs, ?_⟩⟩
  refine h.run E M σ H _ A x fun d Γ1 v H1 p1 A1 k1 r1 => ?_
  refine p1.run E M σ H1 _ A1 x fun db Γ2 vb H2 p2 A2 k2 r2 => ?_
  obtain ⟨l, k, z, rfl, rfl, g, p3⟩ := p2
  obtain ⟨c, vs, rfl, _, ho, rr⟩ := r1.mv k2.mv
  obtain ⟨b', rfl, _, eb⟩ := r2
  obtain ⟨u, hu', ru⟩ := getT_some rr g
  exact ⟨c, u, rfl, .inr ⟨vs, k, b', ho, rfl, eb, hu'.symm⟩, q z Γ2 u H2 p3 A2 (k1.trans k2) ru⟩
/-- d.get(k, x) -/
theorem ev_dget2T {o e f : Expr} {apos : Pos} (hu : X.A.units + 64 < cLine) (h : EV X W Γ o (fun d Γ1 => ∃ l, d = .dt l ∧ EV X W Γ1 e (fun de Γ2 => ∃ k, de = .ktup k ∧ EV X W Γ2 f (fun df Γ3 => Φ ((getD' l k).getD df) Γ3) Ψ) Ψ) Ψ)
    (m : M2 X o "get" apos e f pos := by exact ⟨rfl, rfl, rfl, rfl⟩) : EV X W Γ (.Call (.Attribute o "get" apos) [e, f] [] pos) Φ Ψ := by
  refine ⟨fun E M σ H Q A x q => ⟨_, pe_dget2 (by omega) pe_we pe_we pe_we m, ?_⟩⟩
  refine h.run E M σ H _ A x fun d Γ1 v H1 p1 A1 k1 r1 => ?_
  obtain ⟨l, rfl, p1⟩ := p1
  obtain ⟨c, vs0, rfl, nc, ho, rr0⟩ := id r1
  refine ⟨c, rfl, .inr ⟨vs0, ho⟩, ?_⟩
  refine p1.run E M σ H1 _ A1 x fun de Γ2 ve H2 p2 A2 k2 r2 => ?_
  obtain ⟨k, rfl, p2⟩ := p2
  refine p2.run E M σ H2 _ A2 x fun df Γ3 vf H3 p3 A3 k3 r3 => ?_
  obtain ⟨c', vs, e', _, ho3, rr⟩ := r1.mv (k2.trans k3).mv
  cases e'
  obtain ⟨b, rfl, _, eb⟩ := r2.mv k3.mv
  cases g : getD' l k with
  | some z =>
    obtain ⟨u, hu', ru⟩ := getT_some rr g
    rw [g] at p3
    exact ⟨some u, .inr ⟨vs, k, b, ho3, rfl, eb, hu'.symm⟩, q z Γ3 u H3 p3 A3 (k1.trans (k2.trans k3)) ru⟩
  | none =>
    rw [g] at p3
    exact ⟨none, .inr ⟨vs, k, b, ho3, rfl, eb, (getT_none rr g).symm⟩, q df Γ3 vf H3 p3 A3 (k1.trans (k2.trans k3)) r3⟩
end
end DL
namespace DL
open PySem PySem.Spec L2 DLC
section
variable {X : Cx} {scope : Scope} {tg iter kx vx : Expr} {V : List Nat}
theorem fl_len {α β : Type} {f : α → β} {l : List α} : (l.flatMap fun x => [f x]).length = l.length := by
  induction l with
  | nil => rfl
  | cons a l ih => rw [List.flatMap_cons, List.length_append, ih, List.length_cons, List.length_cons, List.length_nil]; omega
theorem new_key {α κ β : Type} {kf : α → κ} {vf : α → β} {as : List α} {i : Nat} {a : α} (hi : as[i]? = some a) (nd : (as.map kf).Nodup) : kf a ∉ ((([] : List (κ × β)) ++ (as.take i).flatMap fun x => [(kf x, vf x)]).map (·.1)) := by
  intro m
  obtain ⟨x, hx, e⟩ := List.mem_map.mp m
  rw [List.nil_append, List.mem_flatMap] at hx
  obtain ⟨b, hb, hx⟩ := hx
  rw [List.mem_singleton.mp hx] at e
  obtain ⟨n, hn, e3⟩ := List.getElem_of_mem hb
  rw [List.length_take] at hn
  rw [List.getElem_take] at e3
  have e5 : as[n]? = some b := by rw [← e3]; exact List.getElem?_eq_getElem _
  have e4 : (as.map kf)[n]? = (as.map kf)[i]? := by
    rw [List.getElem?_map, List.getElem?_map, hi, e5]
    exact congrArg some e
  have := (List.getElem?_inj (i := n) (j := i) (by rw [List.length_map]; omega) nd).mp e4
  omega
/-- {k: v for x in as}, no key twice: keys numbers or texts -/
theorem clp_dk {α : Type} (enc : α → D) (kf : α → Key) (vf : α → D) (as : List α) {Γ1 : List Sl} {F : List Sl → List (Key × D) → Prop} (G2 : α → List Sl) (hl : as.length < 10000000) (nd : (as.map kf).Nodup)
    (hg : ∀ Y, IsBlk X scope Y → ∀ a ∈ as, ∀ Φ : List Sl → Prop, Φ (G2 a) → GV Y tg V (enc a) (wipeG Γ1 V) Φ) (hw : ∀ a ∈ as, wipeG (G2 a) V = wipeG Γ1 V)
    (hk : ∀ Y, IsBlk X scope Y → ∀ a ∈ as, ∀ Φ : D → List Sl → Prop, Φ (keyD (kf a)) (G2 a) → EV Y WF (G2 a) kx Φ exF) (hv : ∀ Y, IsBlk X scope Y → ∀ a ∈ as, ∀ Φ : D → List Sl → Prop, Φ (vf a) (G2 a) → EV Y WF (G2 a) vx Φ exF)
    (h : F (wipeG Γ1 V) (as.map fun x => (kf x, vf x))) : CD.CLp X scope (CD X scope (emK X scope kx vx) []) ⟨tg, iter, [], V⟩ (as.map enc) Γ1 [] F := by
  refine clp_app (f := fun x => [(kf x, vf x)]) enc as [] G2 hg hw (fun i a hi F' hF' => ?_) (by rw [List.nil_append, ← List.map_eq_flatMap]; exact h)
  have ma := List.mem_of_getElem? hi
  intro Y hY
  refine hk Y hY a ma _ (hv Y hY a ma _ ⟨kf a, rfl, ?_, ?_⟩)
  · rw [List.nil_append, fl_len, List.length_take]; omega
  · rw [putD_app (new_key hi nd)]; exact hF'
/-- .. tuples -/
theorem clp_dt {α : Type} (enc : α → D) (kf : α → List Key) (vf : α → D) (as : List α) {Γ1 : List Sl} {F : List Sl → List (List Key × D) → Prop} (G2 : α → List Sl) (hl : as.length < 10000000) (nd : (as.map kf).Nodup)
    (hg : ∀ Y, IsBlk X scope Y → ∀ a ∈ as, ∀ Φ : List Sl → Prop, Φ (G2 a) → GV Y tg V (enc a) (wipeG Γ1 V) Φ) (hw : ∀ a ∈ as, wipeG (G2 a) V = wipeG Γ1 V)
    (hk : ∀ Y, IsBlk X scope Y → ∀ a ∈ as, ∀ Φ : D → List Sl → Prop, Φ (.ktup (kf a)) (G2 a) → EV Y WF (G2 a) kx Φ exF) (hv : ∀ Y, IsBlk X scope Y → ∀ a ∈ as, ∀ Φ : D → List Sl → Prop, Φ (vf a) (G2 a) → EV Y WF (G2 a) vx Φ exF)
    (h : F (wipeG Γ1 V) (as.map fun x => (kf x, vf x))) : CD.CLp X scope (CD X scope (emT X scope kx vx) []) ⟨tg, iter, [], V⟩ (as.map enc) Γ1 [] F := by
  refine clp_app (f := fun x => [(kf x, vf x)]) enc as [] G2 hg hw (fun i a hi F' hF' => ?_) (by rw [List.nil_append, ← List.map_eq_flatMap]; exact h)
  have ma := List.mem_of_getElem? hi
  intro Y hY
  refine hk Y hY a ma _ (hv Y hY a ma _ ⟨kf a, rfl, ?_, ?_⟩)
  · rw [List.nil_append, fl_len, List.length_take]; omega
  · rw [putD_app (new_key hi nd)]; exact hF'
theorem stillN_all : ∀ {l : List (NestedKey × D)}, (∀ x ∈ l, Still x.2) → StillN l
  | [], _ => trivial
  | (k, d) :: r, h => ⟨h (k, d) List.mem_cons_self, stillN_all fun x m => h x (List.mem_cons_of_mem _ m)⟩
theorem stillK_map {α : Type} {kf : α → Key} {vf : α → D} {l : List α} (h : ∀ a ∈ l, Still (vf a)) : Still (.dk (l.map fun x => (kf x, vf x))) := stillK_all fun d m => by
  obtain ⟨a, ha, rfl⟩ := List.mem_map.mp m
  exact h a ha
theorem stillT_map {α : Type} {kf : α → List Key} {vf : α → D} {l : List α} (h : ∀ a ∈ l, Still (vf a)) : Still (.dt (l.map fun x => (kf x, vf x))) := stillT_all fun d m => by
  obtain ⟨a, ha, rfl⟩ := List.mem_map.mp m
  exact h a ha
end
end DL
end

section
set_option maxRecDepth 100000
set_option maxHeartbeats 1000000
/-! the head: what is asked of the written part, one Bool; each def by its name -/
namespace DH
open PySem PySem.Spec PyProof.Rows L2
abbrev AlX : Type := Bool × List He.FnW
def obsX (fb : PySem.W.Frag → Bool) (fn : List He.DefD) (K : PySem.W.Frag) : AlX := (fb K && fn.all fun d => d.ok K, fn.map fun d => He.fnW K d.at_)
def valX (fn : List He.DefD) : AlX := (true, fn.map He.DefD.val)
def SaysX (fb : PySem.W.Frag → Bool) (fn : List He.DefD) (K : PySem.W.Frag) : Prop := obsX fb fn K = valX fn
def obsXG (n : Nat) (fb : PySem.W.Frag → Bool) (fn : List He.DefD) (g : Addr → Option Obj) : AlX := obsX fb fn (He.frG g (cStatics :: He.asD g n))
def hookX (n : Nat) (fb : PySem.W.Frag → Bool) (fn : List He.DefD) : PySem.W.Hook where
  α := AlX
  obs := fun s => obsXG n fb fn s.heap.get?
  val := fun _ => valX fn
  says := fun _ h => ∃ K : PySem.W.Frag, K.In h ∧ SaysX fb fn K
  of := fun _ _ e => ⟨_, He.frG_in, e⟩
  keeps := fun _ _ _ ⟨K, kin, c⟩ kp => ⟨K, PySem.W.Frag.In.keeps kin kp, c⟩
theorem obsXG_eq {n : Nat} {fb : PySem.W.Frag → Bool} {fn : List He.DefD} {g : Addr → Option Obj} {s : Shared} (h : ∀ a, g a = s.heap.get? a) : obsXG n fb fn g = (hookX n fb fn).obs s := by
  rw [show g = s.heap.get? from funext h]
  rfl
section
variable {fb : PySem.W.Frag → Bool} {fn : List He.DefD} {K : PySem.W.Frag}
theorem SaysX.more (c : SaysX fb fn K) : fb K = true := (Bool.and_eq_true_iff.mp (show (fb K && fn.all fun d => d.ok K) = true from congrArg (fun z : AlX => z.1) c)).1
theorem SaysX.dfn (c : SaysX fb fn K) (i : Nat) {d : He.DefD} (h : fn[i]? = some d := by rfl) : ∃ fd, FunD K d.name d.qual d.params d.body d.scope (d.dvs K) (d.kws K) (He.fAd K d.at_) fd := by
  have c2 := (Bool.and_eq_true_iff.mp (show (fb K && fn.all fun d => d.ok K) = true from congrArg (fun z : AlX => z.1) c)).2
  have e : (fn.map fun d => He.fnW K d.at_)[i]? = (fn.map He.DefD.val)[i]? := congrArg (fun z : AlX => z.2[i]?) c
  rw [List.getElem?_map, List.getElem?_map, h] at e
  exact He.DefD.funD (Option.some.inj e) (List.all_eq_true.mp c2 d (List.mem_of_getElem? h))
end
/-! ### Bools about own errors -/
def oexB (K : PySem.W.Frag) (C : Addr) : Bool := match K.lookup C with
  | some ⟨.type ty, _, .cls cd, sl⟩ => (match cd.mro, sl.toList with
    | .ref D :: bm, [_, _, _, _, some (.builtin n), _] => decide (ty = "type") && (decide (D = C) && (decide (n = "ValueError.__new__") && (cd.hasDict && (!cd.hasDel && PySem.HandSPX.refsVE bm))))
    | _, _ => false)
  | _ => false
theorem ba {p q : Bool} (both : (p && q) = true) : p = true ∧ q = true := Bool.and_eq_true_iff.mp both
theorem oexB_ok {K : PySem.W.Frag} {C : Addr} (h : oexB K C = true) : ∃ nm q N bs bm sn sub ab col dd k0 k1 k2 k3 k5, K.lookup C = some (excClassObj nm q C N bs bm true sn sub ab col dd k0 k1 k2 k3 k5 "ValueError.__new__") ∧ PySem.HandSPX.refsVE bm = true := by
  unfold oexB at h
  split at h
  · rename_i ty dd cd sl lk
    split at h
    · rename_i D bm k0 k1 k2 k3 n k5 em es
      obtain ⟨h1, h⟩ := ba h
      obtain ⟨h2, h⟩ := ba h
      obtain ⟨h3, h⟩ := ba h
      obtain ⟨h4, h⟩ := ba h
      obtain ⟨h5, h6⟩ := ba h
      obtain ⟨nm, bs, mro, ns, qn, hd, sn, subs, ab, col, del⟩ := cd
      have e1 := of_decide_eq_true h1
      have e2 := of_decide_eq_true h2
      have e3 := of_decide_eq_true h3
      have e5 : del = false := by simpa using h5
      have e4 : hd = true := h4
      have em : mro = .ref D :: bm := em
      subst e1 e2 e3 e4 e5 em
      have esl : sl = #[k0, k1, k2, k3, some (.builtin "ValueError.__new__"), k5] := by
        obtain ⟨l⟩ := sl
        exact congrArg Array.mk es
      subst esl
      exact ⟨nm, qn, ns, bs, bm, sn, subs, ab, col, dd, k0, k1, k2, k3, k5, lk, h6⟩
    · cases h
  · cases h
def isO (a b : Option (Option Value)) : Bool := decide (a = b)
/-- class C: an own error whose __init__ is a def of its own -/
def errB (K : PySem.W.Frag) (x f : Str) : Bool :=
  oexB K (He.ga K x) && (isO (PySem.W.findIn K (.ref (He.ga K x)) "__setattr__") (some (some (.builtin "object.__setattr__"))) && (decide (PySem.W.subIn K (.ref (He.ga K x)) (.type "BaseException") = some true) && (decide (PySem.W.typeIn K (.ref (He.ga K x)) = some (.type "type")) && (PySem.W.keepIn K (.ref (He.ga K x)) &&
  (xfB K (He.ga K x) && (isO (PySem.W.findIn K (.ref (He.ga K x)) f) (some none) && (isO (PySem.W.findIn K (.ref (He.ga K x)) "__init__") (some (some (.ref (He.ma K (He.ga K x) "__init__")))) && decide (PySem.W.typeIn K (.ref (He.ma K (He.ga K x) "__init__")) = some (.type "function")))))))))
theorem errB_ok {K : PySem.W.Frag} {x f : Str} (h : errB K x f = true) : OexC K (He.ga K x) ∧ XfC K (He.ga K x) ∧ PySem.W.findIn K (.ref (He.ga K x)) f = some none ∧
    PySem.W.findIn K (.ref (He.ga K x)) "__init__" = some (some (.ref (He.ma K (He.ga K x) "__init__"))) ∧ PySem.W.typeIn K (.ref (He.ma K (He.ga K x) "__init__")) = some (.type "function") := by
  obtain ⟨h1, h⟩ := ba h
  obtain ⟨h2, h⟩ := ba h
  obtain ⟨h3, h⟩ := ba h
  obtain ⟨h4, h⟩ := ba h
  obtain ⟨h5, h⟩ := ba h
  obtain ⟨h6, h⟩ := ba h
  obtain ⟨h7, h⟩ := ba h
  obtain ⟨h8, h9⟩ := ba h
  exact ⟨⟨oexB_ok h1, of_decide_eq_true h2, of_decide_eq_true h3, of_decide_eq_true h4, h5⟩, xfB_ok h6, of_decide_eq_true h7, of_decide_eq_true h8, of_decide_eq_true h9⟩
/-- class C, as an exception's class is asked of -/
def excB (K : PySem.W.Frag) (C : Addr) : Bool :=
  xfB K C && (isO (PySem.W.findIn K (.ref C) "__class__") (some (some (.builtin "object.__class__"))) && (isO (PySem.W.specialIn K (.builtin "object.__class__") "__get__") (some (some (.builtin "getset_descriptor.__get__"))) &&
  (decide (PySem.W.takesIn K (.builtin "object.__class__") = some true) && decide (PySem.W.mroIn K C (.type "object") = some true))))
theorem excB_ok {K : PySem.W.Frag} {C : Addr} (h : excB K C = true) : ExcC K C := by
  obtain ⟨h1, h⟩ := ba h
  obtain ⟨h2, h⟩ := ba h
  obtain ⟨h3, h⟩ := ba h
  obtain ⟨h4, h5⟩ := ba h
  obtain ⟨a, b, c, d⟩ := xfB_ok h1
  exact ⟨a, b, c, d, of_decide_eq_true h2, of_decide_eq_true h3, of_decide_eq_true h4, of_decide_eq_true h5⟩
/-- a number of a class -/
def cvalB (K : PySem.W.Frag) (C : Addr) (f : Str) (i : Int) : Bool := match PySem.W.findCls K (.ref C) (.type "type") f with
  | some (.val (.int j _)) => decide (j = i)
  | _ => false
theorem cvalB_ok {K : PySem.W.Frag} {C : Addr} {f : Str} {i : Int} (h : cvalB K C f i = true) : ∃ u, ClX.CVal K C (.type "type") f (.int i) u := by
  unfold cvalB at h
  split at h
  · rename_i j t e
    have ej := of_decide_eq_true h
    subst ej
    exact ⟨_, e, t, rfl⟩
  · cases h
def creadB (K : PySem.W.Frag) (C : Addr) : Bool := PySem.W.readsIn K C (.type "type") && isO (PySem.W.specialIn K (.ref C) "__getattribute__") (some (some (.builtin "type.__getattribute__")))
theorem creadB_ok {K : PySem.W.Frag} {C : Addr} (h : creadB K C = true) : ClX.CRead K C (.type "type") := ⟨(ba h).1, of_decide_eq_true (ba h).2⟩
def kitX (K : PySem.W.Frag) (C : Addr) (v : Value) (b : Bool) : Bool := decide (PySem.W.kitOne K (.ref C) v = some b)
theorem kitX_ok {K : PySem.W.Frag} {C : Addr} {v : Value} {b : Bool} (h : kitX K C v b = true) : PySem.W.kitOne K (.ref C) v = some b := of_decide_eq_true h
/-- the keyword default f of the def at p, if it is an object -/
def kwAt (p : Str × Option Str) (f : Str) (K : PySem.W.Frag) : Addr := match K.lookup (He.fAd K p) with
  | some ⟨_, _, .func fd, _⟩ => (match fd.kwdefaults with
    | .ref D => (match PySem.W.nsIn K D f with
      | some (some (.ref a)) => a
      | _ => 0)
    | _ => 0)
  | _ => 0
end DH
end

section
namespace K00
open PySem PySem.Spec L2 DL
def topS (i : Nat) : Stmt := PySem.Challenge.pw_tallgrass_k00_meadow_names.main.body.getD i (.Pass ⟨0, 0, 0, 0⟩)
def memS (c : Stmt) (i : Nat) : Stmt := match c with
  | .ClassDef _ _ _ b _ _ _ _ _ _ _ => b.getD i (.Pass ⟨0, 0, 0, 0⟩)
  | s => s
abbrev S__wall : Stmt := topS 0
abbrev C_GrassError : Stmt := topS 2
abbrev C_BadName : Stmt := topS 3
abbrev M_BadName___init__ : Stmt := memS C_BadName 0
abbrev C_Unknown : Stmt := topS 4
abbrev M_Unknown___init__ : Stmt := memS C_Unknown 0
abbrev C_Twice : Stmt := topS 5
abbrev M_Twice___init__ : Stmt := memS C_Twice 0
abbrev C_BadPath : Stmt := topS 6
abbrev M_BadPath___init__ : Stmt := memS C_BadPath 0
abbrev C_BadNumber : Stmt := topS 7
abbrev M_BadNumber___init__ : Stmt := memS C_BadNumber 0
abbrev C_TooMany : Stmt := topS 8
abbrev M_TooMany___init__ : Stmt := memS C_TooMany 0
abbrev S_only_digits : Stmt := topS 13
abbrev S_is_name : Stmt := topS 14
abbrev S_check_number : Stmt := topS 16
abbrev S_check_count : Stmt := topS 17
abbrev S_check_known : Stmt := topS 18
abbrev S_check_new : Stmt := topS 19
abbrev S_check_each : Stmt := topS 20
abbrev S_check_some : Stmt := topS 21
abbrev S_check_path_row : Stmt := topS 23
abbrev S_check_gate_row : Stmt := topS 24
abbrev S_check_sign_row : Stmt := topS 25
abbrev S_checked_names : Stmt := topS 28
abbrev S_checked_paths : Stmt := topS 29
abbrev S_checked_gates : Stmt := topS 30
abbrev S_checked_signs : Stmt := topS 31
abbrev C_Meadow : Stmt := topS 32
abbrev M_Meadow___init__ : Stmt := memS C_Meadow 5
abbrev M_Meadow_grassy : Stmt := memS C_Meadow 6
abbrev M_Meadow___eq__ : Stmt := memS C_Meadow 7
abbrev M_Meadow__watchers : Stmt := memS C_Meadow 8
abbrev M_Meadow__paths_to : Stmt := memS C_Meadow 9
abbrev M_Meadow__marks_of : Stmt := memS C_Meadow 10
abbrev M_Meadow_check_place : Stmt := memS C_Meadow 11
abbrev M_Meadow_check_walker : Stmt := memS C_Meadow 12
abbrev M_Meadow_check_path : Stmt := memS C_Meadow 13
abbrev M_Meadow_check_sign : Stmt := memS C_Meadow 14
abbrev M_Meadow_check_hour : Stmt := memS C_Meadow 15
abbrev M_Meadow_sign_names : Stmt := memS C_Meadow 16
abbrev M_Meadow_path_names : Stmt := memS C_Meadow 17
abbrev M_Meadow_ends : Stmt := memS C_Meadow 18
abbrev M_Meadow_across : Stmt := memS C_Meadow 19
abbrev M_Meadow_paths_at : Stmt := memS C_Meadow 20
abbrev M_Meadow_gate : Stmt := memS C_Meadow 21
abbrev M_Meadow_watching : Stmt := memS C_Meadow 22
abbrev M_Meadow_all_marks : Stmt := memS C_Meadow 23
abbrev M_Meadow_is_mark : Stmt := memS C_Meadow 24
abbrev S__law_pool : Stmt := topS 34
abbrev S__law_mixed : Stmt := topS 35
abbrev S__law_draw : Stmt := topS 36
abbrev S__law_names : Stmt := topS 37
abbrev S__law_size : Stmt := topS 38
abbrev S__law_some : Stmt := topS 39
abbrev S__law_posts : Stmt := topS 40
abbrev S__law_field : Stmt := topS 41
abbrev S__law_made : Stmt := topS 42
abbrev S__law_is_number : Stmt := topS 43
abbrev S__law_same : Stmt := topS 44
abbrev S__law_is_name : Stmt := topS 45
abbrev S__law_shared : Stmt := topS 46
abbrev S__law_odd : Stmt := topS 47
abbrev S__law_spoilt : Stmt := topS 48
abbrev S__law_first_fault : Stmt := topS 49
abbrev S__law_refusal : Stmt := topS 50
abbrev S__law_kinds : Stmt := topS 51
abbrev S_law : Stmt := topS 52
end K00
end

section
set_option maxRecDepth 100000
set_option maxHeartbeats 1000000
namespace K00
open PySem PySem.Spec L2 DL
open PyProof.Rows (boot_int boot_abs boot_list boot_max boot_min boot_range boot_all boot_tuple boot_sorted boot_isinstance boot_enumerate)
local macro_rules | `(tactic| walk_at "mul") => `(tactic| first | exact .inl ⟨by decide, by decide⟩ | exact .inr ⟨by decide, by decide⟩ | exact .inl ⟨by omega, by omega⟩ | exact .inr ⟨by omega, by omega⟩)
local macro_rules | `(tactic| walk_at "mod") => `(tactic| first | decide | omega)
local macro_rules | `(tactic| walk_at "fdiv") => `(tactic| exact ⟨by omega, by omega⟩)
local macro_rules | `(tactic| walk_at "pow") => `(tactic| exact ⟨by decide, by decide, by decide⟩)
abbrev FunT (K : PySem.W.Frag) (x : Str) (st : Stmt) (f : Addr) (fd : FuncData) : Prop := FunD K x x (defArgs st) (defBody st) (defScope st) [] [] f fd
/-- what the module's names are -/
structure Txt (mg : Str → Option Value) : Prop where
  n_int : mg "int" = none
  n_len : mg "len" = none
  n_abs : mg "abs" = none
  n_list : mg "list" = none
  n_tuple : mg "tuple" = none
  n_max : mg "max" = none
  n_min : mg "min" = none
  n_sorted : mg "sorted" = none
  n_all : mg "all" = none
  n_isinstance : mg "isinstance" = none
  n_range : mg "range" = none
  n_enumerate : mg "enumerate" = none
section
variable {P : Program} {w : World} {K : PySem.W.Frag} {mg : Str → Option Value} {base : Heap} {f : Addr} {fd : FuncData}
/-! ### _law_mixed -/
def SMixed : Sv := fun ds Φ _ => ∃ a b : Int, ds = [.int a, .int b] ∧ ∀ r, Φ (.int r)
theorem scMixed : FnScope ["seed", "k", "one", "two"] ["seed", "k"] (defScope S__law_mixed) := ⟨rfl, rfl, rfl, by decide +kernel, rfl, by decide +kernel, by decide +kernel⟩
theorem ok_mixed (F : FunT K "_law_mixed" S__law_mixed f fd) (T : Txt mg) : FnD P w K mg base 1 f fd ["seed", "k"] (spV K SMixed) := by
  refine fn_V F scMixed 2 rfl (by decide) (fun ds Φ Ψ h => ?_) (fun f cdv A outer s H E hr c ds Φ Ψ h => ?_)
  · obtain ⟨a, b, rfl, _⟩ := h
    rfl
  · obtain ⟨a, b, rfl, h⟩ := h
    refine sv_cons <| s_set (i := 2) rfl (.inl rfl) c.nd <| ev_op <| ev_t1 rfl T.n_int boot_int <| er_ev <| ev_op <| ev_op <| ev_name (i := 0) rfl rfl (.inl rfl) <| ev_op <| ev_int <| ev_name (i := 1) rfl rfl (.inl rfl) <| d_mul (by walk_at "mul") <| d_add <| ev_int <| d_add <| c_int <| ev_int <| d_mod (by walk_at "mod") <| xa (ltb rfl) ?_
    have hm := Int.emod_nonneg (a + 48271 * b + 11) (show (2147483647 : Int) ≠ 0 by decide)
    have hm2 := Int.emod_lt_of_pos (a + 48271 * b + 11) (show (0 : Int) < 2147483647 by decide)
    generalize (a + 48271 * b + 11) % 2147483647 = one at hm hm2
    refine sv_cons <| s_set (i := 3) rfl (.inl rfl) c.nd <| ev_op <| ev_t1 rfl T.n_int boot_int <| er_ev <| ev_op <| ev_op <| ev_op <| ev_name (i := 2) rfl rfl (.inl rfl) <| ev_name (i := 2) rfl rfl (.inl rfl) <| d_mul (by walk_at "mul") <| ev_op <| ev_int <| ev_name (i := 1) rfl rfl (.inl rfl) <| d_mul (by walk_at "mul") <| d_add <| ev_int <| d_add <| c_int <| ev_int <| d_mod (by walk_at "mod") <| xa (ltb rfl) ?_
    have hn := Int.emod_nonneg (one * one + 69621 * b + 5) (show (2147483629 : Int) ≠ 0 by decide)
    have hn2 := Int.emod_lt_of_pos (one * one + 69621 * b + 5) (show (0 : Int) < 2147483629 by decide)
    generalize (one * one + 69621 * b + 5) % 2147483629 = two at hn hn2
    exact sv_cons <| s_ret <| ev_op <| ev_t1 rfl T.n_int boot_int <| er_ev <| ev_op <| ev_op <| ev_op <| ev_name (i := 3) rfl rfl (.inl rfl) <| ev_name (i := 3) rfl rfl (.inl rfl) <| d_mul (by walk_at "mul") <| ev_name (i := 2) rfl rfl (.inl rfl) <| d_add <| ev_name (i := 1) rfl rfl (.inl rfl) <| d_add <| c_int <| ev_int <| d_mod (by walk_at "mod") <| h _
/-! ### the pool -/
def poolD (cells : List Int) (at_ acc calls seed : Int) : D := .lst [.lst (cells.map .int), .int at_, .int acc, .int calls, .int seed]
/-- what is known of a pool -/
def PoolOk (c : D) : Prop := ∃ cells at_ acc calls seed, c = poolD cells at_ acc calls seed ∧ 0 ≤ at_
def SDraw : Sc := fun c ds Φ _ => PoolOk c ∧ ∃ n : Int, ds = [.int n] ∧ n < 1000000 ∧ ∀ r c', 0 ≤ r → (r < n ∨ r = 0) → PoolOk c' → Φ (.int r) c'
theorem scDraw : FnScope ["pool", "limit", "drawn", "cell"] ["pool", "limit"] (defScope S__law_draw) := ⟨rfl, rfl, rfl, by decide +kernel, rfl, by decide +kernel, by decide +kernel⟩
theorem atI_ints {cells : List Int} {i : Int} (h0 : 0 ≤ i) (h1 : i < ((cells.map D.int).length : Int)) : L2.atI (cells.map D.int) i = some (.int (cells[i.toNat]'(by rw [List.length_map] at h1; omega))) := by
  have e : i = ((i.toNat : Nat) : Int) := by omega
  rw [List.length_map] at h1
  conv => lhs; rw [e]
  refine L2.atI_nat ?_
  rw [List.getElem?_map, List.getElem?_eq_getElem (by omega)]
  rfl
theorem use_mixed {a b : Int} {Φ : D → Prop} {Ψ : Ex0} (h : ∀ r : Int, Φ (.int r)) : SMixed [.int a, .int b] Φ Ψ := ⟨a, b, rfl, h⟩
theorem use_draw {c : D} {n : Int} {Φ : D → D → Prop} {Ψ : Addr → List (Str × D) → D → Prop} (hp : PoolOk c) (hn : n < 1000000) (h : ∀ r c', 0 ≤ r → (r < n ∨ r = 0) → PoolOk c' → Φ (.int r) c') : SDraw c [.int n] Φ Ψ := ⟨hp, n, rfl, hn, h⟩
theorem ok_draw (F : FunT K "_law_draw" S__law_draw f fd) (T : Txt mg) (C_law_mixed : Fd P w K mg base 1 "_law_mixed" ["seed", "k"] (spV K SMixed)) : FnD P w K mg base 2 f fd ["pool", "limit"] (spC K SDraw) := by
  refine fn_C F scDraw 1 rfl (by decide) (fun c ds Φ Ψ h => ?_) (fun f cdv A outer s H E hr c p c0 ds Φ Ψ h => ?_)
  · obtain ⟨_, n, rfl, _⟩ := h
    rfl
  · obtain ⟨⟨cells, at_, acc, calls, seed, rfl, h0⟩, n, rfl, hn, h⟩ := h
    refine sv_cons <| s_store (i := 0) rfl rfl (.inl rfl) <| ev_op <| ev_ixo (i := 0) rfl rfl (.inl rfl) <| ev_int <| xo rfl <| ix_l rfl <| ev_int <| d_add <| ev_int <| xs rfl rfl rfl ?_
    refine sv_cons <| s_if <| et_cmp <| ev_name (i := 1) rfl rfl (.inl rfl) <| ev_int <| d_lt <| xo rfl <| ⟨fun hT => ?_, fun hF => ?_⟩
    · exact sv_cons <| s_ret <| ev_int <| ⟨_, rfl, h 0 _ (Int.le_refl 0) (.inr rfl) ⟨cells, at_, acc, _, seed, rfl, h0⟩⟩
    · replace hF := of_decide_eq_false hF
      have md : ∀ x : Int, 0 ≤ x % n ∧ x % n < n := fun x => ⟨Int.emod_nonneg x (by omega), Int.emod_lt_of_pos x (by omega)⟩
      refine sv_nil <| sv_cons <| s_if <| et_cmp <| ev_ixo (i := 0) rfl rfl (.inl rfl) <| ev_int <| xo rfl <| ix_l rfl <| ev_name (i := 1) rfl rfl (.inl rfl) <| d_ge <| xo rfl <| ⟨fun hT => ?_, fun hF => ?_⟩
      · refine sv_cons <| s_set (i := 2) rfl (.inl rfl) c.nd <| ev_op <| ev_t1 rfl T.n_int boot_int <| er_ev <| ev_ixo (i := 0) rfl rfl (.inl rfl) <| ev_int <| xo rfl <| ix_l rfl <| c_int <| ev_name (i := 1) rfl rfl (.inl rfl) <| d_mod (by walk_at "mod") <| xa (ltb rfl) ?_
        refine sv_cons <| s_store (i := 0) rfl rfl (.inl rfl) <| ev_op <| ev_ixo (i := 0) rfl rfl (.inl rfl) <| ev_int <| xo rfl <| ix_l rfl <| ev_name (i := 1) rfl rfl (.inl rfl) <| d_fdiv (by walk_at "fdiv") <| ev_int <| xs rfl rfl rfl ?_
        exact sv_cons <| s_ret <| ev_name (i := 2) rfl rfl (.inl rfl) ⟨_, rfl, h _ _ (md acc).1 (.inl (md acc).2) ⟨cells, at_, _, _, seed, rfl, h0⟩⟩
      · refine sv_nil <| sv_cons <| s_if <| et_cmp <| ev_ixo (i := 0) rfl rfl (.inl rfl) <| ev_int <| xo rfl <| ix_l rfl <| ev_b1 rfl T.n_len boot_len <| er_ev <| ev_ixo (i := 0) rfl rfl (.inl rfl) <| ev_int <| xo rfl <| ix_l rfl <| c_len_l <| d_lt <| xo rfl <| ⟨fun hT => ?_, fun hF => ?_⟩
        · replace hT := of_decide_eq_true hT
          refine sv_cons <| s_set (i := 3) rfl (.inl rfl) c.nd <| ev_ix <| ev_ixo (i := 0) rfl rfl (.inl rfl) <| ev_int <| xo rfl <| ix_l rfl <| ev_ixo (i := 0) rfl rfl (.inl rfl) <| ev_int <| xo rfl <| ix_l rfl <| ix_l (atI_ints h0 hT) <| xa (ltb rfl) ?_
          generalize cells[at_.toNat]'_ = cell
          refine sv_cons <| s_store (i := 0) rfl rfl (.inl rfl) <| ev_op <| ev_ixo (i := 0) rfl rfl (.inl rfl) <| ev_int <| xo rfl <| ix_l rfl <| ev_int <| d_add <| ev_int <| xs rfl rfl rfl ?_
          refine sv_cons <| s_if <| et_cmp <| ev_name (i := 3) rfl rfl (.inl rfl) <| ev_op <| ev_int <| ev_int <| d_pow (by walk_at "pow") <| d_ge <| xo rfl <| ⟨fun hT => ?_, fun hF => ?_⟩
          · refine sv_cons <| s_store (i := 0) rfl rfl (.inl rfl) <| ev_op <| ev_name (i := 3) rfl rfl (.inl rfl) <| ev_name (i := 1) rfl rfl (.inl rfl) <| d_fdiv (by walk_at "fdiv") <| ev_int <| xs rfl rfl rfl ?_
            exact sv_cons <| s_ret <| ev_op <| ev_t1 rfl T.n_int boot_int <| er_ev <| ev_name (i := 3) rfl rfl (.inl rfl) <| c_int <| ev_name (i := 1) rfl rfl (.inl rfl) <| d_mod (by walk_at "mod") ⟨_, rfl, h _ _ (md _).1 (.inl (md _).2) ⟨cells, _, _, _, seed, rfl, by omega⟩⟩
          · exact sv_nil <| sv_cons <| s_ret <| ev_op <| ev_t1 rfl T.n_int boot_int <| er_ev <| ev_c C_law_mixed (hr.mono (by decide)) rfl c.takes <| ea_cons <| ev_name (i := 3) rfl rfl (.inl rfl) <| ea_cons <| ev_ixo (i := 0) rfl rfl (.inl rfl) <| ev_int <| xo rfl <| ix_l rfl <| ea_nil <|
              use_mixed fun r => c_int <| ev_name (i := 1) rfl rfl (.inl rfl) <| d_mod (by walk_at "mod") ⟨_, rfl, h _ _ (md _).1 (.inl (md _).2) ⟨cells, _, _, _, seed, rfl, by omega⟩⟩
        · exact sv_nil <| sv_cons <| s_ret <| ev_op <| ev_t1 rfl T.n_int boot_int <| er_ev <| ev_c C_law_mixed (hr.mono (by decide)) rfl c.takes <| ea_cons <| ev_ixo (i := 0) rfl rfl (.inl rfl) <| ev_int <| xo rfl <| ix_l rfl <| ea_cons <| ev_ixo (i := 0) rfl rfl (.inl rfl) <| ev_int <| xo rfl <| ix_l rfl <| ea_nil <|
            use_mixed fun r => c_int <| ev_name (i := 1) rfl rfl (.inl rfl) <| d_mod (by walk_at "mod") ⟨_, rfl, h _ _ (md _).1 (.inl (md _).2) ⟨cells, at_, _, _, seed, rfl, h0⟩⟩
end
end K00
end

section
set_option maxRecDepth 100000
set_option maxHeartbeats 1000000
namespace K00
open PySem PySem.Spec L2 DL
open PyProof.Rows (boot_int boot_abs boot_list boot_max boot_min boot_range boot_all boot_tuple boot_sorted boot_isinstance boot_enumerate)
local macro_rules | `(tactic| walk_at "mul") => `(tactic| first | exact .inl ⟨by decide, by decide⟩ | exact .inr ⟨by decide, by decide⟩ | exact .inl ⟨by omega, by omega⟩ | exact .inr ⟨by omega, by omega⟩)
local macro_rules | `(tactic| walk_at "mod") => `(tactic| first | decide | omega)
local macro_rules | `(tactic| walk_at "fdiv") => `(tactic| exact ⟨by omega, by omega⟩)
local macro_rules | `(tactic| walk_at "pow") => `(tactic| exact ⟨by decide, by decide, by decide⟩)
section
variable {P : Program} {w : World} {K : PySem.W.Frag} {mg : Str → Option Value} {base : Heap} {f : Addr} {fd : FuncData}
/-! ### _law_pool -/
def SPool : Sv := fun ds Φ _ => ∃ ns : List Int, ds = [.rlst (ns.map .int)] ∧ ns.length ≤ 63 ∧ ∀ d, PoolOk d → Φ d
theorem scPool : FnScope ["script", "cells", "cell", "seed"] ["script"] (defScope S__law_pool) := ⟨rfl, rfl, rfl, by decide +kernel, rfl, by decide +kernel, by decide +kernel⟩
theorem snoc_map {α : Type} {f : α → D} {cs : List α} {x : α} : cs.map f ++ [f x] = (cs ++ [x]).map f := by rw [List.map_append]; rfl
theorem cut_ints {ns : List Int} {lo hi : Option Int} : cutD (ns.map D.int) lo hi = (cutD ns lo hi).map D.int := by
  unfold cutD
  rw [List.length_map, ← List.map_drop, ← List.map_take]
theorem ok_pool (F : FunT K "_law_pool" S__law_pool f fd) (T : Txt mg) : FnD P w K mg base 1 f fd ["script"] (spN K SPool) := by
  refine fn_N F scPool 1 rfl (by decide) (fun ds Φ Ψ h => ?_) (fun f cdv A outer s H E hr c ds Φ h => ?_)
  · obtain ⟨ns, rfl, _⟩ := h
    rfl
  · obtain ⟨ns, rfl, hl, h⟩ := h
    refine sv_cons <| s_setLc (i := 1) c [("cell", 2)] [] (lcOk1 (blkOk_by (N := ["script", "cells", "cell", "seed"]) (sc := defScope S__law_pool) (by decide +kernel)) (fun _ => rfl) (fun _ _ _ _ _ _ => rfl)) rfl rfl (sw_true rfl rfl rfl (by decide +kernel)) <|
      ei_lst <| ev_sl <| ev_name (i := 0) rfl rfl (.inl rfl) <| eo_none <| eo_some <| ev_int <| xo rfl <| sl_rl <| xo rfl ?_
    rw [cut_ints]
    have hms : (cutD ns none (some 63)).length ≤ ns.length := by
      unfold cutD
      rw [List.length_take, List.length_drop]
      omega
    generalize cutD ns none (some 63) = ms at hms ⊢
    refine ⟨fun i G acc => G = [.ok (.rlst (ns.map .int)), .un, .un, .un] ∧ ∃ cs : List Int, acc = cs.map .int ∧ cs.length = i ∧ i ≤ ms.length, ⟨rfl, [], rfl, rfl, Nat.zero_le _⟩, fun i d G acc hd hT => ?_, fun G acc hT => ?_⟩
    · obtain ⟨rfl, cs, rfl, hi, _⟩ := hT
      obtain ⟨hlt, x, rfl⟩ : i < ms.length ∧ ∃ x, d = .int x := by
        rw [List.getElem?_map] at hd
        cases e : ms[i]? with
        | none => rw [e] at hd; cases hd
        | some x =>
          rw [e] at hd
          refine ⟨?_, x, (Option.some.inj hd).symm⟩
          by_cases l : i < ms.length
          · exact l
          · rw [List.getElem?_eq_none (by omega)] at e; cases e
      have hz : cs.length < 10000000 := by
        have : ms.length ≤ ns.length := hms
        omega
      rintro Y ⟨_, _, _, _, _, rfl⟩
      refine gv_name (i := 2) (by decide) rfl (ltb rfl) (.inl rfl) c.nd ?_
      rintro Y ⟨_, _, _, _, _, rfl⟩
      refine ts_nil ⟨fun _ => ?_, fun z => (nomatch z)⟩
      rintro Y ⟨_, _, _, _, _, rfl⟩
      refine ev_op <| ev_t1 rfl T.n_int boot_int <| er_ev <| ev_b1 rfl T.n_abs boot_abs <| er_ev <| ev_name (i := 2) rfl rfl (.inl rfl) <| c_abs <| c_int <| ev_op <| ev_op <| ev_int <| ev_int <| d_pow (by walk_at "pow") <| ev_int <| d_powB ⟨by decide, by decide +kernel⟩ <| d_mod (by decide +kernel) <| xa ?_ ?_
      · rw [List.length_map]; exact hz
      · exact ⟨rfl, _, snoc_map, by rw [List.length_append, hi]; rfl, hlt⟩
    · obtain ⟨rfl, cs, rfl, _⟩ := hT
      refine ⟨ltb rfl, ?_⟩
      refine sv_cons <| s_set (i := 3) rfl (.inl rfl) c.nd <| ev_int <| xa (ltb rfl) ?_
      refine sv_cons <| s_for c <| ei_lst <| ev_name (i := 1) rfl rfl (.inl rfl) <| xo rfl ?_
      refine ⟨fun _ => ⟨fun i G => ∃ y sd, G = [.ok (.rlst (ns.map .int)), .ok (.lst (cs.map .int)), y, .ok (.int sd)], ⟨_, _, rfl⟩, fun i d G hd hT => ⟨[2], gv_name (i := 2) (by decide) rfl ?_ (.inl rfl) c.nd ?_⟩, fun G hT => ?_⟩⟩
      · obtain ⟨y, sd, rfl⟩ := hT
        exact ltb rfl
      · obtain ⟨y, sd, rfl⟩ := hT
        obtain ⟨x, rfl⟩ : ∃ x, d = .int x := by
          rw [List.getElem?_map] at hd
          cases e : cs[i]? with
          | none => rw [e] at hd; cases hd
          | some x => rw [e] at hd; exact ⟨x, (Option.some.inj hd).symm⟩
        exact sv_cons <| s_set (i := 3) rfl (.inl rfl) c.nd <| ev_op <| ev_t1 rfl T.n_int boot_int <| er_ev <| ev_op <| ev_op <| ev_op <| ev_name (i := 3) rfl rfl (.inl rfl) <| ev_int <| d_mul (by walk_at "mul") <| ev_name (i := 2) rfl rfl (by first | exact .inl rfl | exact .inr (.inl rfl)) <| d_add <| ev_int <| d_add <| c_int <| ev_int <| d_mod (by walk_at "mod") <| xa (ltb rfl) <| sv_nil ⟨_, _, rfl⟩
      · obtain ⟨y, sd, rfl⟩ := hT
        exact sv_cons <| s_retF <| ef_lst <| ea_cons <| ev_name (i := 1) rfl rfl (.inl rfl) <| ea_cons <| ev_int <| ea_cons <| ev_int <| ea_cons <| ev_int <| ea_cons <| ev_name (i := 3) rfl rfl (.inl rfl) <| ea_nil <| xa (leb rfl) <| h _ ⟨cs, 0, 0, 0, sd, rfl, by decide⟩
end
end K00
end

section
set_option maxRecDepth 100000
set_option maxHeartbeats 1000000
namespace K00
open PySem PySem.Spec L2 DL
open PyProof.Rows (boot_int boot_abs boot_list boot_max boot_min boot_range boot_all boot_tuple boot_sorted boot_isinstance boot_enumerate)
/-! ### names -/
def Low (c : Nat) : Prop := 97 ≤ c ∧ c ≤ 122
def Dig (c : Nat) : Prop := 48 ≤ c ∧ c ≤ 57
instance (c : Nat) : Decidable (Low c) := inferInstanceAs (Decidable (_ ∧ _))
instance (c : Nat) : Decidable (Dig c) := inferInstanceAs (Decidable (_ ∧ _))
/-- a letter and n figures -/
def NameN (s : Str) (n : Nat) : Prop := ∃ l ds, s.cps.toList = l :: ds ∧ Low l ∧ ds.length = n ∧ ∀ d ∈ ds, Dig d
def IsName (s : Str) : Prop := ∃ n, n ≤ 3 ∧ NameN s n
abbrev LET : Str := "abcdefghijklmnopqrstuvwxyz"
abbrev FIG : Str := "0123456789"
theorem let_all : ∀ k : Nat, k < 26 → (match LET.cps.toList[k]? with | some c => decide (Low c) | none => false) = true := by decide +kernel
theorem fig_all : ∀ k : Nat, k < 10 → (match FIG.cps.toList[k]? with | some c => decide (Dig c) | none => false) = true := by decide +kernel
theorem let_at {r : Int} (h0 : 0 ≤ r) (h1 : r < 26 ∨ r = 0) : ∃ c, L2.atI LET.cps.toList r = some c ∧ Low c := by
  have h := let_all r.toNat (by omega)
  have e : r = ((r.toNat : Nat) : Int) := by omega
  cases q : LET.cps.toList[r.toNat]? with
  | none => rw [q] at h; cases h
  | some c =>
    rw [q] at h
    refine ⟨c, ?_, of_decide_eq_true h⟩
    rw [e]
    exact L2.atI_nat q
theorem fig_at {r : Int} (h0 : 0 ≤ r) (h1 : r < 10 ∨ r = 0) : ∃ c, L2.atI FIG.cps.toList r = some c ∧ Dig c := by
  have h := fig_all r.toNat (by omega)
  have e : r = ((r.toNat : Nat) : Int) := by omega
  cases q : FIG.cps.toList[r.toNat]? with
  | none => rw [q] at h; cases h
  | some c =>
    rw [q] at h
    refine ⟨c, ?_, of_decide_eq_true h⟩
    rw [e]
    exact L2.atI_nat q
theorem let_len : LET.length ≤ sizeLine := by rw [sizeLine_eq]; decide +kernel
theorem fig_len : FIG.length ≤ sizeLine := by rw [sizeLine_eq]; decide +kernel
theorem name_one {c : Nat} (h : Low c) : NameN ⟨#[c]⟩ 0 := ⟨c, [], rfl, h, rfl, fun _ m => (nomatch m)⟩
theorem cps_append (a b : Str) : (a ++ b).cps.toList = a.cps.toList ++ b.cps.toList := by
  show (a.cps ++ b.cps).toList = _
  rw [Array.toList_append]
theorem str_length (a : Str) : a.length = a.cps.toList.length := by
  show a.cps.size = _
  rw [Array.length_toList]
theorem name_more {s : Str} {n c : Nat} (h : NameN s n) (d : Dig c) : NameN (s ++ ⟨#[c]⟩) (n + 1) := by
  obtain ⟨l, ds, e, hl, hn, hd⟩ := h
  refine ⟨l, ds ++ [c], by rw [cps_append, e]; rfl, hl, by rw [List.length_append, hn]; rfl, fun x hx => ?_⟩
  rcases List.mem_append.mp hx with m | m
  · exact hd x m
  · rw [List.mem_singleton.mp m]; exact d
theorem name_len {s : Str} {n : Nat} (h : NameN s n) : s.length = n + 1 := by
  obtain ⟨l, ds, e, _, hn, _⟩ := h
  rw [str_length, e, List.length_cons, hn]
/-- pigeons -/
theorem pigeon {α : Type} [DecidableEq α] : ∀ {l m : List α}, l.Nodup → (∀ x ∈ l, x ∈ m) → l.length ≤ m.length
  | [], m, _, _ => Nat.zero_le _
  | x :: l, m, hn, h => by
    have hx : x ∈ m := h x List.mem_cons_self
    obtain ⟨n1, n2⟩ := List.nodup_cons.mp hn
    have ih := pigeon (l := l) (m := m.erase x) n2 fun y hy => (List.mem_erase_of_ne (fun e => n1 (by rw [← e]; exact hy))).mpr (h y (List.mem_cons_of_mem _ hy))
    rw [List.length_erase_of_mem hx] at ih
    have := List.length_pos_of_mem hx
    rw [List.length_cons]
    omega
def oneStr (c : Nat) : Str := ⟨#[c]⟩
theorem lets_nodup : (LET.cps.toList.map oneStr).Nodup := by decide +kernel
theorem lets_low : ∀ c ∈ LET.cps.toList, Low c := by
  have h : (LET.cps.toList.all fun c => decide (Low c)) = true := by decide +kernel
  exact fun c m => of_decide_eq_true (List.all_eq_true.mp h c m)
theorem lets_26 : LET.cps.toList.length = 26 := by decide +kernel
/-- some letter is free -/
theorem free_letter {names : List Str} (h : names.length < 26) : ∃ c r, (LET.cps.toList.map oneStr).filter (fun s => !decide (s ∈ names)) = oneStr c :: r ∧ Low c := by
  cases e : (LET.cps.toList.map oneStr).filter (fun s => !decide (s ∈ names)) with
  | nil =>
    have all : ∀ x ∈ LET.cps.toList.map oneStr, x ∈ names := fun x hx => by
      have := List.filter_eq_nil_iff.mp e x hx
      simpa using this
    have := pigeon lets_nodup all
    rw [List.length_map, lets_26] at this
    omega
  | cons s r =>
    have hm : s ∈ (LET.cps.toList.map oneStr).filter (fun s => !decide (s ∈ names)) := by rw [e]; exact List.mem_cons_self
    obtain ⟨c, hc, rfl⟩ := List.mem_map.mp (List.mem_filter.mp hm).1
    exact ⟨c, r, rfl, lets_low c hc⟩
theorem free_first {names : List Str} {c : Nat} {r : List Str} (h : (LET.cps.toList.map oneStr).filter (fun s => !decide (s ∈ names)) = oneStr c :: r) : oneStr c ∉ names := by
  have hm : oneStr c ∈ (LET.cps.toList.map oneStr).filter (fun s => !decide (s ∈ names)) := by rw [h]; exact List.mem_cons_self
  simpa using (List.mem_filter.mp hm).2
def NamesOk (ss : List Str) : Prop := ss.Nodup ∧ ∀ s ∈ ss, IsName s
theorem names_snoc {ss : List Str} {s : Str} (h : NamesOk ss) (n : s ∉ ss) (i : IsName s) : NamesOk (ss ++ [s]) := by
  refine ⟨List.nodup_append.mpr ⟨h.1, List.nodup_cons.mpr ⟨List.not_mem_nil, List.nodup_nil⟩, fun a ha b hb e => ?_⟩, fun x hx => ?_⟩
  · subst e
    rw [List.mem_singleton.mp hb] at ha
    exact n ha
  · rcases List.mem_append.mp hx with m | m
    · exact h.2 x m
    · rw [List.mem_singleton.mp m]; exact i
end K00
end

section
set_option maxRecDepth 100000
set_option maxHeartbeats 1000000
namespace K00
open PySem PySem.Spec L2 DL
open PyProof.Rows (boot_int boot_abs boot_list boot_max boot_min boot_range boot_all boot_tuple boot_sorted boot_isinstance boot_enumerate)
section
variable {P : Program} {w : World} {K : PySem.W.Frag} {mg : Str → Option Value} {base : Heap} {f : Addr} {fd : FuncData}
/-! ### _law_names -/
def SNames : Sc := fun c ds Φ _ => PoolOk c ∧ ∃ n : Int, ds = [.int n] ∧ (0 ≤ n ∧ n ≤ 26) ∧ ∀ ss c', NamesOk ss → (ss.length : Int) = n → PoolOk c' → Φ (.lst (ss.map .str)) c'
theorem use_names {c : D} {n : Int} {Φ : D → D → Prop} {Ψ : Addr → List (Str × D) → D → Prop} (hp : PoolOk c) (hn : 0 ≤ n ∧ n ≤ 26) (h : ∀ ss c', NamesOk ss → (ss.length : Int) = n → PoolOk c' → Φ (.lst (ss.map .str)) c') : SNames c [.int n] Φ Ψ := ⟨hp, n, rfl, hn, h⟩
abbrev nNames : List Str := ["pool", "many", "letters", "mode", "head", "names", "k", "name", "turn", "figures", "figure", "letter"]
theorem scNames : FnScope nNames ["pool", "many"] (defScope S__law_names) := ⟨rfl, rfl, rfl, by decide +kernel, rfl, by decide +kernel, by decide +kernel⟩
abbrev gNm (p : Addr) (c : D) (n mode : Int) (head : Str) (q : Addr) (names : List Str) (k nm tu fs fi : Sl) : List Sl :=
  [.own p c, .ok (.int n), .ok (.str LET), .ok (.int mode), .ok (.str head), .own q (.lst (names.map .str)), k, nm, tu, fs, fi, .un]
theorem range_get {lo : Int} {n i : Nat} {d : D} (h : ((List.range n).map fun (t : Nat) => D.int (lo + (t : Int)))[i]? = some d) : i < n ∧ d = .int (lo + (i : Int)) := by
  rw [List.getElem?_map] at h
  by_cases c : i < n
  · rw [List.getElem?_range c] at h
    exact ⟨c, (Option.some.inj h).symm⟩
  · rw [List.getElem?_eq_none (by rw [List.length_range]; omega)] at h
    cases h
theorem range_len {lo : Int} {n : Nat} : ((List.range n).map fun (t : Nat) => D.int (lo + (t : Int))).length = n := by rw [List.length_map, List.length_range]
theorem ok_names (F : FunT K "_law_names" S__law_names f fd) (T : Txt mg) (C_law_draw : Fd P w K mg base 2 "_law_draw" ["pool", "limit"] (spC K SDraw)) : FnD P w K mg base 3 f fd ["pool", "many"] (spC K SNames) := by
  refine fn_C F scNames 1 rfl (by decide) (fun c ds Φ Ψ h => ?_) (fun f cdv A outer s H E hr c p c0 ds Φ Ψ h => ?_)
  · obtain ⟨_, n, rfl, _⟩ := h
    rfl
  · obtain ⟨hp, n, rfl, hn, h⟩ := h
    -- letters
    refine sv_cons <| s_set (i := 2) rfl (.inl rfl) c.nd <| ev_str <| xa (ltb rfl) ?_
    -- mode
    refine sv_cons <| s_set (i := 3) rfl (.inl rfl) c.nd <| ev_cC (i := 0) C_law_draw (hr.mono (by decide)) rfl c.takes rfl rfl (.inl rfl) <| ea_cons <| ev_int <| ea_nil <| xo rfl <| use_draw hp (by decide) fun mode c1 _ _ hp1 => xa (ltb rfl) ?_
    -- head
    refine sv_cons <| s_set (i := 4) rfl (.inl rfl) c.nd <| ev_ix <| ev_name (i := 2) rfl rfl (.inl rfl) <| ev_cC (i := 0) C_law_draw (hr.mono (by decide)) rfl c.takes rfl rfl (.inl rfl) <| ea_cons <| ev_int <| ea_nil <| xo rfl <| use_draw hp1 (by decide) fun r c2 h0 h1 hp2 => ?_
    obtain ⟨hc, e1, l1⟩ := let_at h0 h1
    refine ix_s let_len e1 <| xa (ltb rfl) ?_
    -- names = []
    refine sv_cons <| s_own (i := 5) rfl (.inr rfl) c.nd <| ef_lst <| ea_nil <| xa (leb rfl) <| xa (ltb rfl) fun q hq => ?_
    -- for k in range(many)
    refine sv_cons <| s_for c <| ei_range1 rfl T.n_range <| ev_name (i := 1) rfl rfl (.inl rfl) <| ?_
    refine ⟨n, rfl, by omega, by omega, ?_⟩
    refine ⟨fun _ => ⟨fun i G => ∃ c' names k nm tu fs fi, G = gNm p c' n mode ⟨#[hc]⟩ q names k nm tu fs fi ∧ PoolOk c' ∧ NamesOk names ∧ names.length = i, ⟨c2, [], _, _, _, _, _, rfl, hp2, ⟨List.nodup_nil, fun _ m => (nomatch m)⟩, rfl⟩, fun i d G hd hT => ?_, fun G hT => ?_⟩⟩
    · obtain ⟨c3, names, k, nm, tu, fs, fi, rfl, hp3, hnm, hlen⟩ := hT
      obtain ⟨hi, rfl⟩ := range_get hd
      refine ⟨[6], gv_name (i := 6) (by decide) rfl (ltb rfl) (.inl rfl) c.nd ?_⟩
      -- name = ''
      refine sv_cons <| s_set (i := 7) rfl (.inl rfl) c.nd <| ev_str <| xa (ltb rfl) ?_
      -- for turn in range(4)
      refine sv_cut (fun G => ∃ c' k nm tu fs fi, G = gNm p c' n mode ⟨#[hc]⟩ q names k (.ok (.str nm)) tu fs fi ∧ PoolOk c' ∧ IsName nm) (s_for c <| ei_range1 rfl T.n_range <| ev_int <| ⟨_, rfl, by decide, by decide, ?_⟩) (fun G hJ => ?_)
      · refine ⟨fun _ => ⟨fun i G => ∃ c' k nm tu fs fi, G = gNm p c' n mode ⟨#[hc]⟩ q names k (.ok (.str nm)) tu fs fi ∧ PoolOk c' ∧ (0 < i → IsName nm), ⟨c3, _, _, _, _, _, rfl, hp3, fun z => absurd z (Nat.lt_irrefl 0)⟩, fun i d G hd hT => ?_, fun G hT => ?_⟩⟩
        · obtain ⟨c4, k, nm, tu, fs, fi, rfl, hp4, _⟩ := hT
          refine ⟨[8], gv_name (i := 8) (by decide) rfl (ltb rfl) (.inl rfl) c.nd ?_⟩
          -- name = head
          refine sv_cons <| s_set (i := 7) rfl (.inl rfl) c.nd <| ev_name (i := 4) rfl rfl (.inl rfl) <| xa (ltb rfl) ?_
          -- if mode != 1
          refine sv_cut (fun G => ∃ c' k x tu fs fi, G = gNm p c' n mode ⟨#[hc]⟩ q names k (.ok (.str ⟨#[x]⟩)) tu fs fi ∧ PoolOk c' ∧ Low x) (s_if <| et_cmp <| ev_name (i := 3) rfl rfl (.inl rfl) <| ev_int <| d_nei <| xo rfl <| ⟨fun hT => ?_, fun hF => ?_⟩) (fun G hJ => ?_)
          · refine sv_cons <| s_set (i := 7) rfl (.inl rfl) c.nd <| ev_ix <| ev_name (i := 2) rfl rfl (.inl rfl) <| ev_cC (i := 0) C_law_draw (hr.mono (by decide)) rfl c.takes rfl rfl (.inl rfl) <| ea_cons <| ev_int <| ea_nil <| xo rfl <| use_draw hp4 (by decide) fun r c5 h0 h1 hp5 => ?_
            obtain ⟨x, e2, l2⟩ := let_at h0 h1
            exact ix_s let_len e2 <| xa (ltb rfl) <| sv_nil ⟨_, _, _, _, _, _, rfl, hp5, l2⟩
          · exact sv_nil ⟨_, _, _, _, _, _, rfl, hp4, l1⟩
          obtain ⟨c5, k, x, tu, fs, fi, rfl, hp5, lx⟩ := hJ
          -- figures = 0
          refine sv_cons <| s_set (i := 9) rfl (.inl rfl) c.nd <| ev_int <| xa (ltb rfl) ?_
          -- if mode != 2
          refine sv_cut (fun G => ∃ (c' : D) (k tu : Sl) (fg : Int) (fi : Sl), G = gNm p c' n mode ⟨#[hc]⟩ q names k (.ok (.str ⟨#[x]⟩)) tu (.ok (.int fg)) fi ∧ PoolOk c' ∧ 0 ≤ fg ∧ fg < 4) (s_if <| et_cmp <| ev_name (i := 3) rfl rfl (.inl rfl) <| ev_int <| d_nei <| xo rfl <| ⟨fun hT => ?_, fun hF => ?_⟩) (fun G hJ => ?_)
          · exact sv_cons <| s_set (i := 9) rfl (.inl rfl) c.nd <| ev_cC (i := 0) C_law_draw (hr.mono (by decide)) rfl c.takes rfl rfl (.inl rfl) <| ea_cons <| ev_int <| ea_nil <| xo rfl <| use_draw hp5 (by decide) fun r c6 h0 h1 hp6 => xa (ltb rfl) <| sv_nil ⟨_, _, _, _, _, rfl, hp6, h0, by omega⟩
          · exact sv_nil ⟨_, _, _, _, _, rfl, hp5, by decide, by decide⟩
          obtain ⟨c6, k, tu, fg, fi, rfl, hp6, f0, f1⟩ := hJ
          -- for figure in range(figures)
          refine sv_cut (fun G => ∃ c' k nm tu fi, G = gNm p c' n mode ⟨#[hc]⟩ q names k (.ok (.str nm)) tu (.ok (.int fg)) fi ∧ PoolOk c' ∧ IsName nm) (s_for c <| ei_range1 rfl T.n_range <| ev_name (i := 9) rfl rfl (.inl rfl) <| ⟨_, rfl, by omega, by omega, ?_⟩) (fun G hJ => ?_)
          · refine ⟨fun _ => ⟨fun i G => ∃ c' k nm tu fi, G = gNm p c' n mode ⟨#[hc]⟩ q names k (.ok (.str nm)) tu (.ok (.int fg)) fi ∧ PoolOk c' ∧ NameN nm i, ⟨c6, _, _, _, _, rfl, hp6, name_one lx⟩, fun i d G hd hT => ?_, fun G hT => ?_⟩⟩
            · obtain ⟨c7, k, nm, tu, fi, rfl, hp7, hnm7⟩ := hT
              obtain ⟨hi7, rfl⟩ := range_get hd
              refine ⟨[10], gv_name (i := 10) (by decide) rfl (ltb rfl) (.inl rfl) c.nd ?_⟩
              refine sv_cons <| s_set (i := 7) rfl (.inl rfl) c.nd <| ev_op <| ev_name (i := 7) rfl rfl (.inl rfl) <| ev_ix <| ev_str <| ev_cC (i := 0) C_law_draw (hr.mono (by decide)) rfl c.takes rfl rfl (.inl rfl) <| ea_cons <| ev_int <| ea_nil <| xo rfl <| use_draw hp7 (by decide) fun r c8 h0 h1 hp8 => ?_
              obtain ⟨y, e3, d3⟩ := fig_at h0 h1
              refine ix_s fig_len e3 <| d_adds ?_ <| xa (ltb rfl) <| sv_nil ⟨_, _, _, _, _, rfl, hp8, name_more hnm7 d3⟩
              rw [name_len hnm7, sizeLine_eq]
              show i + 1 + 1 ≤ _
              omega
            · obtain ⟨c7, k, nm, tu, fi, rfl, hp7, hnm7⟩ := hT
              rw [range_len] at hnm7
              exact ⟨c7, k, nm, tu, fi, rfl, hp7, _, by omega, hnm7⟩
          obtain ⟨c7, k, nm, tu, fi, rfl, hp7, hnm7⟩ := hJ
          -- if name not in names: break
          refine sv_cons <| s_if <| et_mem <| ev_name (i := 7) rfl rfl (.inl rfl) <| er_own (i := 5) rfl rfl (.inr (.inl rfl)) <| m_nin_l <| xo rfl <| ⟨fun hT => ?_, fun hF => ?_⟩
          · exact sv_cons <| s_break ⟨_, _, _, _, _, _, rfl, hp7, hnm7⟩
          · exact sv_nil <| sv_nil ⟨_, _, _, _, _, _, rfl, hp7, fun _ => hnm7⟩
        · obtain ⟨c4, k, nm, tu, fs, fi, rfl, hp4, hnm4⟩ := hT
          exact ⟨_, _, _, _, _, _, rfl, hp4, hnm4 (by rw [range_len]; decide)⟩
      obtain ⟨c4, k, nm, tu, fs, fi, rfl, hp4, hnm4⟩ := hJ
      -- if name in names
      have hl26 : names.length < 26 := by omega
      refine sv_cut (fun G => ∃ c' k nm tu fs fi, G = gNm p c' n mode ⟨#[hc]⟩ q names k (.ok (.str nm)) tu fs fi ∧ PoolOk c' ∧ IsName nm ∧ nm ∉ names) (s_if <| et_mem <| ev_name (i := 7) rfl rfl (.inl rfl) <| er_own (i := 5) rfl rfl (.inr (.inl rfl)) <| m_in_l <| xo rfl <| ⟨fun hT => ?_, fun hF => ?_⟩) (fun G hJ => ?_)
      · obtain ⟨fc, frr, hfr, hlo⟩ := free_letter hl26
        have hfree := free_first hfr
        refine sv_cons <| s_set (i := 7) rfl (.inl rfl) c.nd <| ev_ix <| EF.ev <| ef_lc c [("letter", 11)] [] (lcOk1 (blkOk_by (N := nNames) (sc := defScope S__law_names) (by decide +kernel)) (fun _ => rfl) (fun _ _ _ _ _ _ => rfl)) <| ei_str <| ev_name (i := 2) rfl rfl (.inl rfl) <| xo rfl ?_
        refine ⟨fun i G acc => G = gNm p c4 n mode ⟨#[hc]⟩ q names k (.ok (.str nm)) tu fs fi ∧ acc = (((LET.cps.toList.map oneStr).take i).filter fun s => !decide (s ∈ names)).map D.str, ⟨rfl, rfl⟩, fun i d G acc hd hT => ?_, fun G acc hT => ?_⟩
        · obtain ⟨rfl, rfl⟩ := hT
          have hd2 : ((LET.cps.toList.map oneStr).map D.str)[i]? = some d := by rw [List.map_map]; exact hd
          rw [List.getElem?_map] at hd2
          cases e : (LET.cps.toList.map oneStr)[i]? with
          | none => rw [e] at hd2; cases hd2
          | some x =>
            rw [e] at hd2
            cases hd2
            have tk : (LET.cps.toList.map oneStr).take (i + 1) = (LET.cps.toList.map oneStr).take i ++ [x] := by rw [List.take_add_one, e]; rfl
            rintro Y ⟨_, _, _, _, _, rfl⟩
            refine gv_name (i := 11) (by decide) rfl (ltb rfl) (.inl rfl) c.nd ?_
            rintro Y ⟨_, _, _, _, _, rfl⟩
            refine ts_one <| et_mem <| ev_name (i := 11) rfl rfl (.inl rfl) <| er_own (i := 5) rfl rfl (.inr (.inl rfl)) <| m_nin_l <| xo rfl <| ⟨fun hT => ?_, fun hF => ?_⟩
            · rintro Y ⟨_, _, _, _, _, rfl⟩
              refine ev_name (i := 11) rfl rfl (.inl rfl) <| xa ?_ ⟨rfl, ?_⟩
              · rw [List.length_map]
                refine Nat.lt_of_le_of_lt (List.length_filter_le _ _) ?_
                rw [List.length_take, List.length_map, lets_26]
                omega
              · rw [tk, List.filter_append, List.map_append]
                congr 1
                simp only [List.filter_cons, List.filter_nil]
                rw [if_pos hT]
                rfl
            · refine ⟨rfl, ?_⟩
              rw [tk, List.filter_append]
              simp only [List.filter_cons, List.filter_nil]
              rw [if_neg (by rw [hF]; exact Bool.false_ne_true), List.append_nil]
        · obtain ⟨rfl, rfl⟩ := hT
          rw [List.length_map, List.take_of_length_le (by rw [List.length_map]; exact Nat.le_refl _), hfr]
          exact ev_int <| ix_l (L2.atI_nat (j := 0) rfl) <| xa (ltb rfl) <| sv_nil ⟨_, _, _, _, _, _, rfl, hp4, ⟨0, by decide, name_one hlo⟩, hfree⟩
      · exact sv_nil ⟨_, _, _, _, _, _, rfl, hp4, hnm4, of_decide_eq_false hF⟩
      obtain ⟨c5, k, nm, tu, fs, fi, rfl, hp5, hnm5, hni⟩ := hJ
      -- names.append(name)
      exact sv_cons <| s_append (i := 5) rfl rfl (.inr (.inl rfl)) <| ev_name (i := 7) rfl rfl (.inl rfl) <| ⟨_, rfl, by rw [List.length_map]; omega, sv_nil ⟨_, names ++ [nm], _, _, _, _, _, by rw [snoc_map] ; rfl, hp5, names_snoc hnm hni hnm5, by rw [List.length_append, hlen]; rfl⟩⟩
    · obtain ⟨c3, names, k, nm, tu, fs, fi, rfl, hp3, hnm, hlen⟩ := hT
      exact sv_cons <| s_retOwn (i := 5) (by decide) rfl rfl (.inr (.inl rfl)) ⟨c3, rfl, h names c3 hnm (by rw [hlen, range_len]; omega) hp3⟩
end
end K00
end

section
set_option maxRecDepth 100000
set_option maxHeartbeats 1000000
namespace K00
open PySem PySem.Spec L2 DL
open PyProof.Rows (boot_int boot_abs boot_list boot_max boot_min boot_range boot_all boot_tuple boot_sorted boot_isinstance boot_enumerate)
section
variable {P : Program} {w : World} {K : PySem.W.Frag} {mg : Str → Option Value} {base : Heap} {f : Addr} {fd : FuncData}
/-! ### _law_size -/
def SSize : Sc := fun c ds Φ _ => PoolOk c ∧ ∃ a b : Int, ds = [.int a, .int b] ∧ (0 ≤ a ∧ a ≤ b ∧ b ≤ 1000) ∧ ∀ r c', a ≤ r → r ≤ b → PoolOk c' → Φ (.int r) c'
theorem use_size {c : D} {a b : Int} {Φ : D → D → Prop} {Ψ : Addr → List (Str × D) → D → Prop} (hp : PoolOk c) (hb : 0 ≤ a ∧ a ≤ b ∧ b ≤ 1000) (h : ∀ r c', a ≤ r → r ≤ b → PoolOk c' → Φ (.int r) c') : SSize c [.int a, .int b] Φ Ψ := ⟨hp, a, b, rfl, hb, h⟩
theorem scSize : FnScope ["pool", "least", "most"] ["pool", "least", "most"] (defScope S__law_size) := ⟨rfl, rfl, rfl, by decide +kernel, rfl, by decide +kernel, by decide +kernel⟩
theorem ok_size (F : FunT K "_law_size" S__law_size f fd) (T : Txt mg) (C_law_draw : Fd P w K mg base 2 "_law_draw" ["pool", "limit"] (spC K SDraw)) : FnD P w K mg base 3 f fd ["pool", "least", "most"] (spC K SSize) := by
  refine fn_C F scSize 2 rfl (by decide) (fun c ds Φ Ψ h => ?_) (fun f cdv A outer s H E hr c p c0 ds Φ Ψ h => ?_)
  · obtain ⟨_, a, b, rfl, _⟩ := h
    rfl
  · obtain ⟨hp, a, b, rfl, hab, h⟩ := h
    refine sv_cons <| s_if <| et_cmp <| ev_cC (i := 0) C_law_draw (hr.mono (by decide)) rfl c.takes rfl rfl (.inl rfl) <| ea_cons <| ev_int <| ea_nil <| xo rfl <| use_draw hp (by decide) fun r c1 r0 r1 hp1 => ev_int <| d_eqi <| xo rfl <| ⟨fun hT => ?_, fun hF => ?_⟩
    · refine sv_cons <| s_ret <| ev_bn rfl T.n_max boot_max <| ea_cons <| ev_name (i := 1) rfl rfl (.inl rfl) <| ea_cons <| ev_op <| ev_name (i := 2) rfl rfl (.inl rfl) <| ev_cC (i := 0) C_law_draw (hr.mono (by decide)) rfl c.takes rfl rfl (.inl rfl) <| ea_cons <| ev_int <| ea_nil <| xo rfl <| use_draw hp1 (by decide) fun r' c2 r0' r1' hp2 => d_sub <| ea_nil <| c_max2 c.calm <| ⟨_, rfl, h _ _ ?_ ?_ hp2⟩
      · split <;> omega
      · split <;> omega
    · exact sv_nil <| sv_cons <| s_ret <| ev_op <| ev_name (i := 1) rfl rfl (.inl rfl) <| ev_cC (i := 0) C_law_draw (hr.mono (by decide)) rfl c.takes rfl rfl (.inl rfl) <| ea_cons <| ev_op <| ev_op <| ev_name (i := 2) rfl rfl (.inl rfl) <| ev_name (i := 1) rfl rfl (.inl rfl) <| d_sub <| ev_int <| d_add <| ea_nil <| xo rfl <| use_draw hp1 (by omega) fun r' c2 r0' r1' hp2 => d_add <| ⟨_, rfl, h _ _ (by omega) (by omega) hp2⟩
/-! ### _law_some -/
def SSome : Sc := fun c ds Φ _ => PoolOk c ∧ ∃ ts : List Str, ds = [.lst (ts.map .str)] ∧ (ts ≠ [] ∧ ts.length ≤ 1000 ∧ ∀ s ∈ ts, (s.cps.all (· < 0x110000)) = true) ∧ ∀ ks c', ks ≠ [] → ks.Sublist ts → PoolOk c' → Φ (.lst (ks.map .str)) c'
theorem use_some {c : D} {ts : List Str} {Φ : D → D → Prop} {Ψ : Addr → List (Str × D) → D → Prop} (hp : PoolOk c) (hb : ts ≠ [] ∧ ts.length ≤ 1000 ∧ ∀ s ∈ ts, (s.cps.all (· < 0x110000)) = true) (h : ∀ ks c', ks ≠ [] → ks.Sublist ts → PoolOk c' → Φ (.lst (ks.map .str)) c') : SSome c [.lst (ts.map .str)] Φ Ψ := ⟨hp, ts, rfl, hb, h⟩
abbrev nSome : List Str := ["pool", "things", "kept", "thing"]
theorem scSome : FnScope nSome ["pool", "things"] (defScope S__law_some) := ⟨rfl, rfl, rfl, by decide +kernel, rfl, by decide +kernel, by decide +kernel⟩
theorem strs_get {ts : List Str} {i : Nat} {d : D} (h : (ts.map D.str)[i]? = some d) : ∃ x, ts[i]? = some x ∧ d = .str x := by
  rw [List.getElem?_map] at h
  cases e : ts[i]? with
  | none => rw [e] at h; cases h
  | some x => rw [e] at h; exact ⟨x, rfl, (Option.some.inj h).symm⟩
theorem strs_atI {ts : List Str} {i : Int} (h0 : 0 ≤ i) (h1 : i < (ts.length : Int)) : ∃ x, x ∈ ts ∧ L2.atI (ts.map D.str) i = some (.str x) := by
  have e : i = ((i.toNat : Nat) : Int) := by omega
  refine ⟨ts[i.toNat]'(by omega), List.getElem_mem _, ?_⟩
  conv => lhs; rw [e]
  refine L2.atI_nat ?_
  rw [List.getElem?_map, List.getElem?_eq_getElem (by omega)]
  rfl
theorem ok_some (F : FunT K "_law_some" S__law_some f fd) (T : Txt mg) (C_law_draw : Fd P w K mg base 2 "_law_draw" ["pool", "limit"] (spC K SDraw)) : FnD P w K mg base 3 f fd ["pool", "things"] (spC K SSome) := by
  refine fn_C F scSome 1 rfl (by decide) (fun c ds Φ Ψ h => ?_) (fun f cdv A outer s H E hr c p c0 ds Φ Ψ h => ?_)
  · obtain ⟨_, a, rfl, _⟩ := h
    rfl
  · obtain ⟨hp, ts, rfl, ⟨hne, hlen, hok⟩, h⟩ := h
    have hu : (cxOf (CX P w) P w K mg base nSome "_law_some" (defScope S__law_some) f cdv A outer s H E).A.units + 64 < cLine := hr.units
    refine sv_cons <| s_ownLc (i := 2) c [("thing", 3)] [] (lcOk1 (blkOk_by (N := nSome) (sc := defScope S__law_some) (by decide +kernel)) (fun _ => rfl) (fun _ _ _ _ _ _ => rfl)) rfl rfl (sw_true rfl rfl rfl (by decide +kernel)) <|
      ei_lst <| ev_name (i := 1) rfl rfl (.inl rfl) <| xo rfl ?_
    refine ⟨fun i G acc => ∃ c' ks, G = [.own p c', .ok (.lst (ts.map .str)), .un, .un] ∧ PoolOk c' ∧ acc = ks.map D.str ∧ ks.Sublist (ts.take i), ⟨c0, [], rfl, hp, rfl, List.Sublist.refl _⟩, fun i d G acc hd hT => ?_, fun G acc hT => ?_⟩
    · obtain ⟨c1, ks, rfl, hp1, rfl, hks⟩ := hT
      obtain ⟨x, hx, rfl⟩ := strs_get hd
      have tk : ts.take (i + 1) = ts.take i ++ [x] := by rw [List.take_add_one, hx]; rfl
      rintro Y ⟨_, _, _, _, _, rfl⟩
      refine gv_name (i := 3) (by decide) rfl (ltb rfl) (.inl rfl) c.nd ?_
      rintro Y ⟨_, _, _, _, _, rfl⟩
      refine ts_one <| et_cmp <| ev_cC (i := 0) C_law_draw (hr.mono (by decide)) rfl takes_false rfl rfl (.inr (.inl rfl)) <| ea_cons <| ev_int <| ea_nil <| xo rfl <| use_draw hp1 (by decide) fun r c2 r0 r1 hp2 => ev_int <| d_eqi <| xo rfl <| ⟨fun hT => ?_, fun hF => ?_⟩
      · rintro Y ⟨_, _, _, _, _, rfl⟩
        refine ev_name (i := 3) rfl rfl (.inl rfl) <| xa ?_ ⟨c2, ks ++ [x], rfl, hp2, snoc_map, ?_⟩
        · rw [List.length_map]
          have h1 := hks.length_le
          rw [List.length_take] at h1
          omega
        · rw [tk]
          exact hks.append (List.Sublist.refl _)
      · refine ⟨c2, ks, rfl, hp2, rfl, ?_⟩
        rw [tk]
        exact hks.trans (List.sublist_append_left _ _)
    · obtain ⟨c1, ks, rfl, hp1, rfl, hks⟩ := hT
      rw [List.length_map, List.take_of_length_le (Nat.le_refl _)] at hks
      refine ⟨ltb rfl, fun q hq => ?_⟩
      refine sv_cons <| s_if <| et_eqO (i := 2) hu rfl rfl (.inl rfl) <| ev_lst <| ea_nil <| xa (leb rfl) <| ⟨_, rfl, shp_strs fun s hs => hok s (hks.subset hs), shp_nil, ?_⟩
      rw [eqv_nil]
      refine ⟨fun hT => ?_, fun hF => ?_⟩
      · have e : ks = [] := by
          cases ks with
          | nil => rfl
          | cons a b => cases hT
        subst e
        have hpos : 0 < ts.length := List.length_pos_iff.mpr hne
        refine sv_cons <| s_append (i := 2) rfl rfl (.inl rfl) <| ev_ix <| ev_name (i := 1) rfl rfl (.inl rfl) <| ev_cC (i := 0) C_law_draw (hr.mono (by decide)) rfl c.takes rfl rfl (.inr (.inl rfl)) <| ea_cons <| ev_b1 rfl T.n_len boot_len <| er_ev <| ev_name (i := 1) rfl rfl (.inl rfl) <| c_len_l <| ea_nil <| xo rfl <| use_draw hp1 (by rw [List.length_map]; omega) fun r c2 r0 r1 hp2 => ?_
        rw [List.length_map] at r1
        obtain ⟨x, hx, ex⟩ := strs_atI (ts := ts) r0 (by omega)
        refine ix_l ex <| ⟨_, rfl, by decide, sv_nil <| sv_cons <| s_retOwn (i := 2) (by decide) rfl rfl (.inl rfl) ⟨c2, rfl, h [x] c2 (by intro z; cases z) (List.singleton_sublist.mpr hx) hp2⟩⟩
      · have e : ks ≠ [] := fun z => by subst z; cases hF
        exact sv_nil <| sv_cons <| s_retOwn (i := 2) (by decide) rfl rfl (.inl rfl) ⟨c1, rfl, h ks c1 e hks hp1⟩
end
end K00
end

section
set_option maxRecDepth 100000
set_option maxHeartbeats 1000000
namespace K00
open PySem PySem.Spec L2 DL
open PyProof.Rows (boot_int boot_abs boot_list boot_max boot_min boot_range boot_all boot_tuple boot_sorted boot_isinstance boot_enumerate)
/-! ### the drawn field -/
abbrev Way := Str × Str × Str
abbrev Gate := Str × Str × Int
abbrev Post' := Str × List Str × List Str
def wayD (w : Way) : D := .tup [.str w.1, .str w.2.1, .str w.2.2]
def gateD (g : Gate) : D := .tup [.str g.1, .str g.2.1, .int g.2.2]
def postD (q : Post') : D := .tup [.str q.1, .lst (q.2.1.map .str), .lst (q.2.2.map .str)]
theorem strOk_name {s : Str} (h : IsName s) : s.cps.all (· < 0x110000) = true := by
  obtain ⟨n, _, l, ds, e, hl, _, hd⟩ := h
  rw [← Array.all_toList, e, List.all_eq_true]
  intro x hx
  rcases List.mem_cons.mp hx with rfl | m
  · exact decide_eq_true (by have := hl.2; omega)
  · exact decide_eq_true (by have := (hd x m).2; omega)
def WaysOk (spots : List Str) (ws : List Way) : Prop := NamesOk (ws.map (·.1)) ∧ ∀ w ∈ ws, w.2.1 ∈ spots ∧ w.2.2 ∈ spots ∧ w.2.1 ≠ w.2.2
def PostsOk (folk ways : List Str) (ps : List Post') : Prop := NamesOk (ps.map (·.1)) ∧ ∀ q ∈ ps, (q.2.1 ≠ [] ∧ q.2.1.Sublist folk) ∧ (q.2.2 ≠ [] ∧ q.2.2.Sublist ways)
theorem lay_ways : ∀ {ws : List Way}, (∀ w ∈ ws, IsName w.1 ∧ IsName w.2.1 ∧ IsName w.2.2) → PyData.canLayAll0 (pys (ws.map wayD)) = true
  | [], _ => rfl
  | w :: ws, h => by
    obtain ⟨h1, h2, h3⟩ := h w List.mem_cons_self
    show ((PyData.str w.1).canLay0 && ((PyData.str w.2.1).canLay0 && ((PyData.str w.2.2).canLay0 && true)) && PyData.canLayAll0 (pys (ws.map wayD))) = true
    rw [lay_ways fun x hx => h x (List.mem_cons_of_mem _ hx), show (PyData.str w.1).canLay0 = true from strOk_name h1, show (PyData.str w.2.1).canLay0 = true from strOk_name h2, show (PyData.str w.2.2).canLay0 = true from strOk_name h3]
    rfl
theorem depth_ways : ∀ {ws : List Way}, PyData.depthAll (pys (ws.map wayD)) ≤ 1
  | [] => Nat.zero_le _
  | w :: ws => Nat.max_le.mpr ⟨Nat.le_refl 1, depth_ways⟩
theorem shp_ways {ws : List Way} (h : ∀ w ∈ ws, IsName w.1 ∧ IsName w.2.1 ∧ IsName w.2.2) : Shp (.lst (ws.map wayD)) := by
  refine Bool.and_eq_true_iff.mpr ⟨lay_ways h, decide_eq_true ?_⟩
  have := depth_ways (ws := ws)
  show PyData.depthAll (pys (ws.map wayD)) + 1 ≤ 64
  omega
section
variable {P : Program} {w : World} {K : PySem.W.Frag} {mg : Str → Option Value} {base : Heap} {f : Addr} {fd : FuncData}
def SPosts : Sc := fun c ds Φ _ => PoolOk c ∧ ∃ (folk : List Str) (ws : List Way) (m : Int), ds = [.lst (folk.map .str), .lst (ws.map wayD), .int m] ∧
  (folk ≠ [] ∧ folk.length ≤ 1000 ∧ NamesOk folk ∧ ws.length ≤ 1000 ∧ NamesOk (ws.map (·.1)) ∧ (∀ w ∈ ws, IsName w.1 ∧ IsName w.2.1 ∧ IsName w.2.2) ∧ 0 ≤ m ∧ m ≤ 26) ∧ ∀ qs c', PostsOk folk (ws.map (·.1)) qs → (qs.length : Int) ≤ m → PoolOk c' → Φ (.lst (qs.map postD)) c'
theorem use_posts {c : D} {folk : List Str} {ws : List Way} {m : Int} {Φ : D → D → Prop} {Ψ : Addr → List (Str × D) → D → Prop} (hp : PoolOk c)
    (hb : folk ≠ [] ∧ folk.length ≤ 1000 ∧ NamesOk folk ∧ ws.length ≤ 1000 ∧ NamesOk (ws.map (·.1)) ∧ (∀ w ∈ ws, IsName w.1 ∧ IsName w.2.1 ∧ IsName w.2.2) ∧ 0 ≤ m ∧ m ≤ 26) (h : ∀ qs c', PostsOk folk (ws.map (·.1)) qs → (qs.length : Int) ≤ m → PoolOk c' → Φ (.lst (qs.map postD)) c') :
    SPosts c [.lst (folk.map .str), .lst (ws.map wayD), .int m] Φ Ψ := ⟨hp, folk, ws, m, rfl, hb, h⟩
abbrev nPosts : List Str := ["pool", "folk", "ways", "most", "posts", "row", "name"]
theorem scPosts : FnScope nPosts ["pool", "folk", "ways", "most"] (defScope S__law_posts) := ⟨rfl, rfl, rfl, by decide +kernel, rfl, by decide +kernel, by decide +kernel⟩
theorem enc_get {α : Type} {enc : α → D} {as : List α} {i : Nat} {d : D} (h : (as.map enc)[i]? = some d) : ∃ x, as[i]? = some x ∧ d = enc x := by
  rw [List.getElem?_map] at h
  cases e : as[i]? with
  | none => rw [e] at h; cases h
  | some x => rw [e] at h; exact ⟨x, rfl, (Option.some.inj h).symm⟩
theorem enc_cut {α : Type} {enc : α → D} {as : List α} {lo hi : Option Int} : cutD (as.map enc) lo hi = (cutD as lo hi).map enc := by
  unfold cutD
  rw [List.length_map, ← List.map_drop, ← List.map_take]
theorem cut_take {α : Type} {as : List α} {m : Int} (h : 0 ≤ m) : cutD as none (some m) = as.take m.toNat := by
  unfold cutD
  rw [HT.sIx_none, List.drop_zero, Nat.sub_zero]
  have e : HT.sIx as.length as.length (some m) = min m.toNat as.length := by
    conv => lhs; rw [show m = ((m.toNat : Nat) : Int) by omega]
    exact HT.sIx_nat _ _ _
  rw [e]
  by_cases c : m.toNat ≤ as.length
  · rw [Nat.min_eq_left c]
  · rw [Nat.min_eq_right (by omega), List.take_length, List.take_of_length_le (by omega)]
theorem ok_posts (F : FunT K "_law_posts" S__law_posts f fd) (T : Txt mg) (C_law_draw : Fd P w K mg base 2 "_law_draw" ["pool", "limit"] (spC K SDraw)) (C_law_names : Fd P w K mg base 3 "_law_names" ["pool", "many"] (spC K SNames))
    (C_law_size : Fd P w K mg base 3 "_law_size" ["pool", "least", "most"] (spC K SSize)) (C_law_some : Fd P w K mg base 3 "_law_some" ["pool", "things"] (spC K SSome)) : FnD P w K mg base 4 f fd ["pool", "folk", "ways", "most"] (spC K SPosts) := by
  refine fn_C F scPosts 3 rfl (by decide) (fun c ds Φ Ψ h => ?_) (fun f cdv A outer s H E hr c p c0 ds Φ Ψ h => ?_)
  · obtain ⟨_, a, b, d, rfl, _⟩ := h
    rfl
  · obtain ⟨hp, folk, ws, m, rfl, ⟨hf0, hf1, hf2, hw1, hw2, hw3, hm0, hm1⟩, h⟩ := h
    have hu : (cxOf (CX P w) P w K mg base nPosts "_law_posts" (defScope S__law_posts) f cdv A outer s H E).A.units + 64 < cLine := hr.units
    have hnil : PostsOk folk (ws.map (·.1)) [] := ⟨⟨List.nodup_nil, fun _ m => (nomatch m)⟩, fun _ m => (nomatch m)⟩
    refine sv_cons <| s_own (i := 4) rfl (.inl rfl) c.nd <| ef_lst <| ea_nil <| xa (leb rfl) <| xa (ltb rfl) fun q hq => ?_
    -- if ways == [] or most == 0
    refine sv_cons <| s_if <| et_w <| ew_or <| et_cmp <| ev_name (i := 2) rfl rfl (.inl rfl) <| ev_lst <| ea_nil <| xa (leb rfl) <| d_eqD hu (shp_ways hw3) shp_nil <| xo rfl <| ⟨fun hT => ?_, fun hF => ?_⟩
    · refine ⟨fun _ => ?_, fun z => nomatch z⟩
      exact sv_cons <| s_retOwn (i := 4) (by decide) rfl rfl (.inl rfl) ⟨c0, rfl, h [] c0 hnil (by simpa using hm0) hp⟩
    rw [eqv_nil] at hF
    have hne : ws ≠ [] := fun z => by subst z; cases hF
    refine ew_or1 <| et_cmp <| ev_name (i := 3) rfl rfl (.inl rfl) <| ev_int <| d_eqi <| xo rfl <| ⟨fun hT => ?_, fun hF => ?_⟩
    · exact sv_cons <| s_retOwn (i := 4) (by decide) rfl rfl (.inl rfl) ⟨c0, rfl, h [] c0 hnil (by simpa using hm0) hp⟩
    refine sv_nil ?_
    -- if _law_draw(pool, 2) == 0
    refine sv_cons <| s_if <| et_cmp <| ev_cC (i := 0) C_law_draw (hr.mono (by decide)) rfl c.takes rfl rfl (.inl rfl) <| ea_cons <| ev_int <| ea_nil <| xo rfl <| use_draw hp (by decide) fun r c1 r0 r1 hp1 => ev_int <| d_eqi <| xo rfl <| ⟨fun hT => ?_, fun hF => ?_⟩
    · refine sv_cons <| s_for c <| ei_lst <| ev_sl <| ev_name (i := 2) rfl rfl (.inl rfl) <| eo_none <| eo_some <| ev_name (i := 3) rfl rfl (.inl rfl) <| xo rfl <| sl_l <| xo rfl ?_
      rw [enc_cut, cut_take hm0]
      generalize hv : ws.take m.toNat = vs
      have hvl : vs.length ≤ ws.length := by rw [← hv, List.length_take]; omega
      have hvm : (vs.length : Int) ≤ m := by rw [← hv, List.length_take]; omega
      have hvs : vs.Sublist ws := by rw [← hv]; exact List.take_sublist _ _
      refine ⟨fun _ => ⟨fun i G => ∃ y, G = [.own p c1, .ok (.lst (folk.map .str)), .ok (.lst (ws.map wayD)), .ok (.int m), .own q (.lst (((vs.take i).map fun v => (v.1, folk, [v.1])).map postD)), y, .un], ⟨_, rfl⟩, fun i d G hd hT => ⟨[5], gv_name (i := 5) (by decide) rfl ?_ (.inl rfl) c.nd ?_⟩, fun G hT => ?_⟩⟩
      · obtain ⟨y, rfl⟩ := hT
        exact ltb rfl
      · obtain ⟨y, rfl⟩ := hT
        obtain ⟨v, hvi, rfl⟩ := enc_get hd
        refine sv_cons <| s_append (i := 4) rfl rfl (.inl rfl) <| ev_tup <| ea_cons <| ev_ix <| ev_name (i := 5) rfl rfl (by first | exact .inl rfl | exact .inr (.inl rfl)) <| ev_int <| ix_t rfl <| ea_cons <| ev_t1 rfl T.n_list boot_list <| er_ev <| ev_name (i := 1) rfl rfl (.inl rfl) <| c_list_l <| ea_cons <| ev_lst <| ea_cons <| ev_ix <| ev_name (i := 5) rfl rfl (by first | exact .inl rfl | exact .inr (.inl rfl)) <| ev_int <| ix_t rfl <| ea_nil <| xa (leb rfl) <| ea_nil <| xa (leb rfl) <| ⟨_, rfl, ?_, sv_nil ⟨.ok (wayD v), ?_⟩⟩
        · rw [List.length_map, List.length_map, List.length_take]; omega
        · rw [List.take_add_one, hvi, List.map_append, List.map_append]
          rfl
      · obtain ⟨y, rfl⟩ := hT
        rw [List.length_map, List.take_of_length_le (Nat.le_refl _)]
        refine sv_cons <| s_retOwn (i := 4) (by decide) rfl rfl (.inl rfl) ⟨c1, rfl, h _ c1 ⟨?_, ?_⟩ (by rw [List.length_map]; exact hvm) hp1⟩
        · rw [List.map_map]
          exact ⟨(hvs.map _).nodup hw2.1, fun x hx => hw2.2 x ((hvs.map _).subset hx)⟩
        · intro z hz
          obtain ⟨v, hv, rfl⟩ := List.mem_map.mp hz
          exact ⟨⟨hf0, List.Sublist.refl _⟩, List.cons_ne_nil _ _, List.singleton_sublist.mpr (List.mem_map.mpr ⟨v, hvs.subset hv, rfl⟩)⟩
    · refine sv_nil ?_
      refine sv_cons <| s_for c <| ei_lst <| ev_cC (i := 0) C_law_names (hr.mono (by decide)) rfl c.takes rfl rfl (.inl rfl) <| ea_cons <| ev_cC (i := 0) C_law_size (hr.mono (by decide)) rfl c.takes rfl rfl (.inl rfl) <| ea_cons <| ev_int <| ea_cons <| ev_name (i := 3) rfl rfl (.inl rfl) <| ea_nil <| xo rfl <| use_size hp1 (by omega) fun r c2 r0 r1 hp2 => ea_nil <| xo rfl <| use_names hp2 (by omega) fun ss c3 hss hsl hp3 => xo rfl ?_
      refine ⟨fun _ => ⟨fun i G => ∃ c' y z qs, G = [.own p c', .ok (.lst (folk.map .str)), .ok (.lst (ws.map wayD)), .ok (.int m), .own q (.lst (qs.map postD)), y, z] ∧ PoolOk c' ∧ qs.length = i ∧ qs.map (·.1) = ss.take i ∧ ∀ q ∈ qs, (q.2.1 ≠ [] ∧ q.2.1.Sublist folk) ∧ (q.2.2 ≠ [] ∧ q.2.2.Sublist (ws.map (·.1))), ⟨c3, _, _, [], rfl, hp3, rfl, rfl, fun _ m => (nomatch m)⟩, fun i d G hd hT => ⟨[6], gv_name (i := 6) (by decide) rfl ?_ (.inl rfl) c.nd ?_⟩, fun G hT => ?_⟩⟩
      · obtain ⟨c4, y, z, qs, rfl, _⟩ := hT
        exact ltb rfl
      · obtain ⟨c4, y, z, qs, rfl, hp4, hql, hqn, hqo⟩ := hT
        obtain ⟨x, hx, rfl⟩ := enc_get (enc := D.str) hd
        have hil : i < ss.length := by
          by_cases l : i < ss.length
          · exact l
          · rw [List.getElem?_eq_none (by omega)] at hx; cases hx
        refine sv_cons <| s_append (i := 4) rfl rfl (.inl rfl) <| ev_tup <| ea_cons <| ev_name (i := 6) rfl rfl (.inl rfl) <| ea_cons <| ev_cC (i := 0) C_law_some (hr.mono (by decide)) rfl c.takes rfl rfl (.inl rfl) <| ea_cons <| ev_name (i := 1) rfl rfl (.inl rfl) <| ea_nil <| xo rfl <| use_some hp4 ⟨hf0, hf1, fun s hs => strOk_name (hf2.2 s hs)⟩ fun ks c5 k0 k1 hp5 => ?_
        refine ea_cons <| ev_cC (i := 0) C_law_some (hr.mono (by decide)) rfl c.takes rfl rfl (.inl rfl) <| ea_cons <| EF.ev <| ef_lc c [("row", 5)] [] (lcOk1 (blkOk_by (N := nPosts) (sc := defScope S__law_posts) (by decide +kernel)) (fun _ => rfl) (fun _ _ _ _ _ _ => rfl)) <| ei_lst <| ev_name (i := 2) rfl rfl (.inl rfl) <| xo rfl ?_
        refine clp_map wayD (fun v : Way => D.str v.1) ws (fun a => [.own p c5, .ok (.lst (folk.map .str)), .ok (.lst (ws.map wayD)), .ok (.int m), .own q (.lst (qs.map postD)), .ok (wayD a), .ok (.str x)]) (by omega) (fun Y hY a Φ h => ?_) (fun a => rfl) (fun Y hY a ha Φ h => ?_) ?_
        · obtain ⟨_, _, _, _, _, rfl⟩ := hY
          exact gv_name (i := 5) (by decide) rfl (ltb rfl) (.inl rfl) c.nd h
        · obtain ⟨_, _, _, _, _, rfl⟩ := hY
          exact ev_ix <| ev_name (i := 5) rfl rfl (.inl rfl) <| ev_int <| ix_t rfl h
        · rw [show ws.map (fun v : Way => D.str v.1) = (ws.map (·.1)).map D.str by rw [List.map_map]; rfl]
          refine ea_nil <| xo rfl <| use_some hp5 ⟨fun z => hne (List.map_eq_nil_iff.mp z), by rw [List.length_map]; exact hw1, fun s hs => strOk_name (hw2.2 s hs)⟩ fun js c6 j0 j1 hp6 => ?_
          refine ea_nil <| xa (leb rfl) <| ⟨_, rfl, by rw [List.length_map]; omega, sv_nil ⟨c6, .un, .ok (.str x), qs ++ [(x, ks, js)], ?_, hp6, by rw [List.length_append, hql]; rfl, ?_, ?_⟩⟩
          · rw [List.map_append]
            rfl
          · rw [List.map_append, hqn, List.take_add_one, hx]
            rfl
          · intro z hz
            rcases List.mem_append.mp hz with hm | hm
            · exact hqo z hm
            · rw [List.mem_singleton.mp hm]
              exact ⟨⟨k0, k1⟩, j0, j1⟩
      · obtain ⟨c4, y, z, qs, rfl, hp4, hql, hqn, hqo⟩ := hT
        rw [List.length_map] at hql hqn
        rw [List.take_of_length_le (Nat.le_refl _)] at hqn
        exact sv_cons <| s_retOwn (i := 4) (by decide) rfl rfl (.inl rfl) ⟨c4, rfl, h qs c4 ⟨by rw [hqn]; exact hss, hqo⟩ (by rw [hql]; omega) hp4⟩
end
end K00
end

section
set_option maxRecDepth 100000
set_option maxHeartbeats 1000000
namespace K00
open PySem PySem.Spec L2 DL
open PyProof.Rows (boot_int boot_abs boot_list boot_max boot_min boot_range boot_all boot_tuple boot_sorted boot_isinstance boot_enumerate)
structure Fld where
  hours : Int
  spots : List Str
  folk : List Str
  ways : List Way
  shut : List Gate
  posts : List Post'
def Fld.d (F : Fld) : D := .lst [.int F.hours, .lst (F.spots.map .str), .lst (F.folk.map .str), .lst (F.ways.map wayD), .lst (F.shut.map gateD), .lst (F.posts.map postD)]
/-- gates: of each walker and path at most one -/
def GatesOk (hours : Int) (folk ways : List Str) (gs : List Gate) : Prop := (gs.map fun g => (g.1, g.2.1)).Nodup ∧ ∀ g ∈ gs, g.1 ∈ folk ∧ g.2.1 ∈ ways ∧ 0 ≤ g.2.2 ∧ g.2.2 ≤ hours
structure FldOk (m0 m1 m2 m3 m4 : Int) (F : Fld) : Prop where
  hours : 1 ≤ F.hours ∧ F.hours ≤ m0
  spots : NamesOk F.spots ∧ F.spots ≠ [] ∧ (F.spots.length : Int) ≤ m1
  folk : NamesOk F.folk ∧ F.folk ≠ [] ∧ (F.folk.length : Int) ≤ m2
  ways : WaysOk F.spots F.ways ∧ (F.ways.length : Int) ≤ m3
  shut : GatesOk F.hours F.folk (F.ways.map (·.1)) F.shut
  posts : PostsOk F.folk (F.ways.map (·.1)) F.posts ∧ (F.posts.length : Int) ≤ m4
section
variable {P : Program} {w : World} {K : PySem.W.Frag} {mg : Str → Option Value} {base : Heap} {f : Addr} {fd : FuncData}
def SField : Sc := fun c ds Φ _ => PoolOk c ∧ ∃ m0 m1 m2 m3 m4 : Int, ds = [.lst [.int m0, .int m1, .int m2, .int m3, .int m4]] ∧ (1 ≤ m0 ∧ m0 ≤ 26 ∧ 1 ≤ m1 ∧ m1 ≤ 26 ∧ 1 ≤ m2 ∧ m2 ≤ 26 ∧ 0 ≤ m3 ∧ m3 ≤ 26 ∧ 0 ≤ m4 ∧ m4 ≤ 26) ∧
  ∀ F c', FldOk m0 m1 m2 m3 m4 F → PoolOk c' → Φ F.d c'
abbrev nField : List Str := ["pool", "most", "hours", "spots", "folk", "ways", "name", "one", "two", "shut", "who", "row"]
theorem scField : FnScope nField ["pool", "most"] (defScope S__law_field) := ⟨rfl, rfl, rfl, by decide +kernel, rfl, by decide +kernel, by decide +kernel⟩
theorem nodup_of {α β : Type} {f : α → β} {l : List α} (h : (l.map f).Nodup) : l.Nodup := by
  unfold List.Nodup at h ⊢
  rw [List.pairwise_map] at h
  exact h.imp fun h e => h (by rw [e])
theorem ne_of_len {α : Type} {l : List α} {n : Int} (h : (l.length : Int) = n) (h1 : 1 ≤ n) : l ≠ [] := fun e => by
  subst e
  simp at h
  omega
theorem ok_field (F : FunT K "_law_field" S__law_field f fd) (T : Txt mg) (C_law_draw : Fd P w K mg base 2 "_law_draw" ["pool", "limit"] (spC K SDraw)) (C_law_names : Fd P w K mg base 3 "_law_names" ["pool", "many"] (spC K SNames))
    (C_law_size : Fd P w K mg base 3 "_law_size" ["pool", "least", "most"] (spC K SSize)) (C_law_posts : Fd P w K mg base 4 "_law_posts" ["pool", "folk", "ways", "most"] (spC K SPosts)) : FnD P w K mg base 5 f fd ["pool", "most"] (spC K SField) := by
  refine fn_C F scField 1 rfl (by decide) (fun c ds Φ Ψ h => ?_) (fun f cdv A outer s H E hr c p c0 ds Φ Ψ h => ?_)
  · obtain ⟨_, _, _, _, _, _, rfl, _⟩ := h
    rfl
  · obtain ⟨hp, m0, m1, m2, m3, m4, rfl, hm, h⟩ := h
    generalize hMo : D.lst [.int m0, .int m1, .int m2, .int m3, .int m4] = most
    -- hours, spots, folk
    refine sv_cons <| s_set (i := 2) rfl (.inl rfl) c.nd <| ev_cC (i := 0) C_law_size (hr.mono (by decide)) rfl c.takes rfl rfl (.inl rfl) <| ea_cons <| ev_int <| ea_cons <| ev_ix <| ev_name (i := 1) (d := D.lst [.int m0, .int m1, .int m2, .int m3, .int m4]) (by rw [← hMo]; rfl) rfl (.inl rfl) <| ev_int <| ix_l rfl <| ea_nil <| xo rfl <| use_size hp (by omega) fun hours c1 ha hb hp1 => xa (ltb rfl) ?_
    refine sv_cons <| s_set (i := 3) rfl (.inl rfl) c.nd <| ev_cC (i := 0) C_law_names (hr.mono (by decide)) rfl c.takes rfl rfl (.inl rfl) <| ea_cons <| ev_cC (i := 0) C_law_size (hr.mono (by decide)) rfl c.takes rfl rfl (.inl rfl) <| ea_cons <| ev_int <| ea_cons <| ev_ix <| ev_name (i := 1) (d := D.lst [.int m0, .int m1, .int m2, .int m3, .int m4]) (by rw [← hMo]; rfl) rfl (.inl rfl) <| ev_int <| ix_l rfl <| ea_nil <| xo rfl <| use_size hp1 (by omega) fun r1 c2 ha1 hb1 hp2 => ea_nil <| xo rfl <| use_names hp2 (by omega) fun spots c3 hsp hspl hp3 => xa (ltb rfl) ?_
    refine sv_cons <| s_set (i := 4) rfl (.inl rfl) c.nd <| ev_cC (i := 0) C_law_names (hr.mono (by decide)) rfl c.takes rfl rfl (.inl rfl) <| ea_cons <| ev_cC (i := 0) C_law_size (hr.mono (by decide)) rfl c.takes rfl rfl (.inl rfl) <| ea_cons <| ev_int <| ea_cons <| ev_ix <| ev_name (i := 1) (d := D.lst [.int m0, .int m1, .int m2, .int m3, .int m4]) (by rw [← hMo]; rfl) rfl (.inl rfl) <| ev_int <| ix_l rfl <| ea_nil <| xo rfl <| use_size hp3 (by omega) fun r2 c4 ha2 hb2 hp4 => ea_nil <| xo rfl <| use_names hp4 (by omega) fun folk c5 hfo hfol hp5 => xa (ltb rfl) ?_
    -- ways = []
    refine sv_cons <| s_own (i := 5) rfl (.inl rfl) c.nd <| ef_lst <| ea_nil <| xa (leb rfl) <| xa (ltb rfl) fun q hq => ?_
    -- if len(spots) > 1
    refine sv_cut (fun G => ∃ c' ws y6 y7 y8, G = [.own p c', .ok most, .ok (.int hours), .ok (.lst (spots.map .str)), .ok (.lst (folk.map .str)), .own q (.lst (ws.map wayD)), y6, y7, y8, .un, .un, .un] ∧ PoolOk c' ∧ WaysOk spots ws ∧ (ws.length : Int) ≤ m3)
      (s_if <| et_cmp <| ev_b1 rfl T.n_len boot_len <| er_ev <| ev_name (i := 3) rfl rfl (.inl rfl) <| c_len_l <| ev_int <| d_gt <| xo rfl <| ⟨fun hT => ?_, fun hF => ?_⟩) (fun G hJ => ?_)
    · replace hT := of_decide_eq_true hT
      rw [List.length_map] at hT
      refine sv_cons <| s_for c <| ei_lst <| ev_cC (i := 0) C_law_names (hr.mono (by decide)) rfl c.takes rfl rfl (.inl rfl) <| ea_cons <| ev_cC (i := 0) C_law_size (hr.mono (by decide)) rfl c.takes rfl rfl (.inl rfl) <| ea_cons <| ev_int <| ea_cons <| ev_ix <| ev_name (i := 1) (d := D.lst [.int m0, .int m1, .int m2, .int m3, .int m4]) (by rw [← hMo]; rfl) rfl (.inl rfl) <| ev_int <| ix_l rfl <| ea_nil <| xo rfl <| use_size hp5 (by omega) fun r3 c6 ha3 hb3 hp6 => ea_nil <| xo rfl <| use_names hp6 (by omega) fun ns c7 hns hnsl hp7 => xo rfl ?_
      refine ⟨fun _ => ⟨fun i G => ∃ c' ws y6 y7 y8, G = [.own p c', .ok most, .ok (.int hours), .ok (.lst (spots.map .str)), .ok (.lst (folk.map .str)), .own q (.lst (ws.map wayD)), y6, y7, y8, .un, .un, .un] ∧ PoolOk c' ∧ ws.map (·.1) = ns.take i ∧ ws.length = i ∧ ∀ w ∈ ws, w.2.1 ∈ spots ∧ w.2.2 ∈ spots ∧ w.2.1 ≠ w.2.2,
        ⟨c7, [], _, _, _, rfl, hp7, rfl, rfl, fun _ m => (nomatch m)⟩, fun i d G hd hT => ⟨[6], gv_name (i := 6) (by decide) rfl ?_ (.inl rfl) c.nd ?_⟩, fun G hT => ?_⟩⟩
      · obtain ⟨_, _, _, _, _, rfl, _⟩ := hT
        exact ltb rfl
      · obtain ⟨c8, ws, y6, y7, y8, rfl, hp8, hwn, hwl, hwo⟩ := hT
        obtain ⟨x, hx, rfl⟩ := enc_get (enc := D.str) hd
        have hil : i < ns.length := by
          by_cases l : i < ns.length
          · exact l
          · rw [List.getElem?_eq_none (by omega)] at hx; cases hx
        -- one, two
        refine sv_cons <| s_set (i := 7) rfl (.inl rfl) c.nd <| ev_cC (i := 0) C_law_draw (hr.mono (by decide)) rfl c.takes rfl rfl (.inl rfl) <| ea_cons <| ev_b1 rfl T.n_len boot_len <| er_ev <| ev_name (i := 3) rfl rfl (.inl rfl) <| c_len_l <| ea_nil <| xo rfl <| use_draw hp8 (by rw [List.length_map]; omega) fun one c9 o0 o1 hp9 => xa (ltb rfl) ?_
        rw [List.length_map] at o1
        refine sv_cons <| s_set (i := 8) rfl (.inl rfl) c.nd <| ev_cC (i := 0) C_law_draw (hr.mono (by decide)) rfl c.takes rfl rfl (.inl rfl) <| ea_cons <| ev_op <| ev_b1 rfl T.n_len boot_len <| er_ev <| ev_name (i := 3) rfl rfl (.inl rfl) <| c_len_l <| ev_int <| d_sub <| ea_nil <| xo rfl <| use_draw hp9 (by rw [List.length_map]; omega) fun two c10 t0 t1 hp10 => xa (ltb rfl) ?_
        rw [List.length_map] at t1
        -- if two >= one: two = two + 1
        refine sv_cut (fun G => ∃ two', G = [.own p c10, .ok most, .ok (.int hours), .ok (.lst (spots.map .str)), .ok (.lst (folk.map .str)), .own q (.lst (ws.map wayD)), .ok (.str x), .ok (.int one), .ok (.int two'), .un, .un, .un] ∧ 0 ≤ two' ∧ two' < (spots.length : Int) ∧ two' ≠ one)
          (s_if <| et_cmp <| ev_name (i := 8) rfl rfl (.inl rfl) <| ev_name (i := 7) rfl rfl (.inl rfl) <| d_ge <| xo rfl <| ⟨fun hT2 => ?_, fun hF2 => ?_⟩) (fun G hJ => ?_)
        · replace hT2 := of_decide_eq_true hT2
          exact sv_cons <| s_set (i := 8) rfl (.inl rfl) c.nd <| ev_op <| ev_name (i := 8) rfl rfl (.inl rfl) <| ev_int <| d_add <| xa (ltb rfl) <| sv_nil ⟨_, rfl, by omega, by omega, by omega⟩
        · replace hF2 := of_decide_eq_false hF2
          exact sv_nil ⟨_, rfl, by omega, by omega, by omega⟩
        obtain ⟨two', rfl, w0, w1, w2⟩ := hJ
        obtain ⟨a, ha', ea⟩ : ∃ a, spots[one.toNat]? = some a ∧ L2.atI (spots.map D.str) one = some (.str a) := by
          refine ⟨spots[one.toNat]'(by omega), List.getElem?_eq_getElem _, ?_⟩
          conv => lhs; rw [show one = ((one.toNat : Nat) : Int) by omega]
          refine L2.atI_nat ?_
          rw [List.getElem?_map, List.getElem?_eq_getElem (by omega)]
          rfl
        obtain ⟨b, hb', eb⟩ : ∃ b, spots[two'.toNat]? = some b ∧ L2.atI (spots.map D.str) two' = some (.str b) := by
          refine ⟨spots[two'.toNat]'(by omega), List.getElem?_eq_getElem _, ?_⟩
          conv => lhs; rw [show two' = ((two'.toNat : Nat) : Int) by omega]
          refine L2.atI_nat ?_
          rw [List.getElem?_map, List.getElem?_eq_getElem (by omega)]
          rfl
        have hab : a ≠ b := fun e => by
          subst e
          have := (List.getElem?_inj (i := one.toNat) (j := two'.toNat) (by omega) hsp.1).mp (ha'.trans hb'.symm)
          omega
        refine sv_cons <| s_append (i := 5) rfl rfl (.inl rfl) <| ev_tup <| ea_cons <| ev_name (i := 6) rfl rfl (.inl rfl) <| ea_cons <| ev_ix <| ev_name (i := 3) rfl rfl (.inl rfl) <| ev_name (i := 7) rfl rfl (.inl rfl) <| ix_l ea <| ea_cons <| ev_ix <| ev_name (i := 3) rfl rfl (.inl rfl) <| ev_name (i := 8) rfl rfl (.inl rfl) <| ix_l eb <| ea_nil <| xa (leb rfl) <| ⟨_, rfl, by rw [List.length_map]; omega, sv_nil ⟨c10, ws ++ [(x, a, b)], .ok (.str x), .ok (.int one), .ok (.int two'), ?_, hp10, ?_, by rw [List.length_append, hwl]; rfl, ?_⟩⟩
        · rw [List.map_append]; rfl
        · rw [List.map_append, hwn, List.take_add_one, hx]; rfl
        · intro z hz
          rcases List.mem_append.mp hz with hm | hm
          · exact hwo z hm
          · rw [List.mem_singleton.mp hm]
            exact ⟨List.mem_of_getElem? ha', List.mem_of_getElem? hb', hab⟩
      · obtain ⟨c8, ws, y6, y7, y8, rfl, hp8, hwn, hwl, hwo⟩ := hT
        rw [List.length_map] at hwn hwl
        rw [List.take_of_length_le (Nat.le_refl _)] at hwn
        exact sv_nil ⟨c8, ws, y6, y7, y8, rfl, hp8, ⟨by rw [hwn]; exact hns, hwo⟩, by rw [hwl]; omega⟩
    · exact sv_nil ⟨c5, [], .un, .un, .un, rfl, hp5, ⟨⟨List.nodup_nil, fun _ m => (nomatch m)⟩, fun _ m => (nomatch m)⟩, by simp; omega⟩
    obtain ⟨c6, ws, y6, y7, y8, rfl, hp6, hws, hwl⟩ := hJ
    refine sv_rel (i := 5) rfl hq ?_
    -- shut = []
    refine sv_cons <| s_own (i := 9) rfl (.inl rfl) c.nd <| ef_lst <| ea_nil <| xa (leb rfl) <| xa (ltb rfl) fun q2 hq2 => ?_
    -- for who in folk: for row in ways
    refine sv_cut (fun G => ∃ c' gs y10 y11, G = [.own p c', .ok most, .ok (.int hours), .ok (.lst (spots.map .str)), .ok (.lst (folk.map .str)), .ok (.lst (ws.map wayD)), y6, y7, y8, .own q2 (.lst (gs.map gateD)), y10, y11] ∧ PoolOk c' ∧ GatesOk hours folk (ws.map (·.1)) gs)
      (s_for c <| ei_lst <| ev_name (i := 4) rfl rfl (.inl rfl) <| xo rfl ?_) (fun G hJ => ?_)
    · refine ⟨fun _ => ⟨fun i G => ∃ c' gs y10 y11, G = [.own p c', .ok most, .ok (.int hours), .ok (.lst (spots.map .str)), .ok (.lst (folk.map .str)), .ok (.lst (ws.map wayD)), y6, y7, y8, .own q2 (.lst (gs.map gateD)), y10, y11] ∧ PoolOk c' ∧ GatesOk hours (folk.take i) (ws.map (·.1)) gs ∧ gs.length ≤ 30 * i,
        ⟨c6, [], _, _, rfl, hp6, ⟨List.nodup_nil, fun _ m => (nomatch m)⟩, Nat.le_refl _⟩, fun i d G hd hT => ⟨[10], gv_name (i := 10) (by decide) rfl ?_ (.inl rfl) c.nd ?_⟩, fun G hT => ?_⟩⟩
      · obtain ⟨_, _, _, _, rfl, _⟩ := hT
        exact ltb rfl
      · obtain ⟨c7, gs, y10, y11, rfl, hp7, hgs, hgl⟩ := hT
        obtain ⟨who, hwho, rfl⟩ := enc_get (enc := D.str) hd
        have hil : i < folk.length := by
          by_cases l : i < folk.length
          · exact l
          · rw [List.getElem?_eq_none (by omega)] at hwho; cases hwho
        have hnew : who ∉ folk.take i := fun hm => by
          obtain ⟨j, hj, e⟩ := List.getElem_of_mem hm
          rw [List.length_take] at hj
          rw [List.getElem_take] at e
          have e2 : folk[j]? = folk[i]? := by rw [hwho, ← e]; exact List.getElem?_eq_getElem _
          have := (List.getElem?_inj (i := j) (j := i) (by omega) hfo.1).mp e2
          omega
        refine sv_cons <| s_for c <| ei_lst <| ev_name (i := 5) rfl rfl (.inl rfl) <| xo rfl ?_
        refine ⟨fun _ => ⟨fun j G => ∃ c' hs y11, G = [.own p c', .ok most, .ok (.int hours), .ok (.lst (spots.map .str)), .ok (.lst (folk.map .str)), .ok (.lst (ws.map wayD)), y6, y7, y8, .own q2 (.lst ((gs ++ hs).map gateD)), .ok (.str who), y11] ∧ PoolOk c' ∧ hs.length ≤ j ∧ (hs.map (·.2.1)).Sublist ((ws.map (·.1)).take j) ∧ ∀ g ∈ hs, g.1 = who ∧ 0 ≤ g.2.2 ∧ g.2.2 ≤ hours,
          ⟨c7, [], _, by rw [List.append_nil]; rfl, hp7, Nat.le_refl _, List.Sublist.refl _, fun _ m => (nomatch m)⟩, fun j d G hd hT => ⟨[11], gv_name (i := 11) (by decide) rfl ?_ (.inl rfl) c.nd ?_⟩, fun G hT => ?_⟩⟩
        · obtain ⟨_, _, _, rfl, _⟩ := hT
          exact ltb rfl
        · obtain ⟨c8, hs, y11, rfl, hp8, hhl, hsub, hho⟩ := hT
          obtain ⟨row, hrow, rfl⟩ := enc_get hd
          have hjl : j < ws.length := by
            by_cases l : j < ws.length
            · exact l
            · rw [List.getElem?_eq_none (by omega)] at hrow; cases hrow
          have tk : (ws.map (·.1)).take (j + 1) = (ws.map (·.1)).take j ++ [row.1] := by rw [List.take_add_one, List.getElem?_map, hrow]; rfl
          refine sv_cons <| s_if <| et_cmp <| ev_cC (i := 0) C_law_draw (hr.mono (by decide)) rfl c.takes rfl rfl (.inl rfl) <| ea_cons <| ev_int <| ea_nil <| xo rfl <| use_draw hp8 (by decide) fun r c9 r0 r1 hp9 => ev_int <| d_eqi <| xo rfl <| ⟨fun hT => ?_, fun hF => ?_⟩
          · refine sv_cons <| s_append (i := 9) rfl rfl (.inl rfl) <| ev_tup <| ea_cons <| ev_name (i := 10) rfl rfl (.inl rfl) <| ea_cons <| ev_ix <| ev_name (i := 11) rfl rfl (.inl rfl) <| ev_int <| ix_t rfl <| ea_cons <| ev_cC (i := 0) C_law_draw (hr.mono (by decide)) rfl c.takes rfl rfl (.inl rfl) <| ea_cons <| ev_op <| ev_name (i := 2) rfl rfl (.inl rfl) <| ev_int <| d_add <| ea_nil <| xo rfl <| use_draw hp9 (by omega) fun hh c10 h0 h1 hp10 => ea_nil <| xa (leb rfl) <| ⟨_, rfl, ?_, sv_nil <| sv_nil ⟨c10, hs ++ [(who, row.1, hh)], .ok (wayD row), ?_, hp10, ?_, ?_, ?_⟩⟩
            · rw [List.length_map, List.length_append]; omega
            · rw [← List.append_assoc, List.map_append (l₁ := gs ++ hs)]
              rfl
            · rw [List.length_append, List.length_singleton]; omega
            · rw [List.map_append, tk]
              exact hsub.append (List.Sublist.refl _)
            · intro g hg
              rcases List.mem_append.mp hg with hm | hm
              · exact hho g hm
              · rw [List.mem_singleton.mp hm]
                exact ⟨rfl, h0, show hh ≤ hours by omega⟩
          · refine sv_nil <| sv_nil ⟨c9, hs, _, rfl, hp9, by omega, ?_, hho⟩
            rw [tk]
            exact hsub.trans (List.sublist_append_left _ _)
        · obtain ⟨c8, hs, y11, rfl, hp8, hhl, hsub, hho⟩ := hT
          rw [List.length_map] at hhl hsub
          rw [List.take_of_length_le (by rw [List.length_map]; exact Nat.le_refl _)] at hsub
          refine sv_nil ⟨c8, gs ++ hs, _, _, rfl, hp8, ⟨?_, ?_⟩, by rw [List.length_append]; omega⟩
          · rw [List.map_append]
            refine List.nodup_append.mpr ⟨hgs.1, ?_, ?_⟩
            · refine nodup_of (f := fun x : Str × Str => x.2) ?_
              rw [List.map_map]
              exact hsub.nodup hws.1.1
            · intro x hx y hy e
              subst e
              obtain ⟨g, hg, rfl⟩ := List.mem_map.mp hx
              obtain ⟨g2, hg2, e2⟩ := List.mem_map.mp hy
              have e3 : g2.1 = g.1 := congrArg (fun x : Str × Str => x.1) e2
              have e4 : g.1 = who := by rw [← e3]; exact (hho g2 hg2).1
              exact hnew (e4 ▸ (hgs.2 g hg).1)
          · intro g hg
            rw [List.take_add_one, hwho]
            rcases List.mem_append.mp hg with hm | hm
            · obtain ⟨g1, g2, g3⟩ := hgs.2 g hm
              exact ⟨List.mem_append_left _ g1, g2, g3⟩
            · obtain ⟨g1, g2, g3⟩ := hho g hm
              exact ⟨List.mem_append_right _ (by rw [g1]; exact List.mem_singleton.mpr rfl), hsub.subset (List.mem_map.mpr ⟨g, hm, rfl⟩), g2, g3⟩
      · obtain ⟨c7, gs, y10, y11, rfl, hp7, hgs, _⟩ := hT
        rw [List.length_map, List.take_of_length_le (Nat.le_refl _)] at hgs
        exact ⟨c7, gs, y10, y11, rfl, hp7, hgs⟩
    obtain ⟨c7, gs, y10, y11, rfl, hp7, hgs⟩ := hJ
    refine sv_rel (i := 9) rfl hq2 ?_
    -- return
    have hfne := ne_of_len hfol ha2
    have hsne := ne_of_len hspl ha1
    refine sv_cons <| s_ret <| ev_lst <| ea_cons <| ev_name (i := 2) rfl rfl (.inl rfl) <| ea_cons <| ev_name (i := 3) rfl rfl (.inl rfl) <| ea_cons <| ev_name (i := 4) rfl rfl (.inl rfl) <| ea_cons <| ev_name (i := 5) rfl rfl (.inl rfl) <| ea_cons <| ev_name (i := 9) rfl rfl (.inl rfl) <| ea_cons <| ev_cC (i := 0) C_law_posts (hr.mono (by decide)) rfl c.takes rfl rfl (.inl rfl) <| ea_cons <| ev_name (i := 4) rfl rfl (.inl rfl) <| ea_cons <| ev_name (i := 5) rfl rfl (.inl rfl) <| ea_cons <| ev_ix <| ev_name (i := 1) (d := D.lst [.int m0, .int m1, .int m2, .int m3, .int m4]) (by rw [← hMo]; rfl) rfl (.inl rfl) <| ev_int <| ix_l rfl <| ea_nil <| xo rfl <|
      use_posts hp7 ⟨hfne, by omega, hfo, by omega, hws.1, fun w hw => ⟨hws.1.2 _ (List.mem_map.mpr ⟨w, hw, rfl⟩), hsp.2 _ (hws.2 w hw).1, hsp.2 _ (hws.2 w hw).2.1⟩, by omega, by omega⟩ fun qs c8 hqs hql hp8 => ea_nil <| xa (leb rfl) ⟨c8, rfl, h ⟨hours, spots, folk, ws, gs, qs⟩ c8 ⟨⟨ha, hb⟩, ⟨hsp, hsne, show (spots.length : Int) ≤ m1 by omega⟩, ⟨hfo, hfne, show (folk.length : Int) ≤ m2 by omega⟩, ⟨hws, hwl⟩, hgs, ⟨hqs, hql⟩⟩ hp8⟩
end
end K00
end

section
set_option maxRecDepth 100000
set_option maxHeartbeats 1000000
namespace K00
open PySem PySem.Spec L2 DL
/-! ### names shared with the places -/
def sharedOf (as bs : List Str) : List Str := (as ++ bs.filter fun x => !decide (x ∈ as)).take bs.length
theorem nodup_sub_len {α : Type} [DecidableEq α] : ∀ {bs as : List α}, bs.Nodup → (∀ x ∈ bs, x ∈ as) → bs.length ≤ as.length
  | [], as, _, _ => Nat.zero_le _
  | b :: bs, as, hn, hs => by
    have hb := hs b List.mem_cons_self
    have h1 : bs.length ≤ (as.erase b).length := nodup_sub_len (List.nodup_cons.mp hn).2 fun x hx => by
      have ne : x ≠ b := fun e => (List.nodup_cons.mp hn).1 (e ▸ hx)
      exact (List.mem_erase_of_ne ne).mpr (hs x (List.mem_cons_of_mem _ hx))
    have h2 := List.length_erase_of_mem hb
    have h3 : 0 < as.length := List.length_pos_of_mem hb
    rw [List.length_cons]
    omega
theorem filter_split {α : Type} (p : α → Bool) : ∀ bs : List α, bs.length = (bs.filter p).length + (bs.filter fun x => !p x).length
  | [] => rfl
  | b :: bs => by
    rw [List.length_cons, filter_split p bs]
    cases c : p b
    · rw [List.filter_cons_of_neg (by rw [c]; exact Bool.false_ne_true), List.filter_cons_of_pos (by rw [c]; rfl), List.length_cons]
      omega
    · rw [List.filter_cons_of_pos c, List.filter_cons_of_neg (by rw [c]; exact Bool.false_ne_true), List.length_cons]
      omega
theorem shared_len {as bs : List Str} (hb : bs.Nodup) : (sharedOf as bs).length = bs.length := by
  have h1 := filter_split (fun x => decide (x ∈ as)) bs
  have h2 : (bs.filter fun x => decide (x ∈ as)).length ≤ as.length := nodup_sub_len (hb.sublist List.filter_sublist) fun x hx => of_decide_eq_true (List.mem_filter.mp hx).2
  unfold sharedOf
  rw [List.length_take, List.length_append]
  omega
theorem shared_ok {as bs : List Str} (ha : NamesOk as) (hb : NamesOk bs) : NamesOk (sharedOf as bs) := by
  have h : NamesOk (as ++ bs.filter fun x => !decide (x ∈ as)) := by
    refine ⟨List.nodup_append.mpr ⟨ha.1, hb.1.sublist List.filter_sublist, fun x hx y hy e => ?_⟩, fun x hx => ?_⟩
    · subst e
      have := (List.mem_filter.mp hy).2
      rw [decide_eq_true hx] at this
      cases this
    · rcases List.mem_append.mp hx with m | m
      · exact ha.2 x m
      · exact hb.2 x (List.mem_filter.mp m).1
  exact ⟨h.1.sublist (List.take_sublist _ _), fun x hx => h.2 x (List.mem_of_mem_take hx)⟩
/-! the dict of new names -/
def wD (bs rs : List Str) : List (Key × D) := (bs.zip rs).map fun p => (.inr p.1, .str p.2)
def ren (bs rs : List Str) (x : Str) : Str := ((bs.zip rs).lookup x).getD x
theorem wD_get {x : Str} : ∀ {bs rs : List Str}, bs.length = rs.length → x ∈ bs → getD' (wD bs rs) (.inr x) = some (.str (ren bs rs x))
  | [], _, _, h => nomatch h
  | b :: bs, [], e, _ => nomatch e
  | b :: bs, r :: rs, e, h => by
    unfold wD getD' ren
    rw [List.zip_cons_cons, List.map_cons, List.find?_cons, List.lookup_cons]
    by_cases c : b = x
    · subst c
      simp
    · have c2 : (x == b) = false := by simpa using fun z => c z.symm
      have c3 : decide ((Sum.inr b : Key) = Sum.inr x) = false := decide_eq_false fun z => c (Sum.inr.inj z)
      simp only [c2, c3]
      exact wD_get (Nat.succ.inj e) ((List.mem_cons.mp h).resolve_left fun z => c z.symm)
theorem ren_map : ∀ {bs rs : List Str}, bs.length = rs.length → bs.Nodup → bs.map (ren bs rs) = rs
  | [], [], _, _ => rfl
  | [], _ :: _, e, _ => nomatch e
  | b :: bs, [], e, _ => nomatch e
  | b :: bs, r :: rs, e, hn => by
    rw [List.map_cons]
    have h1 : ren (b :: bs) (r :: rs) b = r := by
      unfold ren
      rw [List.zip_cons_cons, List.lookup_cons, beq_self_eq_true]
      rfl
    rw [h1]
    congr 1
    conv => rhs; rw [← ren_map (Nat.succ.inj e) (List.nodup_cons.mp hn).2]
    refine List.map_congr_left fun x hx => ?_
    have c : (x == b) = false := by simpa using fun z : x = b => (List.nodup_cons.mp hn).1 (z ▸ hx)
    unfold ren
    rw [List.zip_cons_cons, List.lookup_cons, c]
theorem map_inj_on {α β : Type} {f : α → β} : ∀ {l : List α}, (l.map f).Nodup → ∀ {x y : α}, x ∈ l → y ∈ l → f x = f y → x = y
  | [], _, _, _, h, _, _ => nomatch h
  | a :: l, hn, x, y, hx, hy, e => by
    rw [List.map_cons, List.nodup_cons] at hn
    rcases List.mem_cons.mp hx with rfl | mx
    · rcases List.mem_cons.mp hy with rfl | my
      · rfl
      · exact absurd (List.mem_map.mpr ⟨y, my, e.symm⟩) hn.1
    · rcases List.mem_cons.mp hy with rfl | my
      · exact absurd (List.mem_map.mpr ⟨x, mx, e⟩) hn.1
      · exact map_inj_on hn.2 mx my e
theorem nodup_map_on {α β : Type} {f : α → β} {l : List α} (h : l.Nodup) (hi : ∀ x ∈ l, ∀ y ∈ l, f x = f y → x = y) : (l.map f).Nodup := by
  unfold List.Nodup at *
  rw [List.pairwise_map]
  exact h.imp_of_mem fun {a b} ha hb hab e => hab (hi a ha b hb e)
theorem wD_len {bs rs : List Str} (h : bs.length = rs.length) : (wD bs rs).length = bs.length := by
  unfold wD
  rw [List.length_map, List.length_zip, h, Nat.min_self]
theorem wD_keys {bs rs : List Str} (h : bs.length = rs.length) : (wD bs rs).map (·.1) = bs.map Sum.inr := by
  unfold wD
  rw [List.map_map]
  show (bs.zip rs).map (Sum.inr ∘ Prod.fst) = _
  rw [← List.map_map, List.map_fst_zip (by omega)]
theorem wD_snoc {bs rs : List Str} {b r : Str} (h : bs.length = rs.length) (hn : b ∉ bs) : putD (wD bs rs) (.inr b) (.str r) = wD (bs ++ [b]) (rs ++ [r]) := by
  rw [putD_new]
  · unfold wD
    rw [List.zip_append h, List.map_append]
    rfl
  · rw [wD_keys h]
    intro m
    obtain ⟨x, hx, e⟩ := List.mem_map.mp m
    exact hn (Sum.inr.inj e ▸ hx)
/-! the field with other names -/
def renFld (rf rw_ : Str → Str) (folk : List Str) (F : Fld) : Fld :=
  ⟨F.hours, F.spots, folk, F.ways.map fun w => (rw_ w.1, w.2.1, w.2.2), F.shut.map fun g => (rf g.1, rw_ g.2.1, g.2.2), F.posts.map fun q => (q.1, q.2.1.map rf, q.2.2.map rw_)⟩
theorem ren_ok {m0 m1 m2 m3 m4 : Int} {F : Fld} (h : FldOk m0 m1 m2 m3 m4 F) {fs ns : List Str} {rf rw_ : Str → Str} (hf : F.folk.map rf = fs) (hw : (F.ways.map (·.1)).map rw_ = ns) (nf : NamesOk fs) (nw : NamesOk ns) : FldOk m0 m1 m2 m3 m4 (renFld rf rw_ fs F) := by
  have e1 : ((renFld rf rw_ fs F).ways.map (·.1)) = ns := by
    rw [← hw]
    show (F.ways.map fun w => (rw_ w.1, w.2.1, w.2.2)).map (·.1) = _
    rw [List.map_map, List.map_map]
    rfl
  refine ⟨h.hours, h.spots, ⟨nf, ?_, ?_⟩, ⟨⟨by rw [e1]; exact nw, ?_⟩, ?_⟩, ⟨?_, ?_⟩, ⟨⟨?_, ?_⟩, ?_⟩⟩
  · show fs ≠ []
    rw [← hf]
    intro e
    exact h.folk.2.1 (List.map_eq_nil_iff.mp e)
  · show (fs.length : Int) ≤ m2
    rw [← hf, List.length_map]
    exact h.folk.2.2
  · intro w hw
    obtain ⟨w0, m, rfl⟩ := List.mem_map.mp hw
    exact h.ways.1.2 w0 m
  · show ((F.ways.map _).length : Int) ≤ m3
    rw [List.length_map]
    exact h.ways.2
  · show ((F.shut.map fun g => (rf g.1, rw_ g.2.1, g.2.2)).map fun g => (g.1, g.2.1)).Nodup
    rw [List.map_map]
    have e : (F.shut.map ((fun g : Gate => (g.1, g.2.1)) ∘ fun g => (rf g.1, rw_ g.2.1, g.2.2))) = (F.shut.map fun g => (g.1, g.2.1)).map fun p => (rf p.1, rw_ p.2) := by
      rw [List.map_map]; rfl
    rw [e]
    refine nodup_map_on h.shut.1 fun x hx y hy q => ?_
    obtain ⟨g, mg, rfl⟩ := List.mem_map.mp hx
    obtain ⟨k, mk, rfl⟩ := List.mem_map.mp hy
    have a1 := h.shut.2 g mg
    have a2 := h.shut.2 k mk
    have q1 : rf g.1 = rf k.1 := congrArg (fun x : Str × Str => x.1) q
    have q2 : rw_ g.2.1 = rw_ k.2.1 := congrArg (fun x : Str × Str => x.2) q
    have b1 := map_inj_on (f := rf) (by rw [hf]; exact nf.1) a1.1 a2.1 q1
    have b2 := map_inj_on (f := rw_) (by rw [hw]; exact nw.1) a1.2.1 a2.2.1 q2
    show (g.1, g.2.1) = (k.1, k.2.1)
    rw [b1, b2]
  · intro g hg
    obtain ⟨k, mk, rfl⟩ := List.mem_map.mp hg
    have a := h.shut.2 k mk
    refine ⟨?_, ?_, a.2.2⟩
    · show rf k.1 ∈ fs
      rw [← hf]; exact List.mem_map.mpr ⟨_, a.1, rfl⟩
    · rw [e1, ← hw]; exact List.mem_map.mpr ⟨_, a.2.1, rfl⟩
  · show NamesOk ((F.posts.map _).map _)
    rw [List.map_map]
    exact h.posts.1.1
  · intro q hq
    obtain ⟨k, mk, rfl⟩ := List.mem_map.mp hq
    obtain ⟨⟨p1, p2⟩, p3, p4⟩ := h.posts.1.2 k mk
    refine ⟨⟨fun e => p1 (List.map_eq_nil_iff.mp e), ?_⟩, fun e => p3 (List.map_eq_nil_iff.mp e), ?_⟩
    · show (k.2.1.map rf).Sublist fs
      rw [← hf]; exact p2.map rf
    · rw [e1, ← hw]; exact p4.map rw_
  · show ((F.posts.map _).length : Int) ≤ m4
    rw [List.length_map]
    exact h.posts.2
end K00
end

section
set_option maxRecDepth 100000
set_option maxHeartbeats 1000000
namespace K00
open PySem PySem.Spec L2 DL
open PyProof.Rows (boot_int boot_abs boot_list boot_max boot_min boot_range boot_all boot_tuple boot_sorted boot_isinstance boot_enumerate)
section
variable {P : Program} {w : World} {K : PySem.W.Frag} {mg : Str → Option Value} {base : Heap} {f : Addr} {fd : FuncData}
def SShared : Sv := fun ds Φ _ => ∃ m0 m1 m2 m3 m4 F, ds = [Fld.d F] ∧ FldOk m0 m1 m2 m3 m4 F ∧ (m1 ≤ 26 ∧ m2 ≤ 26 ∧ m3 ≤ 26 ∧ m4 ≤ 26) ∧ ∀ F', FldOk m0 m1 m2 m3 m4 F' → Φ F'.d
abbrev nShared : List Str := ["data", "folk", "who", "names", "row", "whose", "k", "called", "ways", "shut", "posts", "way"]
theorem scShared : FnScope nShared ["data"] (defScope S__law_shared) := ⟨rfl, rfl, rfl, by decide +kernel, rfl, by decide +kernel, by decide +kernel⟩
abbrev scIn (i : Nat) : Scope := lcSc (asgV ((defBody S__law_shared).getD i (.Pass ⟨0, 0, 0, 0⟩)))
theorem shared_cut {as bs : List Str} {n : Nat} (hn : n = bs.length) : cutD (as.map D.str ++ (bs.filter fun x => !decide (x ∈ as)).map D.str) none (some (n : Int)) = (sharedOf as bs).map D.str := by
  rw [← List.map_append, enc_cut, cut_take (by omega), hn]
  rfl
theorem gets {α : Type} {enc : α → D} {as : List α} {i : Nat} {x : α} (h : as[i]? = some x) : L2.atI (as.map enc) ((0 : Int) + (i : Int)) = some (enc x) := by
  rw [Int.zero_add]
  refine L2.atI_nat ?_
  rw [List.getElem?_map, h]
  rfl
theorem take_zip_snoc {as bs : List Str} {i : Nat} {x y : Str} (hx : as[i]? = some x) (hy : bs[i]? = some y) (hl : as.length = bs.length) (hn : as.Nodup) : putD (wD (as.take i) (bs.take i)) (.inr x) (.str y) = wD (as.take (i + 1)) (bs.take (i + 1)) := by
  rw [List.take_add_one, hx, List.take_add_one, hy]
  refine wD_snoc (by rw [List.length_take, List.length_take, hl]) fun hm => ?_
  obtain ⟨j, hj, e⟩ := List.getElem_of_mem hm
  rw [List.length_take] at hj
  rw [List.getElem_take] at e
  have e2 : as[j]? = as[i]? := by rw [hx, ← e]; exact List.getElem?_eq_getElem _
  have := (List.getElem?_inj (i := j) (j := i) (by omega) hn).mp e2
  omega
theorem prod_len {α β : Type} (bs : List β) : ∀ as : List α, (as.flatMap fun a => bs.map fun b => (a, b)).length = as.length * bs.length
  | [] => by simp
  | a :: as => by
    rw [List.flatMap_cons, List.length_append, prod_len bs as, List.length_map, List.length_cons, Nat.succ_mul, Nat.add_comm]
theorem gates_len {hours : Int} {folk ways : List Str} {gs : List Gate} (h : GatesOk hours folk ways gs) : gs.length ≤ folk.length * ways.length := by
  have := pigeon (m := folk.flatMap fun a => ways.map fun b => (a, b)) h.1 fun p hp => by
    obtain ⟨g, mg, rfl⟩ := List.mem_map.mp hp
    obtain ⟨h1, h2, _⟩ := h.2 g mg
    exact List.mem_flatMap.mpr ⟨g.1, h1, List.mem_map.mpr ⟨g.2.1, h2, rfl⟩⟩
  rw [List.length_map, prod_len] at this
  exact this
theorem ok_shared (F : FunT K "_law_shared" S__law_shared f fd) (T : Txt mg) : FnD P w K mg base 1 f fd ["data"] (spV K SShared) := by
  refine fn_V F scShared 1 rfl (by decide) (fun ds Φ Ψ h => ?_) (fun f cdv A outer s H E hr c ds Φ Ψ h => ?_)
  · obtain ⟨_, _, _, _, _, _, rfl, _⟩ := h
    rfl
  · obtain ⟨m0, m1, m2, m3, m4, Fd, rfl, hok, hm, h⟩ := h
    have hu : (cxOf (CX P w) P w K mg base nShared "_law_shared" (defScope S__law_shared) f cdv A outer s H E).A.units + 64 < cLine := hr.units
    obtain ⟨hours, spots, folk, ws, gs, qs⟩ := Fd
    have hsp : NamesOk spots := hok.spots.1
    have hspl : (spots.length : Int) ≤ m1 := hok.spots.2.2
    have hfo : NamesOk folk := hok.folk.1
    have hfol : (folk.length : Int) ≤ m2 := hok.folk.2.2
    have hws : NamesOk (ws.map (·.1)) := hok.ways.1.1
    have hwl : (ws.length : Int) ≤ m3 := hok.ways.2
    -- folk = ..
    refine sv_cons <| s_set (i := 1) rfl (.inl rfl) c.nd <| ev_sl <| ev_op <| ev_ix <| ev_name (i := 0) rfl rfl (.inr (.inl rfl)) <| ev_int <| ix_l rfl <| EF.ev <| ef_lc c [("who", 2)] [] (lcOk1 (blkOk_by (N := nShared) (sc := defScope S__law_shared) (by decide +kernel)) (fun _ => rfl) (fun _ _ _ _ _ _ => rfl)) <| ei_lst <| ev_ix <| ev_name (i := 0) rfl rfl (.inr (.inl rfl)) <| ev_int <| ix_l rfl <| xo rfl ?_
    refine clp_filt D.str D.str (fun x => !decide (x ∈ spots)) folk (fun a => [.ok (Fld.d ⟨hours, spots, folk, ws, gs, qs⟩), .un, .ok (.str a), .un, .un, .un, .un, .un, .un, .un, .un, .un]) (by omega) (fun Y hY a Φ h => ?_) (fun a => rfl) (fun Y hY a ha Φ h => ?_) (fun Y hY a ha Φ h => ?_) ?_
    · obtain ⟨_, _, _, _, _, rfl⟩ := hY
      exact gv_name (i := 2) (by decide) rfl (ltb rfl) (.inl rfl) c.nd h
    · obtain ⟨_, _, _, _, _, rfl⟩ := hY
      exact et_mem <| ev_name (i := 2) rfl rfl (.inl rfl) <| er_ev <| ev_ix <| ev_name (i := 0) rfl rfl (.inr (.inl rfl)) <| ev_int <| ix_l rfl <| m_nin_l <| xo rfl h
    · obtain ⟨_, _, _, _, _, rfl⟩ := hY
      exact ev_name (i := 2) rfl rfl (.inl rfl) h
    refine d_cat (ds := spots.map D.str) (by
      have := List.length_filter_le (fun x => !decide (x ∈ spots)) folk
      rw [List.length_map, List.length_map]; omega) <| eo_none <| eo_some <| ev_b1 rfl T.n_len boot_len <| er_ev <| ev_ix <| ev_name (i := 0) rfl rfl (.inr (.inl rfl)) <| ev_int <| ix_l rfl <| c_len_l <| xo rfl <| sl_l <| xa (ltb rfl) ?_
    rw [shared_cut (List.length_map (f := D.str))]
    generalize hfs : sharedOf spots folk = fs
    have hfsl : folk.length = fs.length := by rw [← hfs]; exact (shared_len hfo.1).symm
    have hfso : NamesOk fs := by rw [← hfs]; exact shared_ok hsp hfo
    -- names = ..
    refine sv_cons <| s_set (i := 3) rfl (.inl rfl) c.nd <| ev_sl <| ev_op <| ev_ix <| ev_name (i := 0) rfl rfl (.inr (.inl rfl)) <| ev_int <| ix_l rfl <| EF.ev <| ef_lc c [("row", 4)] [] (lcOk1 (blkOk_by (N := nShared) (sc := defScope S__law_shared) (by decide +kernel)) (fun _ => rfl) (fun _ _ _ _ _ _ => rfl)) <| ei_lst <| ev_ix <| ev_name (i := 0) rfl rfl (.inr (.inl rfl)) <| ev_int <| ix_l rfl <| xo rfl ?_
    refine clp_filt wayD (fun a : Way => D.str a.1) (fun a => !decide (a.1 ∈ spots)) ws (fun a => [.ok (Fld.d ⟨hours, spots, folk, ws, gs, qs⟩), .ok (.lst (fs.map D.str)), .un, .un, .ok (wayD a), .un, .un, .un, .un, .un, .un, .un]) (by omega) (fun Y hY a Φ h => ?_) (fun a => rfl) (fun Y hY a ha Φ h => ?_) (fun Y hY a ha Φ h => ?_) ?_
    · obtain ⟨_, _, _, _, _, rfl⟩ := hY
      exact gv_name (i := 4) (by decide) rfl (ltb rfl) (.inl rfl) c.nd h
    · obtain ⟨_, _, _, _, _, rfl⟩ := hY
      exact et_mem <| ev_ix <| ev_name (i := 4) rfl rfl (.inl rfl) <| ev_int <| ix_t rfl <| er_ev <| ev_ix <| ev_name (i := 0) rfl rfl (.inr (.inl rfl)) <| ev_int <| ix_l rfl <| m_nin_l <| xo rfl h
    · obtain ⟨_, _, _, _, _, rfl⟩ := hY
      exact ev_ix <| ev_name (i := 4) rfl rfl (.inl rfl) <| ev_int <| ix_t rfl h
    refine d_cat (ds := spots.map D.str) (by
      have := List.length_filter_le (fun a : Way => !decide (a.1 ∈ spots)) ws
      rw [List.length_map, List.length_map]; omega) <| eo_none <| eo_some <| ev_b1 rfl T.n_len boot_len <| er_ev <| ev_ix <| ev_name (i := 0) rfl rfl (.inr (.inl rfl)) <| ev_int <| ix_l rfl <| c_len_l <| xo rfl <| sl_l <| xa (ltb rfl) ?_
    rw [show (ws.filter fun a : Way => !decide (a.1 ∈ spots)).map (fun a : Way => D.str a.1) = ((ws.map (·.1)).filter fun x => !decide (x ∈ spots)).map D.str by rw [List.filter_map, List.map_map]; rfl,
      shared_cut (bs := ws.map (·.1)) (by rw [List.length_map, List.length_map])]
    generalize hns : sharedOf spots (ws.map (·.1)) = ns
    have hnsl : (ws.map (·.1)).length = ns.length := by rw [← hns]; exact (shared_len hws.1).symm
    have hnso : NamesOk ns := by rw [← hns]; exact shared_ok hsp hws
    rw [List.length_map] at hnsl
    -- whose = {}
    refine sv_cons <| s_own (i := 5) rfl (.inr rfl) c.nd <| ef_dnew <| xa (ltb rfl) fun q hq => ?_
    refine sv_cut (fun G => ∃ y, G = [.ok (Fld.d ⟨hours, spots, folk, ws, gs, qs⟩), .ok (.lst (fs.map D.str)), .un, .ok (.lst (ns.map D.str)), .un, .own q (.dk (wD folk fs)), y, .un, .un, .un, .un, .un])
      (s_for c <| ei_range1 rfl T.n_range <| ev_b1 rfl T.n_len boot_len <| er_ev <| ev_name (i := 1) rfl rfl (.inl rfl) <| c_len_l <| ⟨_, rfl, by omega, by rw [List.length_map]; omega, ?_⟩) (fun G hJ => ?_)
    · rw [List.length_map, Int.toNat_natCast]
      refine ⟨fun _ => ⟨fun i G => ∃ y, G = [.ok (Fld.d ⟨hours, spots, folk, ws, gs, qs⟩), .ok (.lst (fs.map D.str)), .un, .ok (.lst (ns.map D.str)), .un, .own q (.dk (wD (folk.take i) (fs.take i))), y, .un, .un, .un, .un, .un], ⟨_, rfl⟩, fun i d G hd hT => ⟨[6], gv_name (i := 6) (by decide) rfl ?_ (.inl rfl) c.nd ?_⟩, fun G hT => ?_⟩⟩
      · obtain ⟨_, rfl⟩ := hT
        exact ltb rfl
      · obtain ⟨y, rfl⟩ := hT
        obtain ⟨hi, rfl⟩ := range_get hd
        obtain ⟨x, hx⟩ : ∃ x, folk[i]? = some x := ⟨_, List.getElem?_eq_getElem (by omega)⟩
        obtain ⟨z, hz⟩ : ∃ z, fs[i]? = some z := ⟨_, List.getElem?_eq_getElem (by omega)⟩
        refine sv_cons <| s_dput (i := 5) hu rfl rfl (.inr (.inl rfl)) <| ev_ix <| ev_name (i := 1) rfl rfl (.inl rfl) <| ev_name (i := 6) rfl rfl (.inl rfl) <| ix_l (gets hz) <| ev_ix <| ev_ix <| ev_name (i := 0) rfl rfl (.inr (.inl rfl)) <| ev_int <| ix_l rfl <| ev_name (i := 6) rfl rfl (.inl rfl) <| ix_l (gets hx) <| ⟨wD (folk.take i) (fs.take i), .inr x, rfl, rfl, ?_, sv_nil ⟨.ok (.int (0 + (i : Int))), ?_⟩⟩
        · rw [wD_len (by rw [List.length_take, List.length_take, hfsl]), List.length_take]; omega
        · rw [take_zip_snoc hx hz hfsl hfo.1]
          rfl
      · obtain ⟨y, rfl⟩ := hT
        rw [range_len, List.take_of_length_le (Nat.le_of_eq hfsl), List.take_of_length_le (Nat.le_refl _)]
        exact ⟨y, rfl⟩
    obtain ⟨y6, rfl⟩ := hJ
    refine sv_rel (i := 5) rfl hq ?_
    -- called = {}
    refine sv_cons <| s_own (i := 7) rfl (.inr rfl) c.nd <| ef_dnew <| xa (ltb rfl) fun q2 hq2 => ?_
    refine sv_cut (fun G => ∃ y, G = [.ok (Fld.d ⟨hours, spots, folk, ws, gs, qs⟩), .ok (.lst (fs.map D.str)), .un, .ok (.lst (ns.map D.str)), .un, .ok (.dk (wD folk fs)), y, .own q2 (.dk (wD (ws.map (·.1)) ns)), .un, .un, .un, .un])
      (s_for c <| ei_range1 rfl T.n_range <| ev_b1 rfl T.n_len boot_len <| er_ev <| ev_name (i := 3) rfl rfl (.inl rfl) <| c_len_l <| ⟨_, rfl, by omega, by rw [List.length_map]; omega, ?_⟩) (fun G hJ => ?_)
    · rw [List.length_map, Int.toNat_natCast]
      refine ⟨fun _ => ⟨fun i G => ∃ y, G = [.ok (Fld.d ⟨hours, spots, folk, ws, gs, qs⟩), .ok (.lst (fs.map D.str)), .un, .ok (.lst (ns.map D.str)), .un, .ok (.dk (wD folk fs)), y, .own q2 (.dk (wD ((ws.map (·.1)).take i) (ns.take i))), .un, .un, .un, .un], ⟨_, rfl⟩, fun i d G hd hT => ⟨[6], gv_name (i := 6) (by decide) rfl ?_ (.inl rfl) c.nd ?_⟩, fun G hT => ?_⟩⟩
      · obtain ⟨_, rfl⟩ := hT
        exact ltb rfl
      · obtain ⟨y, rfl⟩ := hT
        obtain ⟨hi, rfl⟩ := range_get hd
        obtain ⟨x, hx⟩ : ∃ x, ws[i]? = some x := ⟨_, List.getElem?_eq_getElem (by omega)⟩
        obtain ⟨z, hz⟩ : ∃ z, ns[i]? = some z := ⟨_, List.getElem?_eq_getElem (by omega)⟩
        have hx2 : (ws.map (·.1))[i]? = some x.1 := by rw [List.getElem?_map, hx]; rfl
        refine sv_cons <| s_dput (i := 7) hu rfl rfl (.inr (.inl rfl)) <| ev_ix <| ev_name (i := 3) rfl rfl (.inl rfl) <| ev_name (i := 6) rfl rfl (.inl rfl) <| ix_l (gets hz) <| ev_ix <| ev_ix <| ev_ix <| ev_name (i := 0) rfl rfl (.inr (.inl rfl)) <| ev_int <| ix_l rfl <| ev_name (i := 6) rfl rfl (.inl rfl) <| ix_l (gets hx) <| ev_int <| ix_t rfl <| ⟨wD ((ws.map (·.1)).take i) (ns.take i), .inr x.1, rfl, rfl, ?_, sv_nil ⟨.ok (.int (0 + (i : Int))), ?_⟩⟩
        · rw [wD_len (by rw [List.length_take, List.length_take, List.length_map, hnsl]), List.length_take]; omega
        · rw [take_zip_snoc hx2 hz (by rw [List.length_map]; exact hnsl) hws.1]
          rfl
      · obtain ⟨y, rfl⟩ := hT
        rw [range_len, List.take_of_length_le (by rw [List.length_map]; exact Nat.le_of_eq hnsl), List.take_of_length_le (Nat.le_refl _)]
        exact ⟨y, rfl⟩
    obtain ⟨y6b, rfl⟩ := hJ
    refine sv_rel (i := 7) rfl hq2 ?_
    -- ways
    refine sv_cons <| s_setLc (i := 8) c [("row", 4)] [] (lcOk1 (blkOk_by (N := nShared) (sc := defScope S__law_shared) (by decide +kernel)) (fun _ => rfl) (fun _ _ _ _ _ _ => rfl)) rfl rfl (sw_true rfl rfl rfl (by decide +kernel)) <| ei_lst <| ev_ix <| ev_name (i := 0) rfl rfl (.inr (.inl rfl)) <| ev_int <| ix_l rfl <| xo rfl ?_
    generalize hrw : ren (ws.map (·.1)) ns = rw_
    generalize hrf : ren folk fs = rf
    refine clp_map wayD (fun a : Way => wayD (rw_ a.1, a.2.1, a.2.2)) ws (fun a => [.ok (Fld.d ⟨hours, spots, folk, ws, gs, qs⟩), .ok (.lst (fs.map D.str)), .un, .ok (.lst (ns.map D.str)), .ok (wayD a), .ok (.dk (wD folk fs)), y6b, .ok (.dk (wD (ws.map (·.1)) ns)), .un, .un, .un, .un]) (by omega) (fun Y hY a Φ h => ?_) (fun a => rfl) (fun Y hY a ha Φ h => ?_) ?_
    · obtain ⟨_, _, _, _, _, rfl⟩ := hY
      exact gv_name (i := 4) (by decide) rfl (ltb rfl) (.inl rfl) c.nd h
    · obtain ⟨_, _, _, _, _, rfl⟩ := hY
      refine ev_tup <| ea_cons <| ev_dix hu <| ev_name (i := 7) rfl rfl (.inr (.inl rfl)) <| ev_ix <| ev_name (i := 4) rfl rfl (.inl rfl) <| ev_int <| ix_t rfl <| ⟨wD (ws.map (·.1)) ns, .inr a.1, .str (rw_ a.1), rfl, rfl, ?_, ea_cons <| ev_ix <| ev_name (i := 4) rfl rfl (.inl rfl) <| ev_int <| ix_t rfl <| ea_cons <| ev_ix <| ev_name (i := 4) rfl rfl (.inl rfl) <| ev_int <| ix_t rfl <| ea_nil <| xa (leb rfl) h⟩
      rw [← hrw]
      exact wD_get (by rw [List.length_map]; exact hnsl) (List.mem_map.mpr ⟨a, ha, rfl⟩)
    refine xa (ltb rfl) ?_
    -- shut
    refine sv_cons <| s_setLc (i := 9) c [("row", 4)] [] (lcOk1 (blkOk_by (N := nShared) (sc := defScope S__law_shared) (by decide +kernel)) (fun _ => rfl) (fun _ _ _ _ _ _ => rfl)) rfl rfl (sw_true rfl rfl rfl (by decide +kernel)) <| ei_lst <| ev_ix <| ev_name (i := 0) rfl rfl (.inr (.inl rfl)) <| ev_int <| ix_l rfl <| xo rfl ?_
    refine clp_map gateD (fun g : Gate => gateD (rf g.1, rw_ g.2.1, g.2.2)) gs (fun a => [.ok (Fld.d ⟨hours, spots, folk, ws, gs, qs⟩), .ok (.lst (fs.map D.str)), .un, .ok (.lst (ns.map D.str)), .ok (gateD a), .ok (.dk (wD folk fs)), y6b, .ok (.dk (wD (ws.map (·.1)) ns)), .ok (.lst (ws.map fun a : Way => wayD (rw_ a.1, a.2.1, a.2.2))), .un, .un, .un]) ?_ (fun Y hY a Φ h => ?_) (fun a => rfl) (fun Y hY a ha Φ h => ?_) ?_
    · have h1 := gates_len hok.shut
      have h2 : (({ hours := hours, spots := spots, folk := folk, ways := ws, shut := gs, posts := qs } : Fld).ways.map (·.1)).length = ws.length := List.length_map _
      have h3 : folk.length * ws.length ≤ 26 * 26 := Nat.mul_le_mul (by omega) (by omega)
      rw [h2] at h1
      exact Nat.lt_of_le_of_lt (Nat.le_trans h1 h3) (by decide)
    · obtain ⟨_, _, _, _, _, rfl⟩ := hY
      exact gv_name (i := 4) (by decide) rfl (ltb rfl) (.inl rfl) c.nd h
    · obtain ⟨_, _, _, _, _, rfl⟩ := hY
      obtain ⟨g1, g2, _⟩ := hok.shut.2 a ha
      refine ev_tup <| ea_cons <| ev_dix hu <| ev_name (i := 5) rfl rfl (.inr (.inl rfl)) <| ev_ix <| ev_name (i := 4) rfl rfl (.inl rfl) <| ev_int <| ix_t rfl <| ⟨wD folk fs, .inr a.1, .str (rf a.1), rfl, rfl, ?_, ea_cons <| ev_dix hu <| ev_name (i := 7) rfl rfl (.inr (.inl rfl)) <| ev_ix <| ev_name (i := 4) rfl rfl (.inl rfl) <| ev_int <| ix_t rfl <| ⟨wD (ws.map (·.1)) ns, .inr a.2.1, .str (rw_ a.2.1), rfl, rfl, ?_, ea_cons <| ev_ix <| ev_name (i := 4) rfl rfl (.inl rfl) <| ev_int <| ix_t rfl <| ea_nil <| xa (leb rfl) h⟩⟩
      · rw [← hrf]
        exact wD_get hfsl g1
      · rw [← hrw]
        exact wD_get (by rw [List.length_map]; exact hnsl) g2
    refine xa (ltb rfl) ?_
    -- posts
    refine sv_cons <| s_setLc (i := 10) c [("row", 4)] [] (lcOk1 (blkOk_by (N := nShared) (sc := defScope S__law_shared) (by decide +kernel)) (fun _ => rfl) (fun _ _ _ _ _ _ => rfl)) rfl rfl (sw_true rfl rfl rfl (by decide +kernel)) <| ei_lst <| ev_ix <| ev_name (i := 0) rfl rfl (.inr (.inl rfl)) <| ev_int <| ix_l rfl <| xo rfl ?_
    refine clp_map postD (fun q : Post' => postD (q.1, q.2.1.map rf, q.2.2.map rw_)) qs (fun a => [.ok (Fld.d ⟨hours, spots, folk, ws, gs, qs⟩), .ok (.lst (fs.map D.str)), .un, .ok (.lst (ns.map D.str)), .ok (postD a), .ok (.dk (wD folk fs)), y6b, .ok (.dk (wD (ws.map (·.1)) ns)), .ok (.lst (ws.map fun a : Way => wayD (rw_ a.1, a.2.1, a.2.2))), .ok (.lst (gs.map fun g : Gate => gateD (rf g.1, rw_ g.2.1, g.2.2))), .un, .un]) ?_ (fun Y hY a Φ h => ?_) (fun a => rfl) (fun Y hY a ha Φ h => ?_) ?_
    · have : (qs.length : Int) ≤ m4 := hok.posts.2
      omega
    · obtain ⟨_, _, _, _, _, rfl⟩ := hY
      exact gv_name (i := 4) (by decide) rfl (ltb rfl) (.inl rfl) c.nd h
    · obtain ⟨⟨p1, p2⟩, p3, p4⟩ := hok.posts.1.2 a ha
      have cY := ctx_blk c hY
      obtain ⟨_, _, _, _, _, rfl⟩ := hY
      refine ev_tup <| ea_cons <| ev_ix <| ev_name (i := 4) rfl rfl (.inl rfl) <| ev_int <| ix_t rfl <| ea_cons <| EF.ev <| ef_lc cY [("who", 2)] [] (lcOk2 (N := nShared) (sc := recell (scIn 8)) rfl rfl (blkOk_by (by decide +kernel)) (fun _ => rfl) (fun _ _ _ _ _ _ => rfl)) <| ei_lst <| ev_ix <| ev_name (i := 4) rfl rfl (.inl rfl) <| ev_int <| ix_t rfl <| xo rfl ?_
      refine clp_map D.str (fun x => D.str (rf x)) a.2.1 (fun x => [.ok (Fld.d ⟨hours, spots, folk, ws, gs, qs⟩), .ok (.lst (fs.map D.str)), .ok (.str x), .ok (.lst (ns.map D.str)), .ok (postD a), .ok (.dk (wD folk fs)), y6b, .ok (.dk (wD (ws.map (·.1)) ns)), .ok (.lst (ws.map fun a : Way => wayD (rw_ a.1, a.2.1, a.2.2))), .ok (.lst (gs.map fun g : Gate => gateD (rf g.1, rw_ g.2.1, g.2.2))), .un, .un]) ?_ (fun Y hY x Φ h => ?_) (fun a => rfl) (fun Y hY x hx Φ h => ?_) ?_
      · have := p2.length_le
        have h2 : ({ hours := hours, spots := spots, folk := folk, ways := ws, shut := gs, posts := qs } : Fld).folk.length = folk.length := rfl
        omega
      · obtain ⟨_, _, _, _, _, rfl⟩ := hY
        exact gv_name (i := 2) (by decide) rfl (ltb rfl) (.inl rfl) c.nd h
      · obtain ⟨_, _, _, _, _, rfl⟩ := hY
        refine ev_dix hu <| ev_name (i := 5) rfl rfl (.inr (.inl rfl)) <| ev_name (i := 2) rfl rfl (.inl rfl) <| ⟨wD folk fs, .inr x, .str (rf x), rfl, rfl, ?_, h⟩
        rw [← hrf]
        exact wD_get hfsl (p2.subset hx)
      refine ea_cons <| EF.ev <| ef_lc cY [("way", 11)] [] (lcOk2 (N := nShared) (sc := recell (scIn 8)) rfl rfl (blkOk_by (by decide +kernel)) (fun _ => rfl) (fun _ _ _ _ _ _ => rfl)) <| ei_lst <| ev_ix <| ev_name (i := 4) rfl rfl (.inl rfl) <| ev_int <| ix_t rfl <| xo rfl ?_
      refine clp_map D.str (fun x => D.str (rw_ x)) a.2.2 (fun x => [.ok (Fld.d ⟨hours, spots, folk, ws, gs, qs⟩), .ok (.lst (fs.map D.str)), .un, .ok (.lst (ns.map D.str)), .ok (postD a), .ok (.dk (wD folk fs)), y6b, .ok (.dk (wD (ws.map (·.1)) ns)), .ok (.lst (ws.map fun a : Way => wayD (rw_ a.1, a.2.1, a.2.2))), .ok (.lst (gs.map fun g : Gate => gateD (rf g.1, rw_ g.2.1, g.2.2))), .un, .ok (.str x)]) ?_ (fun Y hY x Φ h => ?_) (fun a => rfl) (fun Y hY x hx Φ h => ?_) ?_
      · have := p4.length_le
        have h2 : (({ hours := hours, spots := spots, folk := folk, ways := ws, shut := gs, posts := qs } : Fld).ways.map (·.1)).length = ws.length := List.length_map _
        omega
      · obtain ⟨_, _, _, _, _, rfl⟩ := hY
        exact gv_name (i := 11) (by decide) rfl (ltb rfl) (.inl rfl) c.nd h
      · obtain ⟨_, _, _, _, _, rfl⟩ := hY
        refine ev_dix hu <| ev_name (i := 7) rfl rfl (.inr (.inl rfl)) <| ev_name (i := 11) rfl rfl (.inl rfl) <| ⟨wD (ws.map (·.1)) ns, .inr x, .str (rw_ x), rfl, rfl, ?_, h⟩
        rw [← hrw]
        exact wD_get (by rw [List.length_map]; exact hnsl) (p4.subset hx)
      rw [show (a.2.1.map fun x => D.str (rf x)) = (a.2.1.map rf).map D.str by rw [List.map_map]; rfl, show (a.2.2.map fun x => D.str (rw_ x)) = (a.2.2.map rw_).map D.str by rw [List.map_map]; rfl]
      exact ea_nil <| xa (leb rfl) h
    refine xa (ltb rfl) ?_
    refine sv_cons <| s_ret <| ev_lst <| ea_cons <| ev_ix <| ev_name (i := 0) rfl rfl (.inr (.inl rfl)) <| ev_int <| ix_l rfl <| ea_cons <| ev_ix <| ev_name (i := 0) rfl rfl (.inr (.inl rfl)) <| ev_int <| ix_l rfl <| ea_cons <| ev_name (i := 1) rfl rfl (.inl rfl) <| ea_cons <| ev_name (i := 8) rfl rfl (.inl rfl) <| ea_cons <| ev_name (i := 9) rfl rfl (.inl rfl) <| ea_cons <| ev_name (i := 10) rfl rfl (.inl rfl) <| ea_nil <| xa (leb rfl) ?_
    have e := h (renFld rf rw_ fs ⟨hours, spots, folk, ws, gs, qs⟩) (ren_ok hok (by rw [← hrf]; exact ren_map hfsl hfo.1) (by rw [← hrw]; exact ren_map (by rw [List.length_map]; exact hnsl) hws.1) hfso hnso)
    have e1 : (renFld rf rw_ fs ⟨hours, spots, folk, ws, gs, qs⟩).d = .lst [.int hours, .lst (spots.map .str), .lst (fs.map .str), .lst (ws.map fun a : Way => wayD (rw_ a.1, a.2.1, a.2.2)), .lst (gs.map fun g : Gate => gateD (rf g.1, rw_ g.2.1, g.2.2)), .lst (qs.map fun q : Post' => postD (q.1, q.2.1.map rf, q.2.2.map rw_))] := by
      unfold renFld Fld.d
      simp only [List.map_map]
      rfl
    rw [e1] at e
    exact e
end
end K00
end

section
set_option maxRecDepth 100000
set_option maxHeartbeats 1000000
namespace K00
open PySem PySem.Spec L2 DL
/-! ### words that are no names -/
abbrev OTH : Str := " !\"#$&'()*+,-./:;<=>?@ABCDEFGHIJKLMNOPQRSTUVWXYZ[\\]^_`{|}~\n\t"
def WordOk (s : Str) : Prop := (∀ c ∈ s.cps.toList, c < 0x110000) ∧ s.length ≤ 6000
theorem wordOk_all {s : Str} (h : WordOk s) : s.cps.all (· < 0x110000) = true := by
  rw [← Array.all_toList, List.all_eq_true]
  exact fun c hc => decide_eq_true (h.1 c hc)
theorem wordOk_name {s : Str} (h : IsName s) : WordOk s := by
  refine ⟨fun c hc => ?_, ?_⟩
  · obtain ⟨n, _, l, ds, e, hl, _, hd⟩ := h
    rw [e] at hc
    rcases List.mem_cons.mp hc with rfl | m
    · have := hl.2; omega
    · have := (hd c m).2; omega
  · obtain ⟨n, hn, hN⟩ := h
    rw [name_len hN]; omega
theorem sign_at {z : Str} {Q : Nat → Prop} [DecidablePred Q] {r : Int} (h : (z.cps.toList.all fun c => decide (Q c)) = true) (h0 : 0 ≤ r) (h1 : r < (z.length : Int)) : ∃ c, L2.atI z.cps.toList r = some c ∧ Q c := by
  have l : r.toNat < z.cps.toList.length := by
    have := str_length z
    omega
  refine ⟨z.cps.toList[r.toNat], ?_, of_decide_eq_true (List.all_eq_true.mp h _ (List.getElem_mem l))⟩
  conv => lhs; rw [show r = ((r.toNat : Nat) : Int) by omega]
  exact L2.atI_nat (List.getElem?_eq_getElem l)
def NoHead (c : Nat) : Prop := ¬ Low c ∧ c < 128
def NoTail (c : Nat) : Prop := ¬ Dig c ∧ c < 128
def Asc (c : Nat) : Prop := c < 128
instance (c : Nat) : Decidable (NoHead c) := inferInstanceAs (Decidable (_ ∧ _))
instance (c : Nat) : Decidable (NoTail c) := inferInstanceAs (Decidable (_ ∧ _))
instance (c : Nat) : Decidable (Asc c) := inferInstanceAs (Decidable (_ < _))
theorem heads_all : ((OTH ++ FIG).cps.toList.all fun c => decide (NoHead c)) = true := by decide +kernel
theorem tails_all : ((OTH ++ LET).cps.toList.all fun c => decide (NoTail c)) = true := by decide +kernel
theorem all_all : (((OTH ++ FIG) ++ LET).cps.toList.all fun c => decide (Asc c)) = true := by decide +kernel
theorem len_heads : (OTH ++ FIG).length = 70 := by decide +kernel
theorem len_tails : (OTH ++ LET).length = 86 := by decide +kernel
theorem len_all : ((OTH ++ FIG) ++ LET).length = 96 := by decide +kernel
theorem len_oth : OTH.length = 60 := by decide +kernel
theorem len_let : LET.length = 26 := by decide +kernel
theorem len_fig : FIG.length = 10 := by decide +kernel
theorem not_first {s : Str} {c : Nat} {r : List Nat} (e : s.cps.toList = c :: r) (h : ¬ Low c) : ¬ IsName s := by
  rintro ⟨n, _, l, ds, q, hl, _⟩
  rw [e] at q
  exact h ((List.cons.inj q).1 ▸ hl)
theorem not_later {s : Str} {c : Nat} {pre r : List Nat} (e : s.cps.toList = pre ++ c :: r) (hp : pre ≠ []) (h : ¬ Dig c) : ¬ IsName s := by
  rintro ⟨n, _, l, ds, q, _, _, hd⟩
  rw [e] at q
  cases pre with
  | nil => exact hp rfl
  | cons p pre =>
    have := (List.cons.inj q).2
    exact h (hd c (this ▸ List.mem_append_right _ List.mem_cons_self))
theorem not_long {s : Str} (h : 4 < s.length) : ¬ IsName s := by
  rintro ⟨n, hn, hN⟩
  rw [name_len hN] at h
  omega
theorem not_empty {s : Str} (h : s.length = 0) : ¬ IsName s := by
  rintro ⟨n, hn, hN⟩
  rw [name_len hN] at h
  omega
theorem cutS_to {z : Str} {k : Int} (h : 0 ≤ k) : (cutS z none (some k)).cps.toList = z.cps.toList.take k.toNat := by
  unfold cutS
  rw [HT.sIx_none, List.drop_zero, Nat.sub_zero]
  have e : HT.sIx z.length z.length (some k) = min k.toNat z.length := by
    conv => lhs; rw [show k = ((k.toNat : Nat) : Int) by omega]
    exact HT.sIx_nat _ _ _
  rw [e]
  show List.take _ _ = _
  have hz := str_length z
  by_cases c : k.toNat ≤ z.length
  · rw [Nat.min_eq_left c]
  · rw [Nat.min_eq_right (by omega), List.take_of_length_le (by omega), List.take_of_length_le (by omega)]
theorem cutS_from {z : Str} {k : Int} (h : 0 ≤ k) : (cutS z (some k) none).cps.toList = z.cps.toList.drop k.toNat := by
  unfold cutS
  rw [HT.sIx_none]
  have e : HT.sIx z.length 0 (some k) = min k.toNat z.length := by
    conv => lhs; rw [show k = ((k.toNat : Nat) : Int) by omega]
    exact HT.sIx_nat _ _ _
  rw [e]
  show List.take _ (List.drop _ _) = _
  have hz := str_length z
  by_cases c : k.toNat ≤ z.length
  · rw [Nat.min_eq_left c, List.take_of_length_le (by rw [List.length_drop]; omega)]
  · rw [Nat.min_eq_right (by omega), List.drop_of_length_le (by omega), List.drop_of_length_le (by omega), List.take_nil]
theorem word_of {s : Str} {l : List Nat} (e : s.cps.toList = l) (h : ∀ c ∈ l, c < 0x110000) (hl : l.length ≤ 6000) : WordOk s := ⟨by rw [e]; exact h, by rw [str_length, e]; exact hl⟩
theorem name_cps {s : Str} (h : IsName s) : ∃ l ds, s.cps.toList = l :: ds ∧ Low l ∧ ds.length ≤ 3 ∧ ∀ d ∈ ds, Dig d := by
  obtain ⟨n, hn, l, ds, e, hl, hd, h⟩ := h
  exact ⟨l, ds, e, hl, by omega, h⟩
theorem name_chars {s : Str} (h : IsName s) : ∀ c ∈ s.cps.toList, c < 0x110000 := (wordOk_name h).1
/-- what _law_odd gives -/
def Odd (s : Str) : Prop := ¬ IsName s ∧ WordOk s
theorem odd_first {s : Str} {c : Nat} {name : Str} {k : Nat} (hn : IsName name) (h : NoHead c) (e : s.cps.toList = [c] ++ name.cps.toList.drop k) : Odd s := by
  refine ⟨not_first e h.1, word_of e (fun x hx => ?_) ?_⟩
  · rcases List.mem_append.mp hx with m | m
    · rw [List.mem_singleton.mp m]; have := h.2; omega
    · exact name_chars hn x (List.mem_of_mem_drop m)
  · obtain ⟨l, ds, e2, _, h3, _⟩ := name_cps hn
    rw [e2]; simp only [List.length_append, List.length_drop, List.length_cons, List.length_nil]; omega
theorem odd_ahead {s : Str} {c : Nat} {name : Str} (hn : IsName name) (h : Asc c) (e : s.cps.toList = [c] ++ name.cps.toList) : Odd s := by
  obtain ⟨l, ds, e2, hl, h3, _⟩ := name_cps hn
  refine ⟨not_later (pre := [c]) (c := l) (r := ds) (by rw [e, e2]) (List.cons_ne_nil _ _) (fun d => ?_), word_of e (fun x hx => ?_) ?_⟩
  · have := hl.1; have := d.2; omega
  · rcases List.mem_append.mp hx with m | m
    · rw [List.mem_singleton.mp m]; have h : c < 128 := h; omega
    · exact name_chars hn x m
  · rw [e2]; simp only [List.length_append, List.length_cons, List.length_nil]; omega
theorem odd_mid {s : Str} {c : Nat} {name : Str} {k j : Nat} (hn : IsName name) (hk : 1 ≤ k) (h : NoTail c) (e : s.cps.toList = (name.cps.toList.take k ++ [c]) ++ name.cps.toList.drop j) : Odd s := by
  obtain ⟨l, ds, e2, hl, h3, _⟩ := name_cps hn
  refine ⟨not_later (pre := name.cps.toList.take k) (c := c) (r := name.cps.toList.drop j) (by rw [e, List.append_assoc]; rfl) ?_ h.1, word_of e (fun x hx => ?_) ?_⟩
  · rw [e2]
    cases k with
    | zero => omega
    | succ k => exact List.cons_ne_nil _ _
  · rcases List.mem_append.mp hx with m | m
    · rcases List.mem_append.mp m with m | m
      · exact name_chars hn x (List.mem_of_mem_take m)
      · rw [List.mem_singleton.mp m]; have := h.2; omega
    · exact name_chars hn x (List.mem_of_mem_drop m)
  · rw [e2]; simp only [List.length_append, List.length_take, List.length_drop, List.length_cons, List.length_nil]; omega
theorem odd_rep {s : Str} {c d : Nat} (hc : Low c) (hd : Dig d) (e : s.cps.toList = [c] ++ (repS 5000 ⟨#[d]⟩).cps.toList) : Odd s := by
  have q : (repS 5000 ⟨#[d]⟩).cps.toList = List.replicate 5000 d := by
    show (List.replicate 5000 [d]).flatten.toArray.toList = _
    rw [List.toList_toArray, List.flatten_replicate_singleton]
  rw [q] at e
  refine ⟨not_long ?_, word_of e (fun x hx => ?_) ?_⟩
  · rw [str_length, e, List.length_append, List.length_replicate, List.length_singleton]; omega
  · rcases List.mem_append.mp hx with m | m
    · rw [List.mem_singleton.mp m]; have := hc.2; omega
    · rw [(List.mem_replicate.mp m).2]; have := hd.2; omega
  · rw [List.length_append, List.length_replicate, List.length_singleton]; omega
theorem odd_figs {s : Str} {n : Nat} (h : NameN s n) (h4 : 4 ≤ n) (h9 : n ≤ 100) : Odd s := by
  refine ⟨not_long (by rw [name_len h]; omega), ?_⟩
  obtain ⟨l, ds, e, hl, hn, hd⟩ := h
  refine word_of e (fun x hx => ?_) ?_
  · rcases List.mem_cons.mp hx with rfl | m
    · have := hl.2; omega
    · have := (hd x m).2; omega
  · rw [List.length_cons]; omega
/-- one more figure behind the first k + 1 signs -/
theorem name_grow {s : Str} {n k : Nat} {d : Nat} (h : NameN s n) (hk : k ≤ n) (hd : Dig d) {t : Str} (e : t.cps.toList = s.cps.toList.take (1 + k) ++ [d]) : NameN t (k + 1) := by
  obtain ⟨l, ds, e2, hl, hn, hds⟩ := h
  refine ⟨l, ds.take k ++ [d], ?_, hl, ?_, fun x hx => ?_⟩
  · rw [e, e2, Nat.add_comm, List.take_succ_cons]; rfl
  · rw [List.length_append, List.length_take, List.length_singleton]; omega
  · rcases List.mem_append.mp hx with m | m
    · exact hds x (List.mem_of_mem_take m)
    · rw [List.mem_singleton.mp m]; exact hd
end K00
end

section
set_option maxRecDepth 100000
set_option maxHeartbeats 1000000
namespace K00
open PySem PySem.Spec L2 DL
open PyProof.Rows (boot_int boot_abs boot_list boot_max boot_min boot_range boot_all boot_tuple boot_sorted boot_isinstance boot_enumerate)
section
variable {P : Program} {w : World} {K : PySem.W.Frag} {mg : Str → Option Value} {base : Heap} {f : Addr} {fd : FuncData}
def SOdd : Sc := fun c ds Φ _ => PoolOk c ∧ ds = [] ∧ ∀ s c', Odd s → PoolOk c' → Φ (.str s) c'
theorem use_odd {c : D} {Φ : D → D → Prop} {Ψ : Addr → List (Str × D) → D → Prop} (hp : PoolOk c) (h : ∀ s c', Odd s → PoolOk c' → Φ (.str s) c') : SOdd c [] Φ Ψ := ⟨hp, rfl, h⟩
abbrev nOdd : List Str := ["pool", "letters", "others", "name", "mode", "at", "heads", "tails", "figure"]
theorem scOdd : FnScope nOdd ["pool"] (defScope S__law_odd) := ⟨rfl, rfl, rfl, by decide +kernel, rfl, by decide +kernel, by decide +kernel⟩
theorem line (n : Nat) (h : n ≤ 10000000) : n ≤ sizeLine := sizeLe h
theorem ok_odd (F : FunT K "_law_odd" S__law_odd f fd) (T : Txt mg) (C_law_draw : Fd P w K mg base 2 "_law_draw" ["pool", "limit"] (spC K SDraw)) (C_law_names : Fd P w K mg base 3 "_law_names" ["pool", "many"] (spC K SNames)) : FnD P w K mg base 4 f fd ["pool"] (spC K SOdd) := by
  refine fn_C F scOdd 0 rfl (by decide) (fun c ds Φ Ψ h => ?_) (fun f cdv A outer s H E hr c p c0 ds Φ Ψ h => ?_)
  · obtain ⟨_, rfl, _⟩ := h
    rfl
  · obtain ⟨hp, rfl, h⟩ := h
    refine sv_cons <| s_set (i := 1) rfl (.inl rfl) c.nd <| ev_str <| xa (ltb rfl) ?_
    refine sv_cons <| s_set (i := 2) rfl (.inl rfl) c.nd <| ev_str <| xa (ltb rfl) ?_
    -- name
    refine sv_cons <| s_set (i := 3) rfl (.inl rfl) c.nd <| ev_ix <| ev_cC (i := 0) C_law_names (hr.mono (by decide)) rfl c.takes rfl rfl (.inl rfl) <| ea_cons <| ev_int <| ea_nil <| xo rfl <| use_names hp (by decide) fun ss c1 hss hsl hp1 => ev_int ?_
    obtain ⟨name, hname⟩ : ∃ x, ss[0]? = some x := ⟨_, List.getElem?_eq_getElem (by omega)⟩
    have hn : IsName name := hss.2 name (List.mem_of_getElem? hname)
    refine ix_l (gets (enc := D.str) hname) <| xa (ltb rfl) ?_
    obtain ⟨nl, nds, ne, nlow, nlen, ndig⟩ := name_cps hn
    have hlen : name.length = nds.length + 1 := by rw [str_length, ne, List.length_cons]
    -- mode, at
    refine sv_cons <| s_set (i := 4) rfl (.inl rfl) c.nd <| ev_cC (i := 0) C_law_draw (hr.mono (by decide)) rfl c.takes rfl rfl (.inl rfl) <| ea_cons <| ev_int <| ea_nil <| xo rfl <| use_draw hp1 (by decide) fun mode c2 _ _ hp2 => xa (ltb rfl) ?_
    refine sv_cons <| s_set (i := 5) rfl (.inl rfl) c.nd <| ev_op <| ev_int <| ev_cC (i := 0) C_law_draw (hr.mono (by decide)) rfl c.takes rfl rfl (.inl rfl) <| ea_cons <| ev_b1 rfl T.n_len boot_len <| er_ev <| ev_name (i := 3) rfl rfl (.inl rfl) <| c_len_s (line _ (by omega)) <| ea_nil <| xo rfl <| use_draw hp2 (by omega) fun a0 c3 a1 a2 hp3 => d_add <| xa (ltb rfl) ?_
    -- heads, tails
    refine sv_cons <| s_set (i := 6) rfl (.inl rfl) c.nd <| ev_op <| ev_name (i := 2) rfl rfl (.inl rfl) <| ev_str <| d_adds (line _ (by rw [len_oth, len_fig]; decide)) <| xa (ltb rfl) ?_
    refine sv_cons <| s_set (i := 7) rfl (.inl rfl) c.nd <| ev_op <| ev_name (i := 2) rfl rfl (.inl rfl) <| ev_name (i := 1) rfl rfl (.inl rfl) <| d_adds (line _ (by rw [len_oth, len_let]; decide)) <| xa (ltb rfl) ?_
    generalize hat : 1 + a0 = at_
    have hat1 : 1 ≤ at_ := by omega
    -- mode == 0
    refine sv_cons <| s_if <| et_cmp <| ev_name (i := 4) rfl rfl (.inl rfl) <| ev_int <| d_eqi <| xo rfl <| ⟨fun hT => ?_, fun hF => ?_⟩
    · exact sv_cons <| s_ret <| ev_str <| ⟨c3, rfl, h "" c3 ⟨not_empty rfl, word_of rfl (fun _ m => (nomatch m)) (Nat.zero_le _)⟩ hp3⟩
    refine sv_nil ?_
    -- mode == 1
    refine sv_cons <| s_if <| et_cmp <| ev_name (i := 4) rfl rfl (.inl rfl) <| ev_int <| d_eqi <| xo rfl <| ⟨fun hT => ?_, fun hF => ?_⟩
    · refine sv_cons <| s_for c <| ei_range1 rfl T.n_range <| ev_op <| ev_int <| ev_bn rfl T.n_max boot_max <| ea_cons <| ev_int <| ea_cons <| ev_op <| ev_cC (i := 0) C_law_draw (hr.mono (by decide)) rfl c.takes rfl rfl (.inl rfl) <| ea_cons <| ev_int <| ea_nil <| xo rfl <| use_draw hp3 (by decide) fun b0 c4 b1 b2 hp4 => ev_int <| d_sub <| ea_nil <| c_max2 c.calm <| d_add ?_
      generalize hn4 : (4 + if b0 - 6 > 0 then b0 - 6 else 0 : Int) = n4
      have n41 : 4 ≤ n4 ∧ n4 ≤ 10 := by rw [← hn4]; split <;> omega
      refine ⟨_, rfl, by omega, by omega, ?_⟩
      refine ⟨fun _ => ⟨fun i G => ∃ c' nm y n, G = [.own p c', .ok (.str LET), .ok (.str OTH), .ok (.str nm), .ok (.int mode), .ok (.int at_), .ok (.str (OTH ++ FIG)), .ok (.str (OTH ++ LET)), y] ∧ PoolOk c' ∧ NameN nm n ∧ (i = 0 ∨ n = i) ∧ n ≤ 20, ?_, fun i d G hd hT => ⟨[8], gv_name (i := 8) (by decide) rfl ?_ (.inl rfl) c.nd ?_⟩, fun G hT => ?_⟩⟩
      · obtain ⟨n, hn3, hN⟩ := hn
        exact ⟨c4, name, _, n, rfl, hp4, hN, .inl rfl, by omega⟩
      · obtain ⟨_, _, _, _, rfl, _⟩ := hT
        exact ltb rfl
      · obtain ⟨c5, nm, y, n, rfl, hp5, hN, hi, hn20⟩ := hT
        obtain ⟨hi2, rfl⟩ := range_get hd
        have hl : nm.length = n + 1 := name_len hN
        refine sv_cons <| s_set (i := 3) rfl (.inl rfl) c.nd <| ev_op <| ev_sl <| ev_name (i := 3) rfl rfl (.inl rfl) <| eo_none <| eo_some <| ev_op <| ev_int <| ev_name (i := 8) rfl rfl (.inl rfl) <| d_add <| xo rfl <| sl_s (line _ (by omega)) <| ev_ix <| ev_str <| ev_cC (i := 0) C_law_draw (hr.mono (by decide)) rfl c.takes rfl rfl (.inl rfl) <| ea_cons <| ev_int <| ea_nil <| xo rfl <| use_draw hp5 (by decide) fun d0 c6 d1 d2 hp6 => ?_
        obtain ⟨dc, de, dd⟩ := fig_at d1 d2
        have hcut : (cutS nm none (some (1 + (0 + (i : Int))))).cps.toList = nm.cps.toList.take (1 + i) := by rw [cutS_to (by omega)]; congr 1; omega
        have hcl := cutS_length nm none (some (1 + (0 + (i : Int))))
        refine ix_s fig_len de <| d_adds (line _ (by show _ + 1 ≤ _; omega)) <| xa (ltb rfl) <| sv_nil ⟨c6, _, .ok (.int (0 + (i : Int))), i + 1, rfl, hp6, ?_, .inr rfl, by omega⟩
        refine name_grow hN (by omega) dd ?_
        rw [cps_append, hcut]
      · obtain ⟨c5, nm, y, n, rfl, hp5, hN, hi, hn20⟩ := hT
        rw [range_len] at hi
        refine sv_cons <| s_ret <| ev_name (i := 3) rfl rfl (.inl rfl) <| ⟨c5, rfl, h nm c5 (odd_figs hN (by omega) (by omega)) hp5⟩
    refine sv_nil ?_
    -- mode == 2
    have name0 : L2.atI name.cps.toList 0 = some nl := by rw [ne]; exact L2.atI_nat (j := 0) rfl
    refine sv_cons <| s_if <| et_cmp <| ev_name (i := 4) rfl rfl (.inl rfl) <| ev_int <| d_eqi <| xo rfl <| ⟨fun hT => ?_, fun hF => ?_⟩
    · refine sv_cons <| s_ret <| ev_op <| ev_ix <| ev_name (i := 3) rfl rfl (.inl rfl) <| ev_int <| ix_s (line _ (by omega)) name0 <| ev_op <| ev_ix <| ev_str <| ev_cC (i := 0) C_law_draw (hr.mono (by decide)) rfl c.takes rfl rfl (.inl rfl) <| ea_cons <| ev_int <| ea_nil <| xo rfl <| use_draw hp3 (by decide) fun d0 c6 d1 d2 hp6 => ?_
      obtain ⟨dc, de, dd⟩ := fig_at d1 d2
      have ho : Odd (⟨#[nl]⟩ ++ repS 5000 ⟨#[dc]⟩) := odd_rep nlow dd (by rw [cps_append])
      refine ix_s fig_len de <| ev_int <| d_muls ⟨by decide, by decide, Nat.le_refl 1, by show 1 ≤ 1000; decide⟩ <| d_adds (line _ ?_) ⟨c6, rfl, h _ c6 ho hp6⟩
      have := ho.2.2
      rw [str_length, cps_append, List.length_append, ← str_length, ← str_length] at this
      show (⟨#[nl]⟩ : Str).length + (repS 5000 ⟨#[dc]⟩).length ≤ _
      omega
    refine sv_nil ?_
    -- mode == 3
    refine sv_cons <| s_if <| et_cmp <| ev_name (i := 4) rfl rfl (.inl rfl) <| ev_int <| d_eqi <| xo rfl <| ⟨fun hT => ?_, fun hF => ?_⟩
    · refine sv_cons <| s_ret <| ev_op <| ev_ix <| ev_name (i := 6) rfl rfl (.inl rfl) <| ev_cC (i := 0) C_law_draw (hr.mono (by decide)) rfl c.takes rfl rfl (.inl rfl) <| ea_cons <| ev_b1 rfl T.n_len boot_len <| er_ev <| ev_name (i := 6) rfl rfl (.inl rfl) <| c_len_s (line _ (by rw [len_heads]; decide)) <| ea_nil <| xo rfl <| use_draw hp3 (by rw [len_heads]; decide) fun d0 c6 d1 d2 hp6 => ?_
      rw [len_heads] at d2
      obtain ⟨dc, de, dd⟩ := sign_at heads_all d1 (by rw [len_heads]; omega)
      have hcl := cutS_length name (some 1) none
      refine ix_s (line _ (by rw [len_heads]; decide)) de <| ev_sl <| ev_name (i := 3) rfl rfl (.inl rfl) <| eo_some <| ev_int <| xo rfl <| eo_none <| sl_s (line _ (by omega)) <| d_adds (line _ (by show 1 + _ ≤ _; omega)) ⟨c6, rfl, h _ c6 (odd_first (k := 1) hn dd ?_) hp6⟩
      rw [cps_append, cutS_from (by decide)]
      rfl
    refine sv_nil ?_
    -- mode == 4
    refine sv_cons <| s_if <| et_cmp <| ev_name (i := 4) rfl rfl (.inl rfl) <| ev_int <| d_eqi <| xo rfl <| ⟨fun hT => ?_, fun hF => ?_⟩
    · refine sv_cons <| s_ret <| ev_op <| ev_ix <| ev_op <| ev_name (i := 6) rfl rfl (.inl rfl) <| ev_name (i := 1) rfl rfl (.inl rfl) <| d_adds (line _ (by rw [len_heads, len_let]; decide)) <| ev_cC (i := 0) C_law_draw (hr.mono (by decide)) rfl c.takes rfl rfl (.inl rfl) <| ea_cons <| ev_op <| ev_b1 rfl T.n_len boot_len <| er_ev <| ev_name (i := 6) rfl rfl (.inl rfl) <| c_len_s (line _ (by rw [len_heads]; decide)) <| ev_int <| d_add <| ea_nil <| xo rfl <| use_draw hp3 (by rw [len_heads]; decide) fun d0 c6 d1 d2 hp6 => ?_
      rw [len_heads] at d2
      obtain ⟨dc, de, dd⟩ := sign_at all_all d1 (by rw [len_all]; omega)
      refine ix_s (line _ (by rw [len_all]; decide)) de <| ev_name (i := 3) rfl rfl (.inl rfl) <| d_adds (line _ (by show 1 + _ ≤ _; omega)) ⟨c6, rfl, h _ c6 (odd_ahead hn dd ?_) hp6⟩
      rw [cps_append]
    refine sv_nil ?_
    have hc1 := cutS_length name none (some at_)
    have hc2 := cutS_length name (some at_) none
    have hc3 := cutS_length name (some (at_ + 1)) none
    -- mode == 5
    refine sv_cons <| s_if <| et_cmp <| ev_name (i := 4) rfl rfl (.inl rfl) <| ev_int <| d_eqi <| xo rfl <| ⟨fun hT => ?_, fun hF => ?_⟩
    · refine sv_cons <| s_ret <| ev_op <| ev_op <| ev_sl <| ev_name (i := 3) rfl rfl (.inl rfl) <| eo_none <| eo_some <| ev_name (i := 5) rfl rfl (.inl rfl) <| xo rfl <| sl_s (line _ (by omega)) <| ev_ix <| ev_name (i := 7) rfl rfl (.inl rfl) <| ev_cC (i := 0) C_law_draw (hr.mono (by decide)) rfl c.takes rfl rfl (.inl rfl) <| ea_cons <| ev_b1 rfl T.n_len boot_len <| er_ev <| ev_name (i := 7) rfl rfl (.inl rfl) <| c_len_s (line _ (by rw [len_tails]; decide)) <| ea_nil <| xo rfl <| use_draw hp3 (by rw [len_tails]; decide) fun d0 c6 d1 d2 hp6 => ?_
      rw [len_tails] at d2
      obtain ⟨dc, de, dd⟩ := sign_at tails_all d1 (by rw [len_tails]; omega)
      have hl2 : (cutS name none (some at_) ++ ⟨#[dc]⟩ : Str).length ≤ 10 := by
        rw [str_length, cps_append, List.length_append, ← str_length]
        show _ + 1 ≤ 10
        omega
      refine ix_s (line _ (by rw [len_tails]; decide)) de <| d_adds (line _ (by show _ + 1 ≤ _; omega)) <| ev_sl <| ev_name (i := 3) rfl rfl (.inl rfl) <| eo_some <| ev_name (i := 5) rfl rfl (.inl rfl) <| xo rfl <| eo_none <| sl_s (line _ (by omega)) <| d_adds (line _ (by omega)) ⟨c6, rfl, h _ c6 (odd_mid (k := at_.toNat) (j := at_.toNat) hn (by omega) dd ?_) hp6⟩
      rw [cps_append, cps_append, cutS_to (by omega), cutS_from (by omega)]
    refine sv_nil ?_
    refine sv_cons <| s_ret <| ev_op <| ev_op <| ev_sl <| ev_name (i := 3) rfl rfl (.inl rfl) <| eo_none <| eo_some <| ev_name (i := 5) rfl rfl (.inl rfl) <| xo rfl <| sl_s (line _ (by omega)) <| ev_ix <| ev_name (i := 7) rfl rfl (.inl rfl) <| ev_cC (i := 0) C_law_draw (hr.mono (by decide)) rfl c.takes rfl rfl (.inl rfl) <| ea_cons <| ev_b1 rfl T.n_len boot_len <| er_ev <| ev_name (i := 7) rfl rfl (.inl rfl) <| c_len_s (line _ (by rw [len_tails]; decide)) <| ea_nil <| xo rfl <| use_draw hp3 (by rw [len_tails]; decide) fun d0 c6 d1 d2 hp6 => ?_
    rw [len_tails] at d2
    obtain ⟨dc, de, dd⟩ := sign_at tails_all d1 (by rw [len_tails]; omega)
    have hl2 : (cutS name none (some at_) ++ ⟨#[dc]⟩ : Str).length ≤ 10 := by
      rw [str_length, cps_append, List.length_append, ← str_length]
      show _ + 1 ≤ 10
      omega
    refine ix_s (line _ (by rw [len_tails]; decide)) de <| d_adds (line _ (by show _ + 1 ≤ _; omega)) <| ev_sl <| ev_name (i := 3) rfl rfl (.inl rfl) <| eo_some <| ev_op <| ev_name (i := 5) rfl rfl (.inl rfl) <| ev_int <| d_add <| xo rfl <| eo_none <| sl_s (line _ (by omega)) <| d_adds (line _ (by omega)) ⟨c6, rfl, h _ c6 (odd_mid (k := at_.toNat) (j := (at_ + 1).toNat) hn (by omega) dd ?_) hp6⟩
    rw [cps_append, cps_append, cutS_to (by omega), cutS_from (by omega)]
end
end K00
end

section
set_option maxRecDepth 100000
set_option maxHeartbeats 1000000
namespace K00
open PySem PySem.Spec L2 DL
open PyProof.Rows (boot_int boot_abs boot_list boot_max boot_min boot_range boot_all boot_tuple boot_sorted boot_isinstance boot_enumerate)
/-! ### spoilt fields -/
structure FldW (F : Fld) : Prop where
  spots : ∀ s ∈ F.spots, WordOk s
  folk : ∀ s ∈ F.folk, WordOk s
  ways : ∀ w ∈ F.ways, WordOk w.1 ∧ WordOk w.2.1 ∧ WordOk w.2.2
  posts : ∀ q ∈ F.posts, WordOk q.1 ∧ (∀ s ∈ q.2.1, WordOk s) ∧ ∀ s ∈ q.2.2, WordOk s
structure Spo (F0 F : Fld) : Prop where
  hours : F.hours = F0.hours
  shut : F.shut = F0.shut
  spots : (F.spots = F0.spots ∨ ¬ NamesOk F.spots) ∧ F.spots.length = F0.spots.length
  folk : (F.folk = F0.folk ∨ ¬ NamesOk F.folk) ∧ F.folk.length = F0.folk.length
  ways : (F.ways = F0.ways ∨ ¬ NamesOk (F.ways.map (·.1))) ∧ F.ways.map (·.2) = F0.ways.map (·.2)
  posts : (F.posts = F0.posts ∨ ¬ NamesOk (F.posts.map (·.1))) ∧ F.posts.map (·.2) = F0.posts.map (·.2)
  words : FldW F
theorem shp_of {d : D} (h1 : (py d).canLay0 = true) (h2 : (py d).depth ≤ 64) : Shp d := Bool.and_eq_true_iff.mpr ⟨h1, decide_eq_true h2⟩
theorem lay_waysW : ∀ {ws : List Way}, (∀ w ∈ ws, WordOk w.1 ∧ WordOk w.2.1 ∧ WordOk w.2.2) → PyData.canLayAll0 (pys (ws.map wayD)) = true
  | [], _ => rfl
  | w :: ws, h => by
    obtain ⟨h1, h2, h3⟩ := h w List.mem_cons_self
    show ((PyData.str w.1).canLay0 && ((PyData.str w.2.1).canLay0 && ((PyData.str w.2.2).canLay0 && true)) && PyData.canLayAll0 (pys (ws.map wayD))) = true
    rw [lay_waysW fun x hx => h x (List.mem_cons_of_mem _ hx), show (PyData.str w.1).canLay0 = true from wordOk_all h1, show (PyData.str w.2.1).canLay0 = true from wordOk_all h2, show (PyData.str w.2.2).canLay0 = true from wordOk_all h3]
    rfl
theorem shp_waysW {ws : List Way} (h : ∀ w ∈ ws, WordOk w.1 ∧ WordOk w.2.1 ∧ WordOk w.2.2) : Shp (.lst (ws.map wayD)) := by
  refine Bool.and_eq_true_iff.mpr ⟨lay_waysW h, decide_eq_true ?_⟩
  have := depth_ways (ws := ws)
  show PyData.depthAll (pys (ws.map wayD)) + 1 ≤ 64
  omega
theorem lay_posts : ∀ {qs : List Post'}, (∀ q ∈ qs, WordOk q.1 ∧ (∀ s ∈ q.2.1, WordOk s) ∧ ∀ s ∈ q.2.2, WordOk s) → PyData.canLayAll0 (pys (qs.map postD)) = true
  | [], _ => rfl
  | q :: qs, h => by
    obtain ⟨h1, h2, h3⟩ := h q List.mem_cons_self
    show ((PyData.str q.1).canLay0 && (PyData.canLayAll0 (pys (q.2.1.map D.str)) && (PyData.canLayAll0 (pys (q.2.2.map D.str)) && true)) && PyData.canLayAll0 (pys (qs.map postD))) = true
    rw [lay_posts fun x hx => h x (List.mem_cons_of_mem _ hx), show (PyData.str q.1).canLay0 = true from wordOk_all h1, lay_strs fun s hs => wordOk_all (h2 s hs), lay_strs fun s hs => wordOk_all (h3 s hs)]
    rfl
theorem depth_posts : ∀ {qs : List Post'}, PyData.depthAll (pys (qs.map postD)) ≤ 2
  | [] => Nat.zero_le _
  | q :: qs => by
    show max (max 0 (max (PyData.depthAll (pys (q.2.1.map D.str)) + 1) (max (PyData.depthAll (pys (q.2.2.map D.str)) + 1) 0)) + 1) (PyData.depthAll (pys (qs.map postD))) ≤ 2
    rw [depth_strs, depth_strs]
    exact Nat.max_le.mpr ⟨by decide, depth_posts⟩
theorem shp_posts {qs : List Post'} (h : ∀ q ∈ qs, WordOk q.1 ∧ (∀ s ∈ q.2.1, WordOk s) ∧ ∀ s ∈ q.2.2, WordOk s) : Shp (.lst (qs.map postD)) := by
  refine Bool.and_eq_true_iff.mpr ⟨lay_posts h, decide_eq_true ?_⟩
  have := depth_posts (qs := qs)
  show PyData.depthAll (pys (qs.map postD)) + 1 ≤ 64
  omega
/-- the rows of a group -/
def grp (F : Fld) (g : Int) : List D := if g = 1 then F.spots.map .str else if g = 2 then F.folk.map .str else if g = 3 then F.ways.map wayD else F.posts.map postD
theorem grp_shp {F : Fld} (h : FldW F) (g : Int) : Shp (.lst (grp F g)) := by
  unfold grp
  split
  · exact shp_strs fun s hs => wordOk_all (h.spots s hs)
  · split
    · exact shp_strs fun s hs => wordOk_all (h.folk s hs)
    · split
      · exact shp_waysW h.ways
      · exact shp_posts h.posts
def GRP : List Int := [1, 2, 3, 5]
theorem grp_at {F : Fld} {g : Int} (h : g ∈ GRP) : L2.atI [D.int F.hours, D.lst (F.spots.map D.str), D.lst (F.folk.map D.str), D.lst (F.ways.map wayD), D.lst (F.shut.map gateD), D.lst (F.posts.map postD)] g = some (.lst (grp F g)) := by
  rcases List.mem_cons.mp h with rfl | h
  · rfl
  rcases List.mem_cons.mp h with rfl | h
  · rfl
  rcases List.mem_cons.mp h with rfl | h
  · rfl
  rcases List.mem_cons.mp h with rfl | h
  · rfl
  nomatch h
theorem at_nat {α : Type} {xs : List α} {r : Int} (h0 : 0 ≤ r) (h1 : r < (xs.length : Int)) : ∃ x, xs[r.toNat]? = some x ∧ L2.atI xs r = some x := by
  have l : r.toNat < xs.length := by omega
  refine ⟨xs[r.toNat], List.getElem?_eq_getElem l, ?_⟩
  conv => lhs; rw [show r = ((r.toNat : Nat) : Int) by omega]
  exact L2.atI_nat (List.getElem?_eq_getElem l)
theorem ixN_pos {n : Nat} {r : Int} (h0 : 0 ≤ r) (h1 : r < (n : Int)) : L2.ixN n r = some r.toNat := by
  unfold L2.ixN
  rw [if_pos h0, if_pos h1]
/-- a name exchanged for a word that is none or stands earlier -/
theorem spoil_bad {ss : List Str} {k : Nat} {word : Str} (hk : k < ss.length) (h : ¬ IsName word ∨ ∃ j, j < k ∧ ss[j]? = some word) : ¬ NamesOk (ss.set k word) := by
  rintro ⟨h1, h2⟩
  rcases h with h | ⟨j, hj, e⟩
  · exact h (h2 word (List.mem_of_getElem? (i := k) (by rw [List.getElem?_set_self hk])))
  · have e1 : (ss.set k word)[j]? = some word := by rw [List.getElem?_set_ne (by omega)]; exact e
    have e2 : (ss.set k word)[k]? = some word := List.getElem?_set_self hk
    have := (List.getElem?_inj (i := j) (j := k) (by rw [List.length_set]; omega) h1).mp (e1.trans e2.symm)
    omega
theorem spo_refl {m0 m1 m2 m3 m4 : Int} {F : Fld} (h : FldOk m0 m1 m2 m3 m4 F) : Spo F F := by
  refine ⟨rfl, rfl, ⟨.inl rfl, rfl⟩, ⟨.inl rfl, rfl⟩, ⟨.inl rfl, rfl⟩, ⟨.inl rfl, rfl⟩, ⟨fun s hs => wordOk_name (h.spots.1.2 s hs), fun s hs => wordOk_name (h.folk.1.2 s hs), fun w hw => ?_, fun q hq => ?_⟩⟩
  · have a := h.ways.1.2 w hw
    exact ⟨wordOk_name (h.ways.1.1.2 _ (List.mem_map.mpr ⟨w, hw, rfl⟩)), wordOk_name (h.spots.1.2 _ a.1), wordOk_name (h.spots.1.2 _ a.2.1)⟩
  · obtain ⟨⟨_, p2⟩, _, p4⟩ := h.posts.1.2 q hq
    exact ⟨wordOk_name (h.posts.1.1.2 _ (List.mem_map.mpr ⟨q, hq, rfl⟩)), fun s hs => wordOk_name (h.folk.1.2 s (p2.subset hs)), fun s hs => wordOk_name (h.ways.1.1.2 s (p4.subset hs))⟩
/-- one group with other names -/
def setGrp (F : Fld) (g : Int) (k : Nat) (w : Str) : Fld :=
  if g = 1 then { F with spots := F.spots.set k w } else if g = 2 then { F with folk := F.folk.set k w }
  else if g = 3 then { F with ways := match F.ways[k]? with | some a => F.ways.set k (w, a.2) | none => F.ways }
  else { F with posts := match F.posts[k]? with | some a => F.posts.set k (w, a.2) | none => F.posts }
def nms (F : Fld) (g : Int) : List Str := if g = 1 then F.spots else if g = 2 then F.folk else if g = 3 then F.ways.map (·.1) else F.posts.map (·.1)
theorem nms_len {F : Fld} {g : Int} : (nms F g).length = (grp F g).length := by
  unfold nms grp
  by_cases a : g = 1
  · rw [if_pos a, if_pos a, List.length_map]
  · rw [if_neg a, if_neg a]
    by_cases b : g = 2
    · rw [if_pos b, if_pos b, List.length_map]
    · rw [if_neg b, if_neg b]
      by_cases d : g = 3
      · rw [if_pos d, if_pos d, List.length_map, List.length_map]
      · rw [if_neg d, if_neg d, List.length_map, List.length_map]
theorem mem_set {α : Type} {l : List α} {k : Nat} {a x : α} (h : x ∈ l.set k a) : x = a ∨ x ∈ l := by
  rcases List.mem_or_eq_of_mem_set h with m | e
  · exact .inr m
  · exact .inl e
theorem set_same {α β : Type} {f : α → β} {l : List α} {k : Nat} {a b : α} (h : l[k]? = some a) (e : f b = f a) : (l.set k b).map f = l.map f := by
  rw [List.map_set, e]
  apply List.ext_getElem?
  intro j
  rw [List.getElem?_set]
  by_cases c : k = j
  · subst c
    rw [if_pos rfl, List.getElem?_map, h]
    split
    · rfl
    · rename_i l2
      rw [List.length_map] at l2
      rw [List.getElem?_eq_none (by omega)] at h; cases h
  · rw [if_neg c]
theorem spo_set {F0 F : Fld} {g : Int} {k : Nat} {word : Str} (h : Spo F0 F) (hg : g ∈ GRP) (hk : k < (grp F g).length) (hw : WordOk word) (hb : ¬ IsName word ∨ ∃ j, j < k ∧ (nms F g)[j]? = some word) : Spo F0 (setGrp F g k word) := by
  rcases List.mem_cons.mp hg with rfl | hg
  · have hk : k < F.spots.length := by rw [← List.length_map (f := D.str)]; exact hk
    exact ⟨h.hours, h.shut, ⟨.inr (spoil_bad hk hb), by rw [← h.spots.2]; exact List.length_set⟩, h.folk, h.ways, h.posts, ⟨fun s hs => (mem_set hs).elim (fun e => e ▸ hw) (h.words.spots s), h.words.folk, h.words.ways, h.words.posts⟩⟩
  rcases List.mem_cons.mp hg with rfl | hg
  · have hk : k < F.folk.length := by rw [← List.length_map (f := D.str)]; exact hk
    exact ⟨h.hours, h.shut, h.spots, ⟨.inr (spoil_bad hk hb), by rw [← h.folk.2]; exact List.length_set⟩, h.ways, h.posts, ⟨h.words.spots, fun s hs => (mem_set hs).elim (fun e => e ▸ hw) (h.words.folk s), h.words.ways, h.words.posts⟩⟩
  rcases List.mem_cons.mp hg with rfl | hg
  · have hk : k < F.ways.length := by rw [← List.length_map (f := wayD)]; exact hk
    obtain ⟨a, ha⟩ : ∃ a, F.ways[k]? = some a := ⟨_, List.getElem?_eq_getElem hk⟩
    have e : setGrp F 3 k word = { F with ways := F.ways.set k (word, a.2) } := by
      show ({ F with ways := match F.ways[k]? with | some a => F.ways.set k (word, a.2) | none => F.ways } : Fld) = _
      rw [ha]
    rw [e]
    have hb : ¬ IsName word ∨ ∃ j, j < k ∧ (F.ways.map (·.1))[j]? = some word := hb
    refine ⟨h.hours, h.shut, h.spots, h.folk, ⟨.inr ?_, ?_⟩, h.posts, ⟨h.words.spots, h.words.folk, fun w hm => (mem_set hm).elim (fun e => ?_) (h.words.ways w), h.words.posts⟩⟩
    · show ¬ NamesOk ((F.ways.set k (word, a.2)).map (·.1))
      rw [List.map_set]
      exact spoil_bad (by rw [List.length_map]; exact hk) hb
    · rw [← h.ways.2]
      exact set_same (f := fun w : Way => w.2) ha rfl
    · subst e
      exact ⟨hw, (h.words.ways a (List.mem_of_getElem? ha)).2⟩
  rcases List.mem_cons.mp hg with rfl | hg
  · have hk : k < F.posts.length := by rw [← List.length_map (f := postD)]; exact hk
    obtain ⟨a, ha⟩ : ∃ a, F.posts[k]? = some a := ⟨_, List.getElem?_eq_getElem hk⟩
    have e : setGrp F 5 k word = { F with posts := F.posts.set k (word, a.2) } := by
      show ({ F with posts := match F.posts[k]? with | some a => F.posts.set k (word, a.2) | none => F.posts } : Fld) = _
      rw [ha]
    rw [e]
    have hb : ¬ IsName word ∨ ∃ j, j < k ∧ (F.posts.map (·.1))[j]? = some word := hb
    refine ⟨h.hours, h.shut, h.spots, h.folk, h.ways, ⟨.inr ?_, ?_⟩, ⟨h.words.spots, h.words.folk, h.words.ways, fun w hm => (mem_set hm).elim (fun e => ?_) (h.words.posts w)⟩⟩
    · show ¬ NamesOk ((F.posts.set k (word, a.2)).map (·.1))
      rw [List.map_set]
      exact spoil_bad (by rw [List.length_map]; exact hk) hb
    · rw [← h.posts.2]
      exact set_same (f := fun w : Post' => w.2) ha rfl
    · subst e
      exact ⟨hw, (h.words.posts a (List.mem_of_getElem? ha)).2⟩
  nomatch hg

section
variable {P : Program} {w : World} {K : PySem.W.Frag} {mg : Str → Option Value} {base : Heap} {f : Addr} {fd : FuncData}
def SSpoilt : Sc := fun c ds Φ _ => PoolOk c ∧ ∃ F0 F, ds = [Fld.d F] ∧ Spo F0 F ∧ F.spots ≠ [] ∧ (∀ g ∈ GRP, (grp F g).length ≤ 1000) ∧ ∀ F' c', Spo F0 F' → PoolOk c' → Φ F'.d c'
abbrev nSpoilt : List Str := ["pool", "data", "groups", "k", "group", "rows", "names", "row", "at", "word", "changed"]
theorem scSpoilt : FnScope nSpoilt ["pool", "data"] (defScope S__law_spoilt) := ⟨rfl, rfl, rfl, by decide +kernel, rfl, by decide +kernel, by decide +kernel⟩
/-- [x for x in xs] -/
theorem clpO_id {X : Cx} {scope : Scope} {elt tg iter : Expr} {V : List Nat} {k : Nat} {p : Addr} (rows : List D) {Γ1 : List Sl} {F : List Sl → List D → Prop} (G2 : D → List Sl) (hl : rows.length < 10000000)
    (ho : (wipeG Γ1 V)[k]? = some (.own p (.lst rows))) (hg : ∀ Y, DLC.IsBlk X scope Y → ∀ (a : D) (Φ : List Sl → Prop), Φ (G2 a) → GV Y tg V a (wipeG Γ1 V) Φ) (hw : ∀ a, wipeG (G2 a) V = wipeG Γ1 V)
    (he : ∀ Y, DLC.IsBlk X scope Y → ∀ a ∈ rows, ∀ Φ : D → List Sl → Prop, Φ a (G2 a) → EV Y WF (G2 a) elt Φ exF)
    (h : F (wipeG Γ1 V) rows) : CLpO X scope (emV X scope elt) ⟨tg, iter, [], V⟩ k p rows Γ1 [] F := by
  have e : rows = rows.map fun d => d := (List.map_id' rows).symm
  have := clpO_map (X := X) (scope := scope) (elt := elt) (tg := tg) (iter := iter) (V := V) (k := k) (p := p) (fun d : D => d) (fun d : D => d) rows (Γ1 := Γ1) (F := F) G2 hl (by rw [← e]; exact ho) hg hw he (by rw [← e]; exact h)
  rw [← e] at this
  exact this
theorem grp_ne {F : Fld} {g : Int} (h : (!(grp F g).isEmpty) = true) : 0 < (grp F g).length := by
  cases e : grp F g with
  | nil => rw [e] at h; cases h
  | cons a b => rw [List.length_cons]; omega
def dl (F : Fld) : List D := [.int F.hours, .lst (F.spots.map .str), .lst (F.folk.map .str), .lst (F.ways.map wayD), .lst (F.shut.map gateD), .lst (F.posts.map postD)]
def tupD (a : Str × List D) : D := .tup (.str a.1 :: a.2)
theorem grp_flat {F : Fld} {g : Int} (hg : g ∈ GRP) (h : ¬ 2 < g) : grp F g = (nms F g).map .str := by
  rcases List.mem_cons.mp hg with rfl | hg
  · rfl
  rcases List.mem_cons.mp hg with rfl | hg
  · rfl
  rcases List.mem_cons.mp hg with rfl | hg
  · exact absurd (by decide) h
  rcases List.mem_cons.mp hg with rfl | hg
  · exact absurd (by decide) h
  nomatch hg
theorem grp_tup {F : Fld} {g : Int} (hg : g ∈ GRP) (h : 2 < g) : ∃ as : List (Str × List D), grp F g = as.map tupD ∧ nms F g = as.map (·.1) ∧ ∀ a ∈ as, a.2.length = 2 := by
  rcases List.mem_cons.mp hg with rfl | hg
  · exact absurd h (by decide)
  rcases List.mem_cons.mp hg with rfl | hg
  · exact absurd h (by decide)
  rcases List.mem_cons.mp hg with rfl | hg
  · refine ⟨F.ways.map fun w => (w.1, [.str w.2.1, .str w.2.2]), ?_, ?_, fun a ha => ?_⟩
    · rw [List.map_map]; rfl
    · rw [List.map_map]; rfl
    · obtain ⟨w, _, rfl⟩ := List.mem_map.mp ha
      rfl
  rcases List.mem_cons.mp hg with rfl | hg
  · refine ⟨F.posts.map fun w => (w.1, [.lst (w.2.1.map .str), .lst (w.2.2.map .str)]), ?_, ?_, fun a ha => ?_⟩
    · rw [List.map_map]; rfl
    · rw [List.map_map]; rfl
    · obtain ⟨w, _, rfl⟩ := List.mem_map.mp ha
      rfl
  nomatch hg
theorem set_flat {F : Fld} {g : Int} {k : Nat} {w : Str} (hg : g ∈ GRP) (h : ¬ 2 < g) : (dl F).set g.toNat (.lst ((grp F g).set k (.str w))) = dl (setGrp F g k w) := by
  rcases List.mem_cons.mp hg with rfl | hg
  · show _ = [D.int F.hours, .lst ((F.spots.set k w).map .str), .lst (F.folk.map .str), .lst (F.ways.map wayD), .lst (F.shut.map gateD), .lst (F.posts.map postD)]
    rw [List.map_set]; rfl
  rcases List.mem_cons.mp hg with rfl | hg
  · show _ = [D.int F.hours, .lst (F.spots.map .str), .lst ((F.folk.set k w).map .str), .lst (F.ways.map wayD), .lst (F.shut.map gateD), .lst (F.posts.map postD)]
    rw [List.map_set]; rfl
  rcases List.mem_cons.mp hg with rfl | hg
  · exact absurd (by decide) h
  rcases List.mem_cons.mp hg with rfl | hg
  · exact absurd (by decide) h
  nomatch hg
theorem set_tup {F : Fld} {g : Int} {k : Nat} {w : Str} {n : Str} {tl : List D} (hg : g ∈ GRP) (h : 2 < g) (hk : (grp F g)[k]? = some (tupD (n, tl))) : (dl F).set g.toNat (.lst ((grp F g).set k (tupD (w, tl)))) = dl (setGrp F g k w) := by
  rcases List.mem_cons.mp hg with rfl | hg
  · exact absurd h (by decide)
  rcases List.mem_cons.mp hg with rfl | hg
  · exact absurd h (by decide)
  rcases List.mem_cons.mp hg with rfl | hg
  · have hk : (F.ways.map wayD)[k]? = some (tupD (n, tl)) := hk
    rw [List.getElem?_map] at hk
    cases ha : F.ways[k]? with
    | none => rw [ha] at hk; cases hk
    | some a =>
      rw [ha] at hk
      cases hk
      have e : setGrp F 3 k w = { F with ways := F.ways.set k (w, a.2) } := by
        show ({ F with ways := match F.ways[k]? with | some a => F.ways.set k (w, a.2) | none => F.ways } : Fld) = _
        rw [ha]
      rw [e]
      show _ = [D.int F.hours, .lst (F.spots.map .str), .lst (F.folk.map .str), .lst ((F.ways.set k (w, a.2)).map wayD), .lst (F.shut.map gateD), .lst (F.posts.map postD)]
      rw [List.map_set]; rfl
  rcases List.mem_cons.mp hg with rfl | hg
  · have hk : (F.posts.map postD)[k]? = some (tupD (n, tl)) := hk
    rw [List.getElem?_map] at hk
    cases ha : F.posts[k]? with
    | none => rw [ha] at hk; cases hk
    | some a =>
      rw [ha] at hk
      cases hk
      have e : setGrp F 5 k w = { F with posts := F.posts.set k (w, a.2) } := by
        show ({ F with posts := match F.posts[k]? with | some a => F.posts.set k (w, a.2) | none => F.posts } : Fld) = _
        rw [ha]
      rw [e]
      show _ = [D.int F.hours, .lst (F.spots.map .str), .lst (F.folk.map .str), .lst (F.ways.map wayD), .lst (F.shut.map gateD), .lst ((F.posts.set k (w, a.2)).map postD)]
      rw [List.map_set]; rfl
  nomatch hg
theorem cut_one {a : D} {l : List D} : cutD (a :: l) (some 1) none = l := by
  unfold cutD
  rw [HT.sIx_none, show HT.sIx (a :: l).length 0 (some 1) = 1 from (HT.sIx_nat _ _ 1).trans (by rw [List.length_cons]; omega)]
  rw [List.drop_succ_cons, List.drop_zero, List.length_cons, Nat.add_sub_cancel, List.take_of_length_le (Nat.le_refl _)]
theorem grp_range {g : Int} (hg : g ∈ GRP) : 0 ≤ g ∧ g < 6 := by
  rcases List.mem_cons.mp hg with rfl | hg
  · decide
  rcases List.mem_cons.mp hg with rfl | hg
  · decide
  rcases List.mem_cons.mp hg with rfl | hg
  · decide
  rcases List.mem_cons.mp hg with rfl | hg
  · decide
  nomatch hg
theorem ok_spoilt (F : FunT K "_law_spoilt" S__law_spoilt f fd) (T : Txt mg) (C_law_draw : Fd P w K mg base 2 "_law_draw" ["pool", "limit"] (spC K SDraw)) (C_law_odd : Fd P w K mg base 4 "_law_odd" ["pool"] (spC K SOdd)) : FnD P w K mg base 5 f fd ["pool", "data"] (spC K SSpoilt) := by
  refine fn_C F scSpoilt 1 rfl (by decide) (fun c ds Φ Ψ h => ?_) (fun f cdv A outer s H E hr c p c0 ds Φ Ψ h => ?_)
  · obtain ⟨_, _, _, rfl, _⟩ := h
    rfl
  · obtain ⟨hp, F0, Fd, rfl, hs, hne, hlen, h⟩ := h
    have hu : (cxOf (CX P w) P w K mg base nSpoilt "_law_spoilt" (defScope S__law_spoilt) f cdv A outer s H E).A.units + 64 < cLine := hr.units
    -- groups
    refine sv_cons <| s_setLc (i := 2) c [("k", 3)] [] (lcOk1 (blkOk_by (N := nSpoilt) (sc := defScope S__law_spoilt) (by decide +kernel)) (fun _ => rfl) (fun _ _ _ _ _ _ => rfl)) rfl rfl (sw_true rfl rfl rfl (by decide +kernel)) <| ei_lst <| ev_lst <| ea_cons <| ev_int <| ea_cons <| ev_int <| ea_cons <| ev_int <| ea_cons <| ev_int <| ea_nil <| xa (leb rfl) <| xo rfl ?_
    refine clp_filt D.int D.int (fun g => !(grp Fd g).isEmpty) GRP (fun a => [.own p c0, .ok Fd.d, .un, .ok (.int a), .un, .un, .un, .un, .un, .un, .un]) (by decide) (fun Y hY a Φ h => ?_) (fun a => rfl) (fun Y hY a ha Φ h => ?_) (fun Y hY a ha Φ h => ?_) ?_
    · obtain ⟨_, _, _, _, _, rfl⟩ := hY
      exact gv_name (i := 3) (by decide) rfl (ltb rfl) (.inl rfl) c.nd h
    · obtain ⟨_, _, _, _, _, rfl⟩ := hY
      refine et_cmp <| ev_ix <| ev_name (i := 1) (d := Fd.d) rfl rfl (.inr (.inl rfl)) <| ev_name (i := 3) rfl rfl (.inl rfl) <| ix_l (grp_at ha) <| ev_lst <| ea_nil <| xa (leb rfl) <| d_neD hu (grp_shp hs.words a) shp_nil <| xo rfl ?_
      rw [eqv_nil]
      exact h
    · obtain ⟨_, _, _, _, _, rfl⟩ := hY
      exact ev_name (i := 3) rfl rfl (.inl rfl) h
    refine xa (ltb rfl) ?_
    generalize hgl : GRP.filter (fun g => !(grp Fd g).isEmpty) = gl
    have hgl0 : gl ≠ [] := fun e => by
      have : (1 : Int) ∈ GRP.filter (fun g => !(grp Fd g).isEmpty) := List.mem_filter.mpr ⟨List.mem_cons_self, by
        show (!(Fd.spots.map D.str).isEmpty) = true
        cases e2 : Fd.spots with
        | nil => exact absurd e2 hne
        | cons a b => rfl⟩
      rw [hgl, e] at this
      nomatch this
    have hgl4 : gl.length ≤ 4 := by rw [← hgl]; exact List.length_filter_le _ GRP
    -- group
    refine sv_cons <| s_set (i := 4) rfl (.inl rfl) c.nd <| ev_ix <| ev_name (i := 2) rfl rfl (.inl rfl) <| ev_cC (i := 0) C_law_draw (hr.mono (by decide)) rfl c.takes rfl rfl (.inl rfl) <| ea_cons <| ev_b1 rfl T.n_len boot_len <| er_ev <| ev_name (i := 2) rfl rfl (.inl rfl) <| c_len_l <| ea_nil <| xo rfl <| use_draw hp (by rw [List.length_map]; omega) fun r c1 r0 r1 hp1 => ?_
    rw [List.length_map] at r1
    have hglp := List.length_pos_iff.mpr hgl0
    obtain ⟨g, hg, eg⟩ : ∃ g, g ∈ gl ∧ L2.atI (gl.map D.int) r = some (.int g) := by
      obtain ⟨g, hg, _⟩ := at_nat (xs := gl) r0 (by omega)
      refine ⟨g, List.mem_of_getElem? hg, ?_⟩
      conv => lhs; rw [show r = (0 : Int) + ((r.toNat : Nat) : Int) by omega]
      exact gets hg
    have hg2 : g ∈ GRP ∧ 0 < (grp Fd g).length := by
      rw [← hgl] at hg
      exact ⟨(List.mem_filter.mp hg).1, grp_ne (List.mem_filter.mp hg).2⟩
    obtain ⟨hgG, hgp⟩ := hg2
    have hgm := hlen g hgG
    refine ix_l eg <| xa (ltb rfl) ?_
    -- rows
    refine sv_cons <| s_own (i := 5) rfl (.inl rfl) c.nd <| ef_list rfl T.n_list boot_list <| ev_ix <| ev_name (i := 1) (d := Fd.d) rfl rfl (.inr (.inl rfl)) <| ev_name (i := 4) rfl rfl (.inl rfl) <| ix_l (grp_at hgG) <| xo rfl <| xa (ltb rfl) fun q hq => ?_
    generalize hrows : grp Fd g = rows
    rw [hrows] at hgp hgm
    -- names = [row for row in rows]
    refine sv_cons <| s_setLcO (i := 6) (k := 5) c [("row", 7)] (lcOk1 (blkOk_by (N := nSpoilt) (sc := defScope S__law_spoilt) (by decide +kernel)) (fun _ => rfl) (fun _ _ _ _ _ _ => rfl)) rfl rfl (sw_true rfl rfl rfl (by decide +kernel)) rfl rfl (.inl rfl) <| clpO_id rows (fun a => [.own p c1, .ok Fd.d, .ok (.lst (gl.map D.int)), .un, .ok (.int g), .own q (.lst rows), .un, .ok a, .un, .un, .un]) (by omega) rfl (fun Y hY a Φ h => ?_) (fun a => rfl) (fun Y hY a ha Φ h => ?_) ?_
    · obtain ⟨_, _, _, _, _, rfl⟩ := hY
      exact gv_name (i := 7) (by decide) rfl (ltb rfl) (.inl rfl) c.nd h
    · obtain ⟨_, _, _, _, _, rfl⟩ := hY
      exact ev_name (i := 7) rfl rfl (.inl rfl) h
    refine xa (ltb rfl) ?_
    -- if group > 2: names = [row[0] ..]
    refine sv_cut (fun G => G = [.own p c1, .ok Fd.d, .ok (.lst (gl.map D.int)), .un, .ok (.int g), .own q (.lst rows), .ok (.lst ((nms Fd g).map .str)), .un, .un, .un, .un])
      (s_if <| et_cmp <| ev_name (i := 4) rfl rfl (.inl rfl) <| ev_int <| d_gt <| xo rfl <| ⟨fun hT => ?_, fun hF => ?_⟩) (fun G hJ => ?_)
    · replace hT := of_decide_eq_true hT
      obtain ⟨as, e1, e2, _⟩ := grp_tup (F := Fd) hgG hT
      rw [hrows] at e1
      subst e1
      refine sv_cons <| s_setLcO (i := 6) (k := 5) c [("row", 7)] (lcOk1 (blkOk_by (N := nSpoilt) (sc := defScope S__law_spoilt) (by decide +kernel)) (fun _ => rfl) (fun _ _ _ _ _ _ => rfl)) rfl rfl (sw_true rfl rfl rfl (by decide +kernel)) rfl rfl (.inl rfl) <| clpO_map tupD (fun a => D.str a.1) as (fun a => [.own p c1, .ok Fd.d, .ok (.lst (gl.map D.int)), .un, .ok (.int g), .own q (.lst (as.map tupD)), .ok (.lst (as.map tupD)), .ok (tupD a), .un, .un, .un]) (by rw [List.length_map] at hgm; omega) rfl (fun Y hY a Φ h => ?_) (fun a => rfl) (fun Y hY a ha Φ h => ?_) ?_
      · obtain ⟨_, _, _, _, _, rfl⟩ := hY
        exact gv_name (i := 7) (by decide) rfl (ltb rfl) (.inl rfl) c.nd h
      · obtain ⟨_, _, _, _, _, rfl⟩ := hY
        exact ev_ix <| ev_name (i := 7) (d := D.tup (.str a.1 :: a.2)) rfl rfl (.inl rfl) <| ev_int <| ix_t (L2.atI_nat (j := 0) rfl) h
      · refine xa (ltb rfl) <| sv_nil ?_
        rw [e2, List.map_map]
        rfl
    · replace hF := of_decide_eq_false hF
      have e := grp_flat (F := Fd) hgG hF
      rw [hrows] at e
      rw [e]
      exact sv_nil rfl
    subst hJ
    have hnl : (nms Fd g).length = rows.length := by rw [nms_len, hrows]
    -- at
    refine sv_cons <| s_set (i := 8) rfl (.inl rfl) c.nd <| ev_cC (i := 0) C_law_draw (hr.mono (by decide)) rfl c.takes rfl rfl (.inl rfl) <| ea_cons <| ev_b1 rfl T.n_len boot_len <| er_own (i := 5) rfl rfl (.inl rfl) <| c_len_l <| ea_nil <| xo rfl <| use_draw hp1 (by omega) fun k c2 k0 k1 hp2 => xa (ltb rfl) ?_
    -- word
    refine sv_cons <| s_set (i := 9) rfl (.inl rfl) c.nd <| ev_cC (i := 0) C_law_odd (hr.mono (by decide)) rfl c.takes rfl rfl (.inl rfl) <| ea_nil <| xo rfl <| use_odd hp2 fun odd c3 hodd hp3 => xa (ltb rfl) ?_
    refine sv_cut (fun G => ∃ c' word, G = [.own p c', .ok Fd.d, .ok (.lst (gl.map D.int)), .un, .ok (.int g), .own q (.lst rows), .ok (.lst ((nms Fd g).map .str)), .un, .ok (.int k), .ok (.str word), .un] ∧ PoolOk c' ∧ WordOk word ∧ (¬ IsName word ∨ ∃ j, j < k.toNat ∧ (nms Fd g)[j]? = some word))
      (s_if <| et_w <| ew_and <| et_cmp <| ev_name (i := 8) rfl rfl (.inl rfl) <| ev_int <| d_gt <| xo rfl <| ⟨fun hT => ?_, fun hF => ?_⟩) (fun G hJ => ?_)
    · replace hT := of_decide_eq_true hT
      refine ew_and1 <| et_cmp <| ev_cC (i := 0) C_law_draw (hr.mono (by decide)) rfl c.takes rfl rfl (.inl rfl) <| ea_cons <| ev_int <| ea_nil <| xo rfl <| use_draw hp3 (by decide) fun b c4 b0 b1 hp4 => ev_int <| d_eqi <| xo rfl <| ⟨fun hT2 => ?_, fun hF2 => ?_⟩
      · refine sv_cons <| s_set (i := 9) rfl (.inl rfl) c.nd <| ev_ix <| ev_name (i := 6) rfl rfl (.inl rfl) <| ev_cC (i := 0) C_law_draw (hr.mono (by decide)) rfl c.takes rfl rfl (.inl rfl) <| ea_cons <| ev_name (i := 8) rfl rfl (.inl rfl) <| ea_nil <| xo rfl <| use_draw hp4 (by omega) fun j c5 j0 j1 hp5 => ?_
        obtain ⟨word, hw, _⟩ := at_nat (xs := nms Fd g) j0 (by omega)
        have ew : L2.atI ((nms Fd g).map D.str) j = some (.str word) := by
          conv => lhs; rw [show j = (0 : Int) + ((j.toNat : Nat) : Int) by omega]
          exact gets hw
        refine ix_l ew <| xa (ltb rfl) <| sv_nil ⟨c5, word, rfl, hp5, ?_, .inr ⟨j.toNat, by omega, hw⟩⟩
        have hm := List.mem_of_getElem? hw
        rcases List.mem_cons.mp hgG with rfl | hg3
        · exact hs.words.spots _ hm
        rcases List.mem_cons.mp hg3 with rfl | hg3
        · exact hs.words.folk _ hm
        rcases List.mem_cons.mp hg3 with rfl | hg3
        · obtain ⟨x, hx, rfl⟩ := List.mem_map.mp (show word ∈ Fd.ways.map (·.1) from hm)
          exact (hs.words.ways x hx).1
        rcases List.mem_cons.mp hg3 with rfl | hg3
        · obtain ⟨x, hx, rfl⟩ := List.mem_map.mp (show word ∈ Fd.posts.map (·.1) from hm)
          exact (hs.words.posts x hx).1
        nomatch hg3
      · exact sv_nil ⟨c4, odd, rfl, hp4, hodd.2, .inl hodd.1⟩
    · exact ⟨fun z => (nomatch z), fun _ => sv_nil ⟨c3, odd, rfl, hp3, hodd.2, .inl hodd.1⟩⟩
    obtain ⟨c4, word, rfl, hp4, hword, hbad⟩ := hJ
    -- if group > 2: rows[at] = ..
    obtain ⟨old, hold, aold⟩ := at_nat (xs := rows) k0 (by omega)
    refine sv_cut (fun G => ∃ rows2, G = [.own p c4, .ok Fd.d, .ok (.lst (gl.map D.int)), .un, .ok (.int g), .own q (.lst rows2), .ok (.lst ((nms Fd g).map .str)), .un, .ok (.int k), .ok (.str word), .un] ∧ (dl Fd).set g.toNat (.lst rows2) = dl (setGrp Fd g k.toNat word))
      (s_if <| et_cmp <| ev_name (i := 4) rfl rfl (.inl rfl) <| ev_int <| d_gt <| xo rfl <| ⟨fun hT => ?_, fun hF => ?_⟩) (fun G hJ => ?_)
    · replace hT := of_decide_eq_true hT
      obtain ⟨as, e1, e2, e3⟩ := grp_tup (F := Fd) hgG hT
      rw [hrows] at e1
      obtain ⟨a, ha, ea⟩ : ∃ a, as[k.toNat]? = some a ∧ old = tupD a := by
        rw [e1, List.getElem?_map] at hold
        cases z : as[k.toNat]? with
        | none => rw [z] at hold; cases hold
        | some a => rw [z] at hold; exact ⟨a, rfl, (Option.some.inj hold).symm⟩
      obtain ⟨an, tl⟩ := a
      have tl2 : tl.length = 2 := e3 _ (List.mem_of_getElem? ha)
      rw [ea] at aold hold
      refine sv_cons <| s_store (i := 5) rfl rfl (.inl rfl) <| ev_op <| ev_tup <| ea_cons <| ev_name (i := 9) rfl rfl (.inl rfl) <| ea_nil <| xa (leb rfl) <| ev_sl <| ev_ixo (i := 5) rfl rfl (.inl rfl) <| ev_name (i := 8) rfl rfl (.inl rfl) <| xo rfl <| ix_l aold <| eo_some <| ev_int <| xo rfl <| eo_none <| sl_t ?_ <| ?_
      · rintro ⟨z, _⟩
        rw [show HT.sIx (D.str an :: tl).length 0 (some 1) = 1 from (HT.sIx_nat _ _ 1).trans (by rw [List.length_cons]; omega)] at z
        cases z
      · rw [cut_one]
        refine d_catT (ds := [D.str word]) (es := tl) (by rw [tl2, List.length_singleton]; decide) (List.cons_ne_nil _ _) (fun z => by
          have z : tl = [] := z
          rw [z] at tl2; cases tl2) <| ev_name (i := 8) rfl rfl (.inl rfl) <| xs rfl rfl (ixN_pos k0 (by omega)) <| sv_nil ⟨rows.set k.toNat (tupD (word, tl)), rfl, ?_⟩
        have := set_tup (F := Fd) (w := word) hgG hT (by rw [hrows]; exact hold)
        rw [hrows] at this
        exact this
    · replace hF := of_decide_eq_false hF
      refine sv_cons <| s_store (i := 5) rfl rfl (.inl rfl) <| ev_name (i := 9) rfl rfl (.inl rfl) <| ev_name (i := 8) rfl rfl (.inl rfl) <| xs rfl rfl (ixN_pos k0 (by omega)) <| sv_nil ⟨rows.set k.toNat (.str word), rfl, ?_⟩
      have := set_flat (F := Fd) (k := k.toNat) (w := word) hgG hF
      rw [hrows] at this
      exact this
    obtain ⟨rows2, rfl, hset⟩ := hJ
    refine sv_rel (i := 5) rfl hq ?_
    -- changed
    refine sv_cons <| s_own (i := 10) rfl (.inl rfl) c.nd <| ef_list rfl T.n_list boot_list <| ev_name (i := 1) (d := Fd.d) rfl rfl (.inr (.inl rfl)) <| ⟨dl Fd, rfl, xa (ltb rfl) fun q2 hq2 => ?_⟩
    obtain ⟨g0, g6⟩ := grp_range hgG
    refine sv_cons <| s_store (i := 10) rfl rfl (.inl rfl) <| ev_name (i := 5) rfl rfl (.inl rfl) <| ev_name (i := 4) rfl rfl (.inl rfl) <| xs rfl rfl (ixN_pos g0 (by show g < 6; exact g6)) ?_
    refine sv_cons <| s_retOwn (i := 10) (by decide) rfl rfl (.inl rfl) ⟨c4, rfl, ?_⟩
    rw [hset]
    exact h (setGrp Fd g k.toNat word) c4 (spo_set hs hgG (by rw [hrows]; omega) hword hbad) hp4
end
end K00
end

section
set_option maxRecDepth 100000
set_option maxHeartbeats 1000000
namespace K00
open PySem PySem.Spec L2 DL
open PyProof.Rows (boot_int boot_abs boot_list boot_max boot_min boot_range boot_all boot_tuple boot_sorted boot_isinstance boot_enumerate)
/-! ### what a name is, by the law's own test -/
theorem strip_empty (g : Nat → Bool) (x : Str) : PySem.Txt.stripBy g true true x = "" ↔ ∀ c ∈ x.cps.toList, g c = true := by
  rw [PyProof.Rows.stripBy_eq]
  obtain ⟨l1, l2, l3⟩ := PyProof.Rows.lo_facts g x
  obtain ⟨h1, h2, h3, h4⟩ := PyProof.Rows.hi_facts g x _ l1
  generalize stripLo g true x = lo at *
  generalize stripHi g true x lo = hi at *
  have getm : ∀ k, k < x.length → x.cps.getD k 0 ∈ x.cps.toList := fun k hk => by
    have hk : k < x.cps.size := hk
    rw [Array.getD_eq_getD_getElem?, Array.getElem?_eq_getElem hk]
    show x.cps[k] ∈ _
    exact Array.mem_toList_iff.mpr (Array.getElem_mem hk)
  have emp : (Builtin.Str.strSub x lo hi = "") ↔ hi = lo := by
    constructor
    · intro e
      have e1 : (x.cps.extract lo hi).size = 0 := by
        have : (Builtin.Str.strSub x lo hi).cps = ("" : Str).cps := by rw [e]
        show (Builtin.Str.strSub x lo hi).cps.size = 0
        rw [this]; rfl
      rw [Array.size_extract] at e1
      have h2 : hi ≤ x.cps.size := h2
      omega
    · intro e
      subst e
      show (⟨x.cps.extract hi hi⟩ : Str) = ⟨#[]⟩
      congr 1
      apply Array.ext'
      simp
  rw [emp]
  constructor
  · intro e c hc
    subst e
    obtain ⟨k, hk, rfl⟩ := List.getElem_of_mem hc
    rw [Array.length_toList] at hk
    have gk : x.cps.getD k 0 = x.cps.toList[k] := by rw [Array.getD_eq_getD_getElem?, Array.getElem?_eq_getElem hk]; simp
    rw [← gk]
    by_cases d : k < hi
    · exact l2 k d
    · exact h3 k (by omega) hk
  · intro all
    have : lo = x.length := by
      rcases l3 with z | z
      · exact z
      · by_cases d : lo < x.length
        · rw [all _ (getm lo d)] at z; cases z
        · omega
    omega
theorem low_mem : ∀ c, Low c ↔ c ∈ LET.cps.toList := fun c => by
  constructor
  · rintro ⟨h1, h2⟩
    have : ∀ c, c < 123 → 97 ≤ c → c ∈ LET.cps.toList := by decide +kernel
    exact this c (by omega) h1
  · exact lets_low c
theorem dig_mem : ∀ c, Dig c ↔ FIG.cps.contains c = true := fun c => by
  rw [Array.contains_iff_mem, ← Array.mem_toList_iff]
  constructor
  · rintro ⟨h1, h2⟩
    have : ∀ c, c < 58 → 48 ≤ c → c ∈ FIG.cps.toList := by decide +kernel
    exact this c (by omega) h1
  · intro h
    have : (FIG.cps.toList.all fun c => decide (Dig c)) = true := by decide +kernel
    exact of_decide_eq_true (List.all_eq_true.mp this c h)
theorem isName_iff {s : Str} {c : Nat} {r : List Nat} (e : s.cps.toList = c :: r) (hl : s.length ≤ 4) : IsName s ↔ (Low c ∧ ∀ d ∈ r, Dig d) := by
  have hr : r.length ≤ 3 := by rw [str_length, e, List.length_cons] at hl; omega
  constructor
  · rintro ⟨n, hn, l, ds, q, h1, _, h2⟩
    rw [e] at q
    obtain ⟨rfl, rfl⟩ := List.cons.inj q
    exact ⟨h1, h2⟩
  · rintro ⟨h1, h2⟩
    exact ⟨r.length, hr, c, r, e, h1, rfl, h2⟩
section
variable {P : Program} {w : World} {K : PySem.W.Frag} {mg : Str → Option Value} {base : Heap} {f : Addr} {fd : FuncData}
def SIsName : Sv := fun ds Φ _ => ∃ s, ds = [.str s] ∧ WordOk s ∧ ∀ b, (b = true ↔ IsName s) → Φ (.bl b)
theorem use_is_name {s : Str} {Φ : D → Prop} {Ψ : Ex0} (hw : WordOk s) (h : ∀ b, (b = true ↔ IsName s) → Φ (.bl b)) : SIsName [.str s] Φ Ψ := ⟨s, rfl, hw, h⟩
theorem scIsName : FnScope ["word"] ["word"] (defScope S__law_is_name) := ⟨rfl, rfl, rfl, by decide +kernel, rfl, by decide +kernel, by decide +kernel⟩
theorem ok_is_name (F : FunT K "_law_is_name" S__law_is_name f fd) (T : Txt mg) : FnD P w K mg base 1 f fd ["word"] (spV K SIsName) := by
  refine fn_V F scIsName 1 rfl (by decide) (fun ds Φ Ψ h => ?_) (fun f cdv A outer s H E hr c ds Φ Ψ h => ?_)
  · obtain ⟨_, rfl, _⟩ := h
    rfl
  · obtain ⟨z, rfl, hw, h⟩ := h
    have hz := hw.2
    refine sv_cons <| s_if <| et_not <| et_chain <| ev_int <| ev_b1 rfl T.n_len boot_len <| er_ev <| ev_name (i := 0) rfl rfl (.inl rfl) <| c_len_s (line _ (by omega)) <| d_le <| ⟨_, rfl, fun hF => ?_, fun hT => ?_⟩
    · replace hF := of_decide_eq_false hF
      exact ⟨fun _ => sv_cons <| s_ret <| ev_bl <| h false ⟨fun z => (nomatch z), fun n => absurd n (not_empty (by omega))⟩, fun z => (nomatch z)⟩
    · replace hT := of_decide_eq_true hT
      refine ev_int <| d_le <| xo rfl <| ⟨fun hG => ?_, fun hG => ?_⟩
      · have hG : ¬ ((z.length : Int) ≤ 4) := by simpa using hG
        exact sv_cons <| s_ret <| ev_bl <| h false ⟨fun z => (nomatch z), fun n => absurd n (not_long (by omega))⟩
      · have hG : (z.length : Int) ≤ 4 := by simpa using hG
        obtain ⟨c0, r, e⟩ : ∃ c r, z.cps.toList = c :: r := by
          cases q : z.cps.toList with
          | nil => rw [str_length, q] at hT; exact absurd hT (by decide)
          | cons a b => exact ⟨a, b, rfl⟩
        have iff := isName_iff e (by omega)
        refine sv_nil <| sv_cons <| s_ret <| ev_and <| ev_mem <| ev_ix <| ev_name (i := 0) rfl rfl (.inl rfl) <| ev_int <| ix_s (line _ (by omega)) (by rw [e]; exact L2.atI_nat (j := 0) rfl) <| er_ev <| ev_str <| m_in_s <| ⟨_, rfl, fun hA => ?_, fun hA => ?_⟩
        · replace hA := of_decide_eq_true hA
          have hcl := cutS_length z (some 1) none
          refine ev_one <| ev_cmp <| ev_strip <| ev_sl <| ev_name (i := 0) rfl rfl (.inl rfl) <| eo_some <| ev_int <| xo rfl <| eo_none <| sl_s (line _ (by omega)) <| ⟨_, rfl, ev_str <| ⟨_, rfl, line _ (by omega), ev_str <| d_eqs <| h _ ?_⟩⟩
          rw [decide_eq_true_iff, iff, show PySem.Txt.stripChars (cutS z (some 1) none) FIG = PySem.Txt.stripBy FIG.cps.contains true true (cutS z (some 1) none) from rfl, strip_empty, cutS_from (by decide), e]
          exact ⟨fun q => ⟨(low_mem c0).mpr hA, fun d hd => (dig_mem d).mpr (q d hd)⟩, fun q d hd => (dig_mem d).mp (q.2 d hd)⟩
        · replace hA := of_decide_eq_false hA
          exact h false ⟨fun z => (nomatch z), fun n => absurd ((low_mem c0).mp (iff.mp n).1) hA⟩
/-! ### the first fault -/
def Fault (ns : List Str) (tw : Bool) (s : Str) : Prop := ∃ k, ns[k]? = some s ∧ NamesOk (ns.take k) ∧ ((tw = false ∧ ¬ IsName s) ∨ (tw = true ∧ IsName s ∧ s ∈ ns.take k))
def FirstFault (gs : List (List Str)) : Option (Bool × Str) → Prop
  | none => ∀ ns ∈ gs, NamesOk ns
  | some (tw, s) => ∃ (i : Nat) (ns : List Str), gs[i]? = some ns ∧ (∀ m ∈ gs.take i, NamesOk m) ∧ Fault ns tw s
def faultD : Option (Bool × Str) → D
  | none => .non
  | some (tw, s) => .tup [.str (if tw then "twice" else "name"), .str s]
def nameGroups (F : Fld) : List (List Str) := [F.spots, F.folk, F.ways.map (·.1), F.posts.map (·.1)]
def SFault : Sv := fun ds Φ _ => ∃ F, ds = [Fld.d F] ∧ FldW F ∧ (∀ ns ∈ nameGroups F, ns.length ≤ 1000) ∧ ∀ o, FirstFault (nameGroups F) o → Φ (faultD o)
abbrev nFault : List Str := ["data", "names", "row", "k"]
theorem scFault : FnScope nFault ["data"] (defScope S__law_first_fault) := ⟨rfl, rfl, rfl, by decide +kernel, rfl, by decide +kernel, by decide +kernel⟩
theorem group_words {F : Fld} (h : FldW F) : ∀ ns ∈ nameGroups F, ∀ s ∈ ns, WordOk s := fun ns hm s hs => by
  rcases List.mem_cons.mp hm with rfl | hm
  · exact h.spots s hs
  rcases List.mem_cons.mp hm with rfl | hm
  · exact h.folk s hs
  rcases List.mem_cons.mp hm with rfl | hm
  · obtain ⟨x, hx, rfl⟩ := List.mem_map.mp hs
    exact (h.ways x hx).1
  rcases List.mem_cons.mp hm with rfl | hm
  · obtain ⟨x, hx, rfl⟩ := List.mem_map.mp hs
    exact (h.posts x hx).1
  nomatch hm
theorem ok_first_fault (F : FunT K "_law_first_fault" S__law_first_fault f fd) (T : Txt mg) (C_law_is_name : Fd P w K mg base 1 "_law_is_name" ["word"] (spV K SIsName)) : FnD P w K mg base 2 f fd ["data"] (spV K SFault) := by
  refine fn_V F scFault 1 rfl (by decide) (fun ds Φ Ψ h => ?_) (fun f cdv A outer s H E hr c ds Φ Ψ h => ?_)
  · obtain ⟨_, rfl, _⟩ := h
    rfl
  · obtain ⟨Fd, rfl, hW, hlen, h⟩ := h
    have hlw : Fd.ways.length ≤ 1000 := by
      have := hlen (Fd.ways.map (·.1)) (List.mem_cons_of_mem _ (List.mem_cons_of_mem _ List.mem_cons_self))
      rw [List.length_map] at this
      exact this
    have hlp : Fd.posts.length ≤ 1000 := by
      have := hlen (Fd.posts.map (·.1)) (List.mem_cons_of_mem _ (List.mem_cons_of_mem _ (List.mem_cons_of_mem _ List.mem_cons_self)))
      rw [List.length_map] at this
      exact this
    refine sv_cons <| s_for c <| ei_lst <| ev_lst <| ea_cons <| ev_ix <| ev_name (i := 0) (d := Fd.d) rfl rfl (.inl rfl) <| ev_int <| ix_l (d := .lst (Fd.spots.map .str)) rfl <| ea_cons <| ev_ix <| ev_name (i := 0) (d := Fd.d) rfl rfl (.inl rfl) <| ev_int <| ix_l (d := .lst (Fd.folk.map .str)) rfl <| ea_cons <| EF.ev <| ef_lc c [("row", 2)] [] (lcOk1 (blkOk_by (N := nFault) (sc := defScope S__law_first_fault) (by decide +kernel)) (fun _ => rfl) (fun _ _ _ _ _ _ => rfl)) <| ei_lst <| ev_ix <| ev_name (i := 0) (d := Fd.d) rfl rfl (.inl rfl) <| ev_int <| ix_l (d := .lst (Fd.ways.map wayD)) rfl <| xo rfl ?_
    refine clp_map wayD (fun a : Way => D.str a.1) Fd.ways (fun a => [.ok Fd.d, .un, .ok (wayD a), .un]) (by omega) (fun Y hY a Φ h => ?_) (fun a => rfl) (fun Y hY a ha Φ h => ?_) ?_
    · obtain ⟨_, _, _, _, _, rfl⟩ := hY
      exact gv_name (i := 2) (by decide) rfl (ltb rfl) (.inl rfl) c.nd h
    · obtain ⟨_, _, _, _, _, rfl⟩ := hY
      exact ev_ix <| ev_name (i := 2) rfl rfl (.inl rfl) <| ev_int <| ix_t rfl h
    refine ea_cons <| EF.ev <| ef_lc c [("row", 2)] [] (lcOk1 (blkOk_by (N := nFault) (sc := defScope S__law_first_fault) (by decide +kernel)) (fun _ => rfl) (fun _ _ _ _ _ _ => rfl)) <| ei_lst <| ev_ix <| ev_name (i := 0) (d := Fd.d) rfl rfl (.inl rfl) <| ev_int <| ix_l (d := .lst (Fd.posts.map postD)) rfl <| xo rfl ?_
    refine clp_map postD (fun a : Post' => D.str a.1) Fd.posts (fun a => [.ok Fd.d, .un, .ok (postD a), .un]) (by omega) (fun Y hY a Φ h => ?_) (fun a => rfl) (fun Y hY a ha Φ h => ?_) ?_
    · obtain ⟨_, _, _, _, _, rfl⟩ := hY
      exact gv_name (i := 2) (by decide) rfl (ltb rfl) (.inl rfl) c.nd h
    · obtain ⟨_, _, _, _, _, rfl⟩ := hY
      exact ev_ix <| ev_name (i := 2) rfl rfl (.inl rfl) <| ev_int <| ix_t rfl h
    refine ea_nil <| xa (leb rfl) <| xo rfl ?_
    rw [show [D.lst (Fd.spots.map .str), .lst (Fd.folk.map .str), .lst (Fd.ways.map fun a : Way => D.str a.1), .lst (Fd.posts.map fun a : Post' => D.str a.1)] = (nameGroups Fd).map fun ns => D.lst (ns.map .str) by
      show _ = [D.lst (Fd.spots.map .str), .lst (Fd.folk.map .str), .lst ((Fd.ways.map (·.1)).map .str), .lst ((Fd.posts.map (·.1)).map .str)]
      rw [List.map_map, List.map_map]
      rfl]
    refine ⟨fun _ => ⟨fun i G => ∃ y z, G = [.ok Fd.d, y, .un, z] ∧ ∀ m ∈ (nameGroups Fd).take i, NamesOk m, ⟨_, _, rfl, fun _ m => (nomatch m)⟩, fun i d G hd hT => ⟨[1], gv_name (i := 1) (by decide) rfl ?_ (.inl rfl) c.nd ?_⟩, fun G hT => ?_⟩⟩
    · obtain ⟨_, _, rfl, _⟩ := hT
      exact ltb rfl
    · obtain ⟨y, z, rfl, hpre⟩ := hT
      obtain ⟨ns, hns, rfl⟩ := enc_get (enc := fun ns : List Str => D.lst (ns.map D.str)) hd
      have hnm := List.mem_of_getElem? hns
      have hnl := hlen ns hnm
      refine sv_cons <| s_for c <| ei_range1 rfl T.n_range <| ev_b1 rfl T.n_len boot_len <| er_ev <| ev_name (i := 1) rfl rfl (.inl rfl) <| c_len_l <| ⟨_, rfl, by omega, by rw [List.length_map]; omega, ?_⟩
      rw [List.length_map, Int.toNat_natCast]
      refine ⟨fun _ => ⟨fun k G => ∃ z, G = [.ok Fd.d, .ok (.lst (ns.map D.str)), .un, z] ∧ NamesOk (ns.take k), ⟨_, rfl, List.nodup_nil, fun _ m => (nomatch m)⟩, fun k d G hd hT => ⟨[3], gv_name (i := 3) (by decide) rfl ?_ (.inl rfl) c.nd ?_⟩, fun G hT => ?_⟩⟩
      · obtain ⟨_, rfl, _⟩ := hT
        exact ltb rfl
      · obtain ⟨z, rfl, hk⟩ := hT
        obtain ⟨hkl, rfl⟩ := range_get hd
        obtain ⟨x, hx⟩ : ∃ x, ns[k]? = some x := ⟨_, List.getElem?_eq_getElem hkl⟩
        refine sv_cons <| s_if <| et_not <| et_val <| ev_c C_law_is_name (hr.mono (by decide)) rfl c.takes <| ea_cons <| ev_ix <| ev_name (i := 1) rfl rfl (.inl rfl) <| ev_name (i := 3) rfl rfl (.inl rfl) <| ix_l (gets hx) <| ea_nil <| use_is_name (group_words hW ns hnm x (List.mem_of_getElem? hx)) fun b hb => xo rfl <| ⟨fun hT => ?_, fun hF => ?_⟩
        · have hno : ¬ IsName x := fun n => by rw [hb.mpr n] at hT; cases hT
          exact sv_cons <| s_ret <| ev_tup <| ea_cons <| ev_str <| ea_cons <| ev_ix <| ev_name (i := 1) rfl rfl (.inl rfl) <| ev_name (i := 3) rfl rfl (.inl rfl) <| ix_l (gets hx) <| ea_nil <| xa (leb rfl) <| h (some (false, x)) ⟨i, ns, hns, hpre, k, hx, hk, .inl ⟨rfl, hno⟩⟩
        · have hyes : IsName x := hb.mp (by cases b with
            | true => rfl
            | false => cases hF)
          refine sv_nil <| sv_cons <| s_if <| et_mem <| ev_ix <| ev_name (i := 1) rfl rfl (.inl rfl) <| ev_name (i := 3) rfl rfl (.inl rfl) <| ix_l (gets hx) <| er_ev <| ev_sl <| ev_name (i := 1) rfl rfl (.inl rfl) <| eo_none <| eo_some <| ev_name (i := 3) rfl rfl (.inl rfl) <| xo rfl <| sl_l ?_
          rw [enc_cut, cut_take (by omega), show ((0 : Int) + (k : Int)).toNat = k by omega]
          refine m_in_l <| xo rfl <| ⟨fun hT => ?_, fun hF => ?_⟩
          · replace hT := of_decide_eq_true hT
            exact sv_cons <| s_ret <| ev_tup <| ea_cons <| ev_str <| ea_cons <| ev_ix <| ev_name (i := 1) rfl rfl (.inl rfl) <| ev_name (i := 3) rfl rfl (.inl rfl) <| ix_l (gets hx) <| ea_nil <| xa (leb rfl) <| h (some (true, x)) ⟨i, ns, hns, hpre, k, hx, hk, .inr ⟨rfl, hyes, hT⟩⟩
          · replace hF := of_decide_eq_false hF
            refine sv_nil <| sv_nil ⟨_, rfl, ?_⟩
            rw [List.take_add_one, hx]
            exact names_snoc hk hF hyes
      · obtain ⟨z, rfl, hk⟩ := hT
        rw [range_len, List.take_of_length_le (Nat.le_refl _)] at hk
        refine sv_nil ⟨_, _, rfl, fun m hm => ?_⟩
        rw [List.take_add_one, hns] at hm
        rcases List.mem_append.mp hm with q | q
        · exact hpre m q
        · rw [List.mem_singleton.mp q]; exact hk
    · obtain ⟨y, z, rfl, hpre⟩ := hT
      rw [List.length_map, List.take_of_length_le (Nat.le_refl _)] at hpre
      exact sv_cons <| s_ret <| ev_non <| h none hpre
end
end K00
end

section
set_option maxRecDepth 100000
set_option maxHeartbeats 1000000
namespace K00
open PySem PySem.Spec L2 DL
open PyProof.Rows (boot_int boot_abs boot_list boot_max boot_min boot_range boot_all boot_tuple boot_sorted boot_isinstance boot_enumerate)
/-! ### the program: names and checks -/
structure TxtP (mg : Str → Option Value) : Prop where
  g_LETTERS : ∃ t, mg "LETTERS" = some (.str LET t)
  g_DIGITS : ∃ t, mg "DIGITS" = some (.str FIG t)
  g_MOST_DIGITS : ∃ t, mg "MOST_DIGITS" = some (.int 3 t)
  n_str : mg "str" = none
/-- the errors' classes -/
structure Errs (P : Program) (w : World) (K : PySem.W.Frag) (mg : Str → Option Value) (base : Heap) where
  cBadName : Addr
  cUnknown : Addr
  cTwice : Addr
  cBadPath : Addr
  cBadNumber : Addr
  cTooMany : Addr
  tBadName : ExT P w K mg base "BadName" "name" cBadName
  tUnknown : ExT P w K mg base "Unknown" "name" cUnknown
  tTwice : ExT P w K mg base "Twice" "name" cTwice
  tBadPath : ExT P w K mg base "BadPath" "name" cBadPath
  tBadNumber : ExT P w K mg base "BadNumber" "number" cBadNumber
  tTooMany : ExT P w K mg base "TooMany" "most" cTooMany
theorem kit_str : kitB "str" "str" = some true := by decide +kernel
theorem boot_str' : bootBuiltins "str" = some (.type "str") := by decide +kernel
section
variable {P : Program} {w : World} {K : PySem.W.Frag} {mg : Str → Option Value} {base : Heap} {f : Addr} {fd : FuncData}
def SDigits : Sv := fun ds Φ _ => ∃ s, ds = [.str s] ∧ s.length ≤ 6000 ∧ Φ (.bl (s.cps.toList.all fun c => decide (c ∈ FIG.cps.toList)))
theorem scDigits : FnScope ["word", "sign"] ["word"] (defScope S_only_digits) := ⟨rfl, rfl, rfl, by decide +kernel, rfl, by decide +kernel, by decide +kernel⟩
theorem ok_digits (F : FunT K "only_digits" S_only_digits f fd) (T : Txt mg) (TP : TxtP mg) : FnD P w K mg base 1 f fd ["word"] (spV K SDigits) := by
  refine fn_V F scDigits 1 rfl (by decide) (fun ds Φ Ψ h => ?_) (fun f cdv A outer s H E hr c ds Φ Ψ h => ?_)
  · obtain ⟨_, rfl, _⟩ := h
    rfl
  · obtain ⟨z, rfl, hl, h⟩ := h
    obtain ⟨t, hD⟩ := TP.g_DIGITS
    refine sv_cons <| s_ret <| ev_b1 rfl T.n_all boot_all <| er_ev <| EF.ev <| ef_lc c [("sign", 1)] [] (lcOk1 (blkOk_by (N := ["word", "sign"]) (sc := defScope S_only_digits) (by decide +kernel)) (fun _ => rfl) (fun _ _ _ _ _ _ => rfl)) <| ei_str <| ev_name (i := 0) rfl rfl (.inl rfl) <| xo rfl ?_
    refine clp_map (fun c : Nat => D.str ⟨#[c]⟩) (fun c : Nat => D.bl (decide (c ∈ FIG.cps.toList))) z.cps.toList (fun a => [.ok (.str z), .ok (.str ⟨#[a]⟩)]) (by rw [← str_length]; omega) (fun Y hY a Φ h => ?_) (fun a => rfl) (fun Y hY a ha Φ h => ?_) ?_
    · obtain ⟨_, _, _, _, _, rfl⟩ := hY
      exact gv_name (i := 1) (by decide) rfl (ltb rfl) (.inl rfl) c.nd h
    · obtain ⟨_, _, _, _, _, rfl⟩ := hY
      exact ev_mem <| ev_name (i := 1) rfl rfl (.inl rfl) <| er_ev <| ev_glob (v := .str FIG) (d := .str FIG) rfl hD ⟨_, rfl⟩ (fun _ _ => rfl) <| m_in_s h
    rw [show (z.cps.toList.map fun c : Nat => D.bl (decide (c ∈ FIG.cps.toList))) = (z.cps.toList.map fun c => decide (c ∈ FIG.cps.toList)).map D.bl by rw [List.map_map]; rfl]
    refine c_all c.calm ?_
    rw [List.all_map]
    exact h
theorem scIsNameP : FnScope ["word"] ["word"] (defScope S_is_name) := ⟨rfl, rfl, rfl, by decide +kernel, rfl, by decide +kernel, by decide +kernel⟩
theorem ok_isNameP (F : FunT K "is_name" S_is_name f fd) (T : Txt mg) (TP : TxtP mg) (C_only_digits : Fd P w K mg base 1 "only_digits" ["word"] (spV K SDigits)) : FnD P w K mg base 2 f fd ["word"] (spV K SIsName) := by
  refine fn_V F scIsNameP 1 rfl (by decide) (fun ds Φ Ψ h => ?_) (fun f cdv A outer s H E hr c ds Φ Ψ h => ?_)
  · obtain ⟨_, rfl, _⟩ := h
    rfl
  · obtain ⟨z, rfl, hw, h⟩ := h
    have hz := hw.2
    obtain ⟨t, hL⟩ := TP.g_LETTERS
    obtain ⟨t3, hM⟩ := TP.g_MOST_DIGITS
    refine sv_cons <| s_if <| et_w <| ew_or <| et_not <| et_val <| ev_bn rfl T.n_isinstance boot_isinstance <| ea_cons <| ev_name (i := 0) rfl rfl (.inl rfl) <| ea_cons <| ev_tyN rfl TP.n_str boot_str' <| ea_nil <| c_isi (b := true) rfl kit_str <| xo rfl <| ⟨fun hT => (nomatch hT), fun _ => ?_⟩
    refine ew_or1 <| et_not <| et_chain <| ev_int <| ev_b1 rfl T.n_len boot_len <| er_ev <| ev_name (i := 0) rfl rfl (.inl rfl) <| c_len_s (line _ (by omega)) <| d_le <| ⟨_, rfl, fun hF => ?_, fun hT => ?_⟩
    · replace hF := of_decide_eq_false hF
      exact ⟨fun _ => sv_cons <| s_ret <| ev_bl <| h false ⟨fun z => (nomatch z), fun n => absurd n (not_empty (by omega))⟩, fun z => (nomatch z)⟩
    · replace hT := of_decide_eq_true hT
      refine ev_op <| ev_int <| ev_glob (v := .int 3) (d := .int 3) rfl hM ⟨_, rfl⟩ (fun _ _ => rfl) <| d_add <| d_le <| xo rfl <| ⟨fun hG => ?_, fun hG => ?_⟩
      · have hG : ¬ ((z.length : Int) ≤ 1 + 3) := by simpa using hG
        exact sv_cons <| s_ret <| ev_bl <| h false ⟨fun z => (nomatch z), fun n => absurd n (not_long (by omega))⟩
      · have hG : (z.length : Int) ≤ 1 + 3 := by simpa using hG
        obtain ⟨c0, r, e⟩ : ∃ c r, z.cps.toList = c :: r := by
          cases q : z.cps.toList with
          | nil => rw [str_length, q] at hT; exact absurd hT (by decide)
          | cons a b => exact ⟨a, b, rfl⟩
        have iff := isName_iff e (by omega)
        refine sv_nil <| sv_cons <| s_ret <| ev_and <| ev_mem <| ev_ix <| ev_name (i := 0) rfl rfl (.inl rfl) <| ev_int <| ix_s (line _ (by omega)) (by rw [e]; exact L2.atI_nat (j := 0) rfl) <| er_ev <| ev_glob (v := .str LET) (d := .str LET) rfl hL ⟨_, rfl⟩ (fun _ _ => rfl) <| m_in_s <| ⟨_, rfl, fun hA => ?_, fun hA => ?_⟩
        · replace hA := of_decide_eq_true hA
          have hcl := cutS_length z (some 1) none
          refine ev_one <| ev_c C_only_digits (hr.mono (by decide)) rfl c.takes <| ea_cons <| ev_sl <| ev_name (i := 0) rfl rfl (.inl rfl) <| eo_some <| ev_int <| xo rfl <| eo_none <| sl_s (line _ (by omega)) <| ea_nil <| ⟨_, rfl, by omega, h _ ?_⟩
          rw [iff, cutS_from (by decide), e, List.all_eq_true]
          constructor
          · intro q
            refine ⟨(low_mem c0).mpr hA, fun d hd => (dig_mem d).mpr ?_⟩
            rw [Array.contains_iff_mem, ← Array.mem_toList_iff]
            exact of_decide_eq_true (q d hd)
          · intro q d hd
            have := (dig_mem d).mp (q.2 d hd)
            rw [Array.contains_iff_mem, ← Array.mem_toList_iff] at this
            exact decide_eq_true this
        · replace hA := of_decide_eq_false hA
          exact h false ⟨fun z => (nomatch z), fun n => absurd ((low_mem c0).mp (iff.mp n).1) hA⟩
/-! ### the checks -/
variable (Er : Errs P w K mg base)
def SNumber : Sv := fun ds Φ Ψ => ∃ n a b : Int, ds = [.int n, .int a, .int b] ∧ ((a ≤ n ∧ n ≤ b) → Φ .non) ∧ (¬ (a ≤ n ∧ n ≤ b) → Ψ Er.cBadNumber [("number", .int n)])
theorem scNumber : FnScope ["number", "least", "most"] ["number", "least", "most"] (defScope S_check_number) := ⟨rfl, rfl, rfl, by decide +kernel, rfl, by decide +kernel, by decide +kernel⟩
theorem ok_number (F : FunT K "check_number" S_check_number f fd) (T : Txt mg) : FnD P w K mg base 3 f fd ["number", "least", "most"] (spV K (SNumber Er)) := by
  refine fn_V F scNumber 3 rfl (by decide) (fun ds Φ Ψ h => ?_) (fun f cdv A outer s H E hr c ds Φ Ψ h => ?_)
  · obtain ⟨_, _, _, rfl, _⟩ := h
    rfl
  · obtain ⟨n, a, b, rfl, h1, h2⟩ := h
    refine sv_cons <| s_if <| et_ninrng rfl T.n_range <| ev_name (i := 0) rfl rfl (.inl rfl) <| ea_cons <| ev_name (i := 1) rfl rfl (.inl rfl) <| ea_cons <| ev_op <| ev_name (i := 2) rfl rfl (.inl rfl) <| ev_int <| d_add <| ea_nil <| ⟨n, a, b + 1, rfl, rfl, fun hT => ?_, fun hF => ?_⟩
    · have hT : ¬ (a ≤ n ∧ n < b + 1) := fun q => by rw [decide_eq_true q] at hT; cases hT
      exact sv_cons <| s_raise c Er.tBadNumber hr rfl <| ev_name (i := 0) rfl rfl (.inl rfl) <| h2 (by omega)
    · have hF : a ≤ n ∧ n < b + 1 := by simpa using hF
      exact sv_nil <| sv_nil <| h1 (by omega)
def SCount : Sv := fun ds Φ Ψ => ∃ n m : Int, ds = [.int n, .int m] ∧ (n ≤ m → Φ .non) ∧ (m < n → Ψ Er.cTooMany [("most", .int m)])
theorem scCount : FnScope ["count", "most"] ["count", "most"] (defScope S_check_count) := ⟨rfl, rfl, rfl, by decide +kernel, rfl, by decide +kernel, by decide +kernel⟩
theorem ok_count (F : FunT K "check_count" S_check_count f fd) : FnD P w K mg base 3 f fd ["count", "most"] (spV K (SCount Er)) := by
  refine fn_V F scCount 2 rfl (by decide) (fun ds Φ Ψ h => ?_) (fun f cdv A outer s H E hr c ds Φ Ψ h => ?_)
  · obtain ⟨_, _, rfl, _⟩ := h
    rfl
  · obtain ⟨n, m, rfl, h1, h2⟩ := h
    refine sv_cons <| s_if <| et_cmp <| ev_name (i := 0) rfl rfl (.inl rfl) <| ev_name (i := 1) rfl rfl (.inl rfl) <| d_gt <| xo rfl <| ⟨fun hT => ?_, fun hF => ?_⟩
    · exact sv_cons <| s_raise c Er.tTooMany hr rfl <| ev_name (i := 1) rfl rfl (.inl rfl) <| h2 (of_decide_eq_true hT)
    · have hF := of_decide_eq_false hF
      exact sv_nil <| sv_nil <| h1 (by omega)
def SKnown : Sv := fun ds Φ Ψ => ∃ (x : Str) (kd : D) (ss : List Str), ds = [.str x, kd] ∧ (kd = .tup (ss.map .str) ∨ ∃ l : List (Key × D), kd = .dk l ∧ l.map (·.1) = ss.map Sum.inr) ∧ (x ∈ ss → Φ .non) ∧ (x ∉ ss → Ψ Er.cUnknown [("name", .str x)])
theorem scKnown : FnScope ["name", "known"] ["name", "known"] (defScope S_check_known) := ⟨rfl, rfl, rfl, by decide +kernel, rfl, by decide +kernel, by decide +kernel⟩
theorem ok_known (F : FunT K "check_known" S_check_known f fd) : FnD P w K mg base 3 f fd ["name", "known"] (spV K (SKnown Er)) := by
  refine fn_V F scKnown 2 rfl (by decide) (fun ds Φ Ψ h => ?_) (fun f cdv A outer s H E hr c ds Φ Ψ h => ?_)
  · obtain ⟨_, _, _, rfl, _⟩ := h
    rfl
  · obtain ⟨x, kd, ss, rfl, hk, h1, h2⟩ := h
    have hu : (cxOf (CX P w) P w K mg base ["name", "known"] "check_known" (defScope S_check_known) f cdv A outer s H E).A.units + 64 < cLine := hr.units
    rcases hk with rfl | ⟨l, rfl, hl⟩
    · refine sv_cons <| s_if <| et_mem <| ev_name (i := 0) rfl rfl (.inl rfl) <| er_ev <| ev_name (i := 1) rfl rfl (.inl rfl) <| m_nin_t <| xo rfl <| ⟨fun hT => ?_, fun hF => ?_⟩
      · have hT : x ∉ ss := by simpa using hT
        exact sv_cons <| s_raise c Er.tUnknown hr rfl <| ev_name (i := 0) rfl rfl (.inl rfl) <| h2 hT
      · have hF : x ∈ ss := by simpa using hF
        exact sv_nil <| sv_nil <| h1 hF
    · have iff : (getD' l (.inr x)).isSome = true ↔ x ∈ ss := by
        rw [getD'_mem, hl]
        constructor
        · intro h
          obtain ⟨y, hy, e⟩ := List.mem_map.mp h
          exact Sum.inr.inj e ▸ hy
        · exact fun h => List.mem_map.mpr ⟨x, h, rfl⟩
      refine sv_cons <| s_if <| et_dnin hu <| ev_name (i := 0) rfl rfl (.inl rfl) <| ev_name (i := 1) rfl rfl (.inl rfl) <| ⟨l, .inr x, rfl, rfl, fun hT => ?_, fun hF => ?_⟩
      · have hT : x ∉ ss := fun m => by rw [iff.mpr m] at hT; cases hT
        exact sv_cons <| s_raise c Er.tUnknown hr rfl <| ev_name (i := 0) rfl rfl (.inl rfl) <| h2 hT
      · have hF : x ∈ ss := iff.mp (by simpa using hF)
        exact sv_nil <| sv_nil <| h1 hF
def SNew : Sv := fun ds Φ Ψ => ∃ (x : Str) (ss : List Str), ds = [.str x, .lst (ss.map .str)] ∧ WordOk x ∧ (IsName x → x ∉ ss → Φ .non) ∧ (¬ IsName x → Ψ Er.cBadName [("name", .str x)]) ∧ (IsName x → x ∈ ss → Ψ Er.cTwice [("name", .str x)])
theorem scNew : FnScope ["name", "earlier"] ["name", "earlier"] (defScope S_check_new) := ⟨rfl, rfl, rfl, by decide +kernel, rfl, by decide +kernel, by decide +kernel⟩
theorem ok_new (F : FunT K "check_new" S_check_new f fd) (C_is_name : Fd P w K mg base 2 "is_name" ["word"] (spV K SIsName)) : FnD P w K mg base 3 f fd ["name", "earlier"] (spV K (SNew Er)) := by
  refine fn_V F scNew 2 rfl (by decide) (fun ds Φ Ψ h => ?_) (fun f cdv A outer s H E hr c ds Φ Ψ h => ?_)
  · obtain ⟨_, _, rfl, _⟩ := h
    rfl
  · obtain ⟨x, ss, rfl, hw, h1, h2, h3⟩ := h
    refine sv_cons <| s_if <| et_not <| et_val <| ev_c C_is_name hr rfl c.takes <| ea_cons <| ev_name (i := 0) rfl rfl (.inl rfl) <| ea_nil <| use_is_name hw fun b hb => xo rfl <| ⟨fun hT => ?_, fun hF => ?_⟩
    · exact sv_cons <| s_raise c Er.tBadName hr rfl <| ev_name (i := 0) rfl rfl (.inl rfl) <| h2 fun n => by rw [hb.mpr n] at hT; cases hT
    · have hyes : IsName x := hb.mp (by cases b with
        | true => rfl
        | false => cases hF)
      refine sv_nil <| sv_cons <| s_if <| et_mem <| ev_name (i := 0) rfl rfl (.inl rfl) <| er_ev <| ev_name (i := 1) rfl rfl (.inl rfl) <| m_in_l <| xo rfl <| ⟨fun hT => ?_, fun hF => ?_⟩
      · exact sv_cons <| s_raise c Er.tTwice hr rfl <| ev_name (i := 0) rfl rfl (.inl rfl) <| h3 hyes (of_decide_eq_true hT)
      · exact sv_nil <| sv_nil <| h1 hyes (of_decide_eq_false hF)
end
end K00
end

section
set_option maxRecDepth 100000
set_option maxHeartbeats 1000000
namespace K00
open PySem PySem.Spec L2 DL
open PyProof.Rows (boot_int boot_abs boot_list boot_max boot_min boot_range boot_all boot_tuple boot_sorted boot_isinstance boot_enumerate)
section
variable {P : Program} {w : World} {K : PySem.W.Frag} {mg : Str → Option Value} {base : Heap} {f : Addr} {fd : FuncData} (Er : Errs P w K mg base)
/-- the error of a fault -/
def cls (tw : Bool) : Addr := if tw then Er.cTwice else Er.cBadName
def SNamesC : Sv := fun ds Φ Ψ => ∃ (ss : List Str) (m : Int), ds = [.lst (ss.map .str), .int m] ∧ ss.length < 64 ∧ (∀ s ∈ ss, WordOk s) ∧ (m < (ss.length : Int) → Ψ Er.cTooMany [("most", .int m)]) ∧ ((ss.length : Int) ≤ m → ss = [] → Ψ Er.cBadNumber [("number", .int 0)]) ∧
  ((ss.length : Int) ≤ m → ss ≠ [] → (∀ tw s, Fault ss tw s → Ψ (cls Er tw) [("name", .str s)]) ∧ (NamesOk ss → ∀ ys : List Str, ys.Perm ss → PyProof.Rows.sortedS ys = true → Φ (.tup (ys.map .str))))
abbrev nNamesC : List Str := ["names", "most", "at", "name"]
theorem scNamesC : FnScope nNamesC ["names", "most"] (defScope S_checked_names) := ⟨rfl, rfl, rfl, by decide +kernel, rfl, by decide +kernel, by decide +kernel⟩
theorem enum_get {α : Type} {enc : α → D} {as : List α} {i : Nat} {d : D} (h : (enumD (as.map enc))[i]? = some d) : ∃ x, as[i]? = some x ∧ d = .tup [.int (i : Nat), enc x] := by
  obtain ⟨y, hy, rfl⟩ := enumD_get h
  obtain ⟨x, hx, rfl⟩ := enc_get hy
  exact ⟨x, hx, rfl⟩
theorem ok_namesC (F : FunT K "checked_names" S_checked_names f fd) (T : Txt mg) (C_check_count : Fd P w K mg base 3 "check_count" ["count", "most"] (spV K (SCount Er))) (C_check_new : Fd P w K mg base 3 "check_new" ["name", "earlier"] (spV K (SNew Er))) : FnD P w K mg base 4 f fd ["names", "most"] (spV K (SNamesC Er)) := by
  refine fn_V F scNamesC 2 rfl (by decide) (fun ds Φ Ψ h => ?_) (fun f cdv A outer s H E hr c ds Φ Ψ h => ?_)
  · obtain ⟨_, _, rfl, _⟩ := h
    rfl
  · obtain ⟨ss, m, rfl, hl, hw, h1, h2, h3⟩ := h
    refine sv_cons <| s_expr <| ev_c C_check_count hr rfl c.takes <| ea_cons <| ev_b1 rfl T.n_len boot_len <| er_ev <| ev_name (i := 0) rfl rfl (.inl rfl) <| c_len_l <| ea_cons <| ev_name (i := 1) rfl rfl (.inl rfl) <| ea_nil <| ⟨_, _, rfl, fun hm => ?_, fun hm => ?_⟩
    · rw [List.length_map] at hm
      refine sv_cons <| s_if <| et_cmp <| ev_b1 rfl T.n_len boot_len <| er_ev <| ev_name (i := 0) rfl rfl (.inl rfl) <| c_len_l <| ev_int <| d_eqi <| xo rfl <| ⟨fun hT => ?_, fun hF => ?_⟩
      · replace hT := of_decide_eq_true hT
        rw [List.length_map] at hT
        exact sv_cons <| s_raise c Er.tBadNumber (hr.mono (by decide)) rfl <| ev_int <| h2 hm (List.length_eq_zero_iff.mp (by omega))
      · replace hF := of_decide_eq_false hF
        rw [List.length_map] at hF
        obtain ⟨h4, h5⟩ := h3 hm fun e => hF (by rw [e]; rfl)
        refine sv_nil <| sv_cons <| s_for c <| ei_enum rfl T.n_enumerate <| ev_name (i := 0) rfl rfl (.inl rfl) <| xo rfl ?_
        refine ⟨fun _ => ⟨fun k G => ∃ y z, G = [.ok (.lst (ss.map .str)), .ok (.int m), y, z] ∧ NamesOk (ss.take k), ⟨_, _, rfl, List.nodup_nil, fun _ m => (nomatch m)⟩, fun k d G hd hT => ⟨[2, 3], ?_⟩, fun G hT => ?_⟩⟩
        · obtain ⟨y, z, rfl, hk⟩ := hT
          obtain ⟨x, hx, rfl⟩ := enum_get hd
          refine gv_tup c.calm rfl 0 0 rfl rfl <| gv_name (i := 2) (by decide) rfl (ltb rfl) (.inl rfl) c.nd <| gv_name (i := 3) (by decide) rfl (ltb rfl) (.inl rfl) c.nd ?_
          refine sv_cons <| s_expr <| ev_c C_check_new hr rfl c.takes <| ea_cons <| ev_name (i := 3) rfl rfl (.inl rfl) <| ea_cons <| ev_sl <| ev_name (i := 0) rfl rfl (.inl rfl) <| eo_none <| eo_some <| ev_name (i := 2) rfl rfl (.inl rfl) <| xo rfl <| sl_l <| ea_nil ?_
          rw [enc_cut, cut_take (by omega), Int.toNat_natCast]
          refine ⟨x, ss.take k, rfl, hw x (List.mem_of_getElem? hx), fun hn hni => ?_, fun hn => ?_, fun hn hi => ?_⟩
          · refine sv_nil ⟨_, _, rfl, ?_⟩
            rw [List.take_add_one, hx]
            exact names_snoc hk hni hn
          · exact h4 false x ⟨k, hx, hk, .inl ⟨rfl, hn⟩⟩
          · exact h4 true x ⟨k, hx, hk, .inr ⟨rfl, hn, hi⟩⟩
        · obtain ⟨y, z, rfl, hk⟩ := hT
          rw [enumD_length, List.length_map, List.take_of_length_le (Nat.le_refl _)] at hk
          exact sv_cons <| s_ret <| ev_t1 rfl T.n_tuple boot_tuple <| er_ev <| ev_b1 rfl T.n_sorted boot_sorted <| er_ev <| ev_name (i := 0) rfl rfl (.inl rfl) <| c_sortedS hl fun ys hp so => c_tuple_l (h5 hk ys hp so)
    · rw [List.length_map] at hm
      exact h1 hm
/-! ### rows -/
/-- a row's name, checked against the rows ahead of it -/
def SPathRow : Sv := fun ds Φ Ψ => ∃ (x : Str) (a b : Str) (ws : List Way) (places : List Str), ds = [wayD (x, a, b), .lst (ws.map wayD), .tup (places.map .str)] ∧ WordOk x ∧ ws.length ≤ 1000 ∧ (a ∈ places ∧ b ∈ places ∧ a ≠ b) ∧
  (IsName x → x ∉ ws.map (·.1) → Φ .non) ∧ (¬ IsName x → Ψ Er.cBadName [("name", .str x)]) ∧ (IsName x → x ∈ ws.map (·.1) → Ψ Er.cTwice [("name", .str x)])
abbrev nPathRow : List Str := ["row", "earlier", "places", "name", "first", "second", "other"]
theorem scPathRow : FnScope nPathRow ["row", "earlier", "places"] (defScope S_check_path_row) := ⟨rfl, rfl, rfl, by decide +kernel, rfl, by decide +kernel, by decide +kernel⟩
theorem ok_pathRow (F : FunT K "check_path_row" S_check_path_row f fd) (T : Txt mg) (C_check_known : Fd P w K mg base 3 "check_known" ["name", "known"] (spV K (SKnown Er))) (C_check_new : Fd P w K mg base 3 "check_new" ["name", "earlier"] (spV K (SNew Er))) : FnD P w K mg base 4 f fd ["row", "earlier", "places"] (spV K (SPathRow Er)) := by
  refine fn_V F scPathRow 3 rfl (by decide) (fun ds Φ Ψ h => ?_) (fun f cdv A outer s H E hr c ds Φ Ψ h => ?_)
  · obtain ⟨_, _, _, _, _, rfl, _⟩ := h
    rfl
  · obtain ⟨x, a, b, ws, places, rfl, hw, hl, ⟨ha, hb, hab⟩, h1, h2, h3⟩ := h
    refine sv_cons <| s_tgt (V := [3, 4, 5]) <| ev_name (i := 0) (d := wayD (x, a, b)) rfl rfl (.inl rfl) <| gv_tup3 c.calm <| gv_name (i := 3) (by decide) rfl (ltb rfl) (.inl rfl) c.nd <| gv_name (i := 4) (by decide) rfl (ltb rfl) (.inl rfl) c.nd <| gv_name (i := 5) (by decide) rfl (ltb rfl) (.inl rfl) c.nd ?_
    refine sv_cons <| s_expr <| ev_c C_check_new hr rfl c.takes <| ea_cons <| ev_name (i := 3) (d := .str x) rfl rfl (.inl rfl) <| ea_cons <| EF.ev <| ef_lc c [("other", 6)] [] (lcOk1 (blkOk_by (N := nPathRow) (sc := defScope S_check_path_row) (by decide +kernel)) (fun _ => rfl) (fun _ _ _ _ _ _ => rfl)) <| ei_lst <| ev_name (i := 1) (d := .lst (ws.map wayD)) rfl rfl (.inl rfl) <| xo rfl ?_
    refine clp_map wayD (fun v : Way => D.str v.1) ws (fun v => [.ok (wayD (x, a, b)), .ok (.lst (ws.map wayD)), .ok (.tup (places.map .str)), .ok (.str x), .ok (.str a), .ok (.str b), .ok (wayD v)]) (by omega) (fun Y hY v Φ h => ?_) (fun a => rfl) (fun Y hY v ha Φ h => ?_) ?_
    · obtain ⟨_, _, _, _, _, rfl⟩ := hY
      exact gv_name (i := 6) (by decide) rfl (ltb rfl) (.inl rfl) c.nd h
    · obtain ⟨_, _, _, _, _, rfl⟩ := hY
      exact ev_ix <| ev_name (i := 6) rfl rfl (.inl rfl) <| ev_int <| ix_t rfl h
    rw [show (ws.map fun v : Way => D.str v.1) = (ws.map (·.1)).map D.str by rw [List.map_map]; rfl]
    refine ea_nil ⟨x, ws.map (·.1), rfl, hw, fun hn hni => ?_, fun hn => h2 hn, fun hn hi => h3 hn hi⟩
    refine sv_cons <| s_expr <| ev_c C_check_known hr rfl c.takes <| ea_cons <| ev_name (i := 4) (d := .str a) rfl rfl (.inl rfl) <| ea_cons <| ev_name (i := 2) (d := .tup (places.map .str)) rfl rfl (.inl rfl) <| ea_nil <| ⟨a, _, places, rfl, .inl rfl, fun _ => ?_, fun z => absurd ha z⟩
    refine sv_cons <| s_expr <| ev_c C_check_known hr rfl c.takes <| ea_cons <| ev_name (i := 5) (d := .str b) rfl rfl (.inl rfl) <| ea_cons <| ev_name (i := 2) (d := .tup (places.map .str)) rfl rfl (.inl rfl) <| ea_nil <| ⟨b, _, places, rfl, .inl rfl, fun _ => ?_, fun z => absurd hb z⟩
    refine sv_cons <| s_if <| et_cmp <| ev_name (i := 4) (d := .str a) rfl rfl (.inl rfl) <| ev_name (i := 5) (d := .str b) rfl rfl (.inl rfl) <| d_eqs <| xo rfl <| ⟨fun hT => absurd (of_decide_eq_true hT) hab, fun _ => sv_nil <| sv_nil <| h1 hn hni⟩
end
end K00
end

section
set_option maxRecDepth 100000
set_option maxHeartbeats 1000000
namespace K00
open PySem PySem.Spec L2 DL
open PyProof.Rows (boot_int boot_abs boot_list boot_max boot_min boot_range boot_all boot_tuple boot_sorted boot_isinstance boot_enumerate)
section
variable {P : Program} {w : World} {K : PySem.W.Frag} {mg : Str → Option Value} {base : Heap} {f : Addr} {fd : FuncData} (Er : Errs P w K mg base)
/-- the names that stand in a tuple, or as the keys of a dict -/
def Known (kd : D) (ss : List Str) : Prop := kd = .tup (ss.map .str) ∨ ∃ l : List (Key × D), kd = .dk l ∧ l.map (·.1) = ss.map Sum.inr
theorem use_known {x : Str} {kd : D} {ss : List Str} {Φ : D → Prop} {Ψ : Ex0} (hk : Known kd ss) (hx : x ∈ ss) (h : Φ .non) : SKnown Er [.str x, kd] Φ Ψ := ⟨x, kd, ss, rfl, hk, fun _ => h, fun z => absurd hx z⟩
/-! ### what a sign watches: right ones -/
def SWatched : Sv := fun ds Φ Ψ => ∃ (ms ss : List Str) (kd : D), ds = [.lst (ms.map .str), kd] ∧ Known kd ss ∧ (ms ≠ [] ∧ ms.Nodup ∧ ms.length ≤ 1000 ∧ ∀ x ∈ ms, x ∈ ss) ∧ Φ .non
abbrev nEach : List Str := ["names", "known", "at", "name"]
theorem scEach : FnScope nEach ["names", "known"] (defScope S_check_each) := ⟨rfl, rfl, rfl, by decide +kernel, rfl, by decide +kernel, by decide +kernel⟩
theorem ok_each (F : FunT K "check_each" S_check_each f fd) (T : Txt mg) (C_check_known : Fd P w K mg base 3 "check_known" ["name", "known"] (spV K (SKnown Er))) : FnD P w K mg base 4 f fd ["names", "known"] (spV K SWatched) := by
  refine fn_V F scEach 2 rfl (by decide) (fun ds Φ Ψ h => ?_) (fun f cdv A outer s H E hr c ds Φ Ψ h => ?_)
  · obtain ⟨_, _, _, rfl, _⟩ := h
    rfl
  · obtain ⟨ms, ss, kd, rfl, hk, ⟨hne, hnd, hl, hin⟩, h⟩ := h
    refine sv_cons <| s_for c <| ei_enum rfl T.n_enumerate <| ev_name (i := 0) rfl rfl (.inl rfl) <| xo rfl ?_
    refine ⟨fun _ => ⟨fun k G => ∃ y z, G = [.ok (.lst (ms.map .str)), .ok kd, y, z], ⟨_, _, rfl⟩, fun k d G hd hT => ⟨[2, 3], ?_⟩, fun G hT => ?_⟩⟩
    · obtain ⟨y, z, rfl⟩ := hT
      obtain ⟨x, hx, rfl⟩ := enum_get hd
      refine gv_tup c.calm rfl 0 0 rfl rfl <| gv_name (i := 2) (by decide) rfl (ltb rfl) (.inl rfl) c.nd <| gv_name (i := 3) (by decide) rfl (ltb rfl) (.inl rfl) c.nd ?_
      refine sv_cons <| s_expr <| ev_c C_check_known hr rfl c.takes <| ea_cons <| ev_name (i := 3) rfl rfl (.inl rfl) <| ea_cons <| ev_name (i := 1) rfl rfl (.inl rfl) <| ea_nil <| use_known Er hk (hin x (List.mem_of_getElem? hx)) ?_
      refine sv_cons <| s_if <| et_mem <| ev_name (i := 3) rfl rfl (.inl rfl) <| er_ev <| ev_sl <| ev_name (i := 0) rfl rfl (.inl rfl) <| eo_none <| eo_some <| ev_name (i := 2) rfl rfl (.inl rfl) <| xo rfl <| sl_l ?_
      rw [enc_cut, cut_take (by omega), Int.toNat_natCast]
      refine m_in_l <| xo rfl <| ⟨fun hT => ?_, fun _ => sv_nil <| sv_nil ⟨_, _, rfl⟩⟩
      obtain ⟨j, hj, e⟩ := List.getElem_of_mem (of_decide_eq_true hT)
      rw [List.length_take] at hj
      rw [List.getElem_take] at e
      have e2 : ms[j]? = ms[k]? := by rw [hx, ← e]; exact List.getElem?_eq_getElem _
      have := (List.getElem?_inj (i := j) (j := k) (by omega) hnd).mp e2
      omega
    · obtain ⟨y, z, rfl⟩ := hT
      exact sv_nil h
theorem use_watched {ms ss : List Str} {kd : D} {Φ : D → Prop} {Ψ : Ex0} (hk : Known kd ss) (h1 : ms ≠ [] ∧ ms.Nodup ∧ ms.length ≤ 1000 ∧ ∀ x ∈ ms, x ∈ ss) (h : Φ .non) : SWatched [.lst (ms.map .str), kd] Φ Ψ := ⟨ms, ss, kd, rfl, hk, h1, h⟩
theorem scSomeC : FnScope ["names", "known"] ["names", "known"] (defScope S_check_some) := ⟨rfl, rfl, rfl, by decide +kernel, rfl, by decide +kernel, by decide +kernel⟩
theorem ok_someC (F : FunT K "check_some" S_check_some f fd) (T : Txt mg) (C_check_each : Fd P w K mg base 4 "check_each" ["names", "known"] (spV K SWatched)) : FnD P w K mg base 5 f fd ["names", "known"] (spV K SWatched) := by
  refine fn_V F scSomeC 2 rfl (by decide) (fun ds Φ Ψ h => ?_) (fun f cdv A outer s H E hr c ds Φ Ψ h => ?_)
  · obtain ⟨_, _, _, rfl, _⟩ := h
    rfl
  · obtain ⟨ms, ss, kd, rfl, hk, ⟨hne, hnd, hl, hin⟩, h⟩ := h
    refine sv_cons <| s_if <| et_cmp <| ev_b1 rfl T.n_len boot_len <| er_ev <| ev_name (i := 0) rfl rfl (.inl rfl) <| c_len_l <| ev_int <| d_eqi <| xo rfl <| ⟨fun hT => ?_, fun _ => sv_nil ?_⟩
    · replace hT := of_decide_eq_true hT
      rw [List.length_map] at hT
      exact absurd (List.length_eq_zero_iff.mp (by omega)) hne
    exact sv_cons <| s_expr <| ev_c C_check_each hr rfl c.takes <| ea_cons <| ev_name (i := 0) rfl rfl (.inl rfl) <| ea_cons <| ev_name (i := 1) rfl rfl (.inl rfl) <| ea_nil <| use_watched hk ⟨hne, hnd, hl, hin⟩ <| sv_nil h
/-! ### a sign's row -/
def SSignRow : Sv := fun ds Φ Ψ => ∃ (q : Post') (qs : List Post') (folk ways : List Str) (kd : D), ds = [postD q, .lst (qs.map postD), .tup (folk.map .str), kd] ∧ Known kd ways ∧ WordOk q.1 ∧ qs.length ≤ 1000 ∧
  (q.2.1 ≠ [] ∧ q.2.1.Nodup ∧ q.2.1.length ≤ 1000 ∧ ∀ x ∈ q.2.1, x ∈ folk) ∧ (q.2.2 ≠ [] ∧ q.2.2.Nodup ∧ q.2.2.length ≤ 1000 ∧ ∀ x ∈ q.2.2, x ∈ ways) ∧
  (IsName q.1 → q.1 ∉ qs.map (·.1) → Φ .non) ∧ (¬ IsName q.1 → Ψ Er.cBadName [("name", .str q.1)]) ∧ (IsName q.1 → q.1 ∈ qs.map (·.1) → Ψ Er.cTwice [("name", .str q.1)])
abbrev nSignRow : List Str := ["row", "earlier", "walkers", "paths", "name", "watched_walkers", "watched_paths", "other"]
theorem scSignRow : FnScope nSignRow ["row", "earlier", "walkers", "paths"] (defScope S_check_sign_row) := ⟨rfl, rfl, rfl, by decide +kernel, rfl, by decide +kernel, by decide +kernel⟩
theorem ok_signRow (F : FunT K "check_sign_row" S_check_sign_row f fd) (T : Txt mg) (C_check_some : Fd P w K mg base 5 "check_some" ["names", "known"] (spV K SWatched)) (C_check_new : Fd P w K mg base 3 "check_new" ["name", "earlier"] (spV K (SNew Er))) : FnD P w K mg base 6 f fd ["row", "earlier", "walkers", "paths"] (spV K (SSignRow Er)) := by
  refine fn_V F scSignRow 4 rfl (by decide) (fun ds Φ Ψ h => ?_) (fun f cdv A outer s H E hr c ds Φ Ψ h => ?_)
  · obtain ⟨_, _, _, _, _, rfl, _⟩ := h
    rfl
  · obtain ⟨⟨x, ma, mb⟩, qs, folk, ways, kd, rfl, hk, hw, hl, ha, hb, h1, h2, h3⟩ := h
    refine sv_cons <| s_tgt (V := [4, 5, 6]) <| ev_name (i := 0) (d := postD (x, ma, mb)) rfl rfl (.inl rfl) <| gv_tup3 c.calm <| gv_name (i := 4) (by decide) rfl (ltb rfl) (.inl rfl) c.nd <| gv_name (i := 5) (by decide) rfl (ltb rfl) (.inl rfl) c.nd <| gv_name (i := 6) (by decide) rfl (ltb rfl) (.inl rfl) c.nd ?_
    refine sv_cons <| s_expr <| ev_c C_check_new (hr.mono (by decide)) rfl c.takes <| ea_cons <| ev_name (i := 4) (d := .str x) rfl rfl (.inl rfl) <| ea_cons <| EF.ev <| ef_lc c [("other", 7)] [] (lcOk1 (blkOk_by (N := nSignRow) (sc := defScope S_check_sign_row) (by decide +kernel)) (fun _ => rfl) (fun _ _ _ _ _ _ => rfl)) <| ei_lst <| ev_name (i := 1) (d := .lst (qs.map postD)) rfl rfl (.inl rfl) <| xo rfl ?_
    refine clp_map postD (fun v : Post' => D.str v.1) qs (fun v => [.ok (postD (x, ma, mb)), .ok (.lst (qs.map postD)), .ok (.tup (folk.map .str)), .ok kd, .ok (.str x), .ok (.lst (ma.map .str)), .ok (.lst (mb.map .str)), .ok (postD v)]) (by omega) (fun Y hY v Φ h => ?_) (fun a => rfl) (fun Y hY v ha Φ h => ?_) ?_
    · obtain ⟨_, _, _, _, _, rfl⟩ := hY
      exact gv_name (i := 7) (by decide) rfl (ltb rfl) (.inl rfl) c.nd h
    · obtain ⟨_, _, _, _, _, rfl⟩ := hY
      exact ev_ix <| ev_name (i := 7) rfl rfl (.inl rfl) <| ev_int <| ix_t rfl h
    rw [show (qs.map fun v : Post' => D.str v.1) = (qs.map (·.1)).map D.str by rw [List.map_map]; rfl]
    refine ea_nil ⟨x, qs.map (·.1), rfl, hw, fun hn hni => ?_, fun hn => h2 hn, fun hn hi => h3 hn hi⟩
    refine sv_cons <| s_expr <| ev_c C_check_some hr rfl c.takes <| ea_cons <| ev_name (i := 5) (d := .lst (ma.map .str)) rfl rfl (.inl rfl) <| ea_cons <| ev_name (i := 2) (d := .tup (folk.map .str)) rfl rfl (.inl rfl) <| ea_nil <| use_watched (.inl rfl) ha ?_
    exact sv_cons <| s_expr <| ev_c C_check_some hr rfl c.takes <| ea_cons <| ev_name (i := 6) (d := .lst (mb.map .str)) rfl rfl (.inl rfl) <| ea_cons <| ev_name (i := 3) (d := kd) rfl rfl (.inl rfl) <| ea_nil <| use_watched hk hb <| sv_nil <| h1 hn hni
/-! ### a gate's row: a right one -/
def gpair (g : Gate) : Str × Str := (g.1, g.2.1)
def pairD (p : Str × Str) : D := .tup [.str p.1, .str p.2]
theorem pair_eqv (p q : Str × Str) : (py (pairD p)).eqv (py (pairD q)) = decide (p = q) := by
  have e : (py (pairD p)).eqv (py (pairD q)) = (decide (p.1 = q.1) && (decide (p.2 = q.2) && true)) := by
    show ((p.1 == q.1) && ((p.2 == q.2) && true)) = _
    by_cases a : p.1 = q.1 <;> by_cases b : p.2 = q.2 <;> simp [a, b]
  rw [e]
  obtain ⟨p1, p2⟩ := p
  obtain ⟨q1, q2⟩ := q
  by_cases a : p1 = q1 <;> by_cases b : p2 = q2 <;> simp [a, b]
theorem pairs_any {p : Str × Str} : ∀ {l : List (Str × Str)}, ((pys (l.map pairD)).any fun z => z.eqv (py (pairD p))) = decide (p ∈ l)
  | [] => rfl
  | q :: l => by
    show ((py (pairD q)).eqv (py (pairD p)) || (pys (l.map pairD)).any fun z => z.eqv (py (pairD p))) = _
    rw [pair_eqv, pairs_any]
    by_cases a : q = p
    · subst a; simp
    · have : ¬ p = q := fun z => a z.symm
      simp [a, this]
theorem shp_pair {p : Str × Str} (h1 : WordOk p.1) (h2 : WordOk p.2) : Shp (pairD p) := by
  refine shp_of ?_ (by show 1 ≤ 64; decide)
  show ((PyData.str p.1).canLay0 && ((PyData.str p.2).canLay0 && true)) = true
  rw [show (PyData.str p.1).canLay0 = true from wordOk_all h1, show (PyData.str p.2).canLay0 = true from wordOk_all h2]
  rfl
theorem lay_pairs : ∀ {l : List (Str × Str)}, (∀ p ∈ l, WordOk p.1 ∧ WordOk p.2) → PyData.canLayAll0 (pys (l.map pairD)) = true
  | [], _ => rfl
  | p :: l, h => by
    show ((py (pairD p)).canLay0 && PyData.canLayAll0 (pys (l.map pairD))) = true
    rw [lay_pairs fun q m => h q (List.mem_cons_of_mem _ m), (shp_pair (h p List.mem_cons_self).1 (h p List.mem_cons_self).2).lay]
    rfl
theorem depth_pairs : ∀ {l : List (Str × Str)}, PyData.depthAll (pys (l.map pairD)) ≤ 1
  | [] => Nat.zero_le _
  | p :: l => Nat.max_le.mpr ⟨Nat.le_refl 1, depth_pairs⟩
theorem shp_pairs {l : List (Str × Str)} (h : ∀ p ∈ l, WordOk p.1 ∧ WordOk p.2) : Shp (.lst (l.map pairD)) := by
  refine shp_of (lay_pairs h) ?_
  have := depth_pairs (l := l)
  show PyData.depthAll (pys (l.map pairD)) + 1 ≤ 64
  omega
def SGateRow : Sv := fun ds Φ Ψ => ∃ (g : Gate) (gs : List Gate) (hours : Int) (folk ways : List Str) (kd : D), ds = [gateD g, .lst (gs.map gateD), .int hours, .tup (folk.map .str), kd] ∧ Known kd ways ∧ gs.length ≤ 10000 ∧
  (g.1 ∈ folk ∧ g.2.1 ∈ ways ∧ 0 ≤ g.2.2 ∧ g.2.2 ≤ hours) ∧ gpair g ∉ gs.map gpair ∧ (∀ p ∈ g :: gs, WordOk p.1 ∧ WordOk p.2.1) ∧ Φ .non
abbrev nGateRow : List Str := ["row", "earlier", "hours", "walkers", "paths", "walker", "path", "hour", "other"]
theorem scGateRow : FnScope nGateRow ["row", "earlier", "hours", "walkers", "paths"] (defScope S_check_gate_row) := ⟨rfl, rfl, rfl, by decide +kernel, rfl, by decide +kernel, by decide +kernel⟩
theorem ok_gateRow (F : FunT K "check_gate_row" S_check_gate_row f fd) (T : Txt mg) (C_check_known : Fd P w K mg base 3 "check_known" ["name", "known"] (spV K (SKnown Er))) (C_check_number : Fd P w K mg base 3 "check_number" ["number", "least", "most"] (spV K (SNumber Er))) : FnD P w K mg base 4 f fd ["row", "earlier", "hours", "walkers", "paths"] (spV K SGateRow) := by
  refine fn_V F scGateRow 5 rfl (by decide) (fun ds Φ Ψ h => ?_) (fun f cdv A outer s H E hr c ds Φ Ψ h => ?_)
  · obtain ⟨_, _, _, _, _, _, rfl, _⟩ := h
    rfl
  · obtain ⟨⟨a, b, hh⟩, gs, hours, folk, ways, kd, rfl, hk, hl, ⟨h1, h2, h3, h4⟩, hni, hw, h⟩ := h
    have hu : (cxOf (CX P w) P w K mg base nGateRow "check_gate_row" (defScope S_check_gate_row) f cdv A outer s H E).A.units + 65 < cLine := by have := hr.un; omega
    refine sv_cons <| s_tgt (V := [5, 6, 7]) <| ev_name (i := 0) (d := gateD (a, b, hh)) rfl rfl (.inl rfl) <| gv_tup3 c.calm <| gv_name (i := 5) (by decide) rfl (ltb rfl) (.inl rfl) c.nd <| gv_name (i := 6) (by decide) rfl (ltb rfl) (.inl rfl) c.nd <| gv_name (i := 7) (by decide) rfl (ltb rfl) (.inl rfl) c.nd ?_
    refine sv_cons <| s_expr <| ev_c C_check_known hr rfl c.takes <| ea_cons <| ev_name (i := 5) (d := .str a) rfl rfl (.inl rfl) <| ea_cons <| ev_name (i := 3) (d := .tup (folk.map .str)) rfl rfl (.inl rfl) <| ea_nil <| use_known Er (.inl rfl) h1 ?_
    refine sv_cons <| s_expr <| ev_c C_check_known hr rfl c.takes <| ea_cons <| ev_name (i := 6) (d := .str b) rfl rfl (.inl rfl) <| ea_cons <| ev_name (i := 4) (d := kd) rfl rfl (.inl rfl) <| ea_nil <| use_known Er hk h2 ?_
    refine sv_cons <| s_expr <| ev_c C_check_number hr rfl c.takes <| ea_cons <| ev_name (i := 7) (d := .int hh) rfl rfl (.inl rfl) <| ea_cons <| ev_int <| ea_cons <| ev_name (i := 2) (d := .int hours) rfl rfl (.inl rfl) <| ea_nil <| ⟨hh, 0, hours, rfl, fun _ => ?_, fun z => absurd ⟨h3, h4⟩ z⟩
    refine sv_cons <| s_if <| et_cmp <| ev_tup <| ea_cons <| ev_name (i := 5) (d := .str a) rfl rfl (.inl rfl) <| ea_cons <| ev_name (i := 6) (d := .str b) rfl rfl (.inl rfl) <| ea_nil <| xa (leb rfl) <| EF.ev <| ef_lc c [("other", 8)] [] (lcOk1 (blkOk_by (N := nGateRow) (sc := defScope S_check_gate_row) (by decide +kernel)) (fun _ => rfl) (fun _ _ _ _ _ _ => rfl)) <| ei_lst <| ev_name (i := 1) (d := .lst (gs.map gateD)) rfl rfl (.inl rfl) <| xo rfl ?_
    refine clp_map gateD (fun v : Gate => pairD (gpair v)) gs (fun v => [.ok (gateD (a, b, hh)), .ok (.lst (gs.map gateD)), .ok (.int hours), .ok (.tup (folk.map .str)), .ok kd, .ok (.str a), .ok (.str b), .ok (.int hh), .ok (gateD v)]) (by omega) (fun Y hY v Φ h => ?_) (fun a => rfl) (fun Y hY v ha Φ h => ?_) ?_
    · obtain ⟨_, _, _, _, _, rfl⟩ := hY
      exact gv_name (i := 8) (by decide) rfl (ltb rfl) (.inl rfl) c.nd h
    · obtain ⟨_, _, _, _, _, rfl⟩ := hY
      exact ev_tup <| ea_cons <| ev_ix <| ev_name (i := 8) rfl rfl (.inl rfl) <| ev_int <| ix_t rfl <| ea_cons <| ev_ix <| ev_name (i := 8) rfl rfl (.inl rfl) <| ev_int <| ix_t rfl <| ea_nil <| xa (leb rfl) h
    rw [show (gs.map fun v : Gate => pairD (gpair v)) = (gs.map gpair).map pairD by rw [List.map_map]; rfl]
    refine d_inD (da := pairD (a, b)) hu (shp_pair (hw _ List.mem_cons_self).1 (hw _ List.mem_cons_self).2) (shp_pairs fun p hp => ?_) <| xo rfl ?_
    · obtain ⟨g, mg, rfl⟩ := List.mem_map.mp hp
      exact hw g (List.mem_cons_of_mem _ mg)
    · rw [pairs_any, decide_eq_false (show (a, b) ∉ gs.map gpair from hni)]
      exact ⟨fun z => (nomatch z), fun _ => sv_nil <| sv_nil h⟩
end
end K00
end

section
set_option maxRecDepth 100000
set_option maxHeartbeats 1000000
namespace K00
open PySem PySem.Spec L2 DL
open PyProof.Rows (boot_int boot_abs boot_list boot_max boot_min boot_range boot_all boot_tuple boot_sorted boot_isinstance boot_enumerate)
def normW (w : Way) : Way := (w.1, bestL w.2.1 w.2.2, bestG w.2.1 w.2.2)
def normQ (q : Post') : Str × List Str × List Str := (q.1, sortS q.2.1, sortS q.2.2)
def signD (q : Str × List Str × List Str) : D := .tup [.str q.1, .tup (q.2.1.map .str), .tup (q.2.2.map .str)]
def kW (w : Way) : List Str := [w.1]
def kQ (q : Str × List Str × List Str) : List Str := [q.1]
def kG (g : Gate) : List Str := [g.1, g.2.1]
def pathsOf (ws : List Way) : List Way := sortR kW (ws.map normW)
def signsOf (qs : List Post') : List (Str × List Str × List Str) := sortR kQ (qs.map normQ)
def gatesOf (hours : Int) (gs : List Gate) : List Gate := sortR kG (gs.filter fun g => decide (g.2.2 < hours))
section
variable {P : Program} {w : World} {K : PySem.W.Frag} {mg : Str → Option Value} {base : Heap} {f : Addr} {fd : FuncData} (Er : Errs P w K mg base)
def SPathsC : Sv := fun ds Φ Ψ => ∃ (ws : List Way) (m : Int) (places : List Str), ds = [.lst (ws.map wayD), .int m, .tup (places.map .str)] ∧ ((ws.length : Int) ≤ m ∧ ws.length ≤ 1000) ∧ (∀ w ∈ ws, WordOk w.1 ∧ w.2.1 ∈ places ∧ w.2.2 ∈ places ∧ w.2.1 ≠ w.2.2) ∧
  (∀ tw s, Fault (ws.map (·.1)) tw s → Ψ (cls Er tw) [("name", .str s)]) ∧ (NamesOk (ws.map (·.1)) → Φ (.tup ((pathsOf ws).map wayD)))
abbrev nPathsC : List Str := ["paths", "most", "places", "at", "row", "rows", "name", "first", "second"]
theorem scPathsC : FnScope nPathsC ["paths", "most", "places"] (defScope S_checked_paths) := ⟨rfl, rfl, rfl, by decide +kernel, rfl, by decide +kernel, by decide +kernel⟩
theorem nodup_one {α : Type} {f : α → Str} {l : List α} (h : (l.map f).Nodup) : (l.map fun a => [f a]).Nodup := by
  unfold List.Nodup at h ⊢
  rw [List.pairwise_map] at h ⊢
  exact h.imp fun h e => h (List.cons.inj e).1
theorem ok_pathsC (F : FunT K "checked_paths" S_checked_paths f fd) (T : Txt mg) (C_check_count : Fd P w K mg base 3 "check_count" ["count", "most"] (spV K (SCount Er))) (C_check_path_row : Fd P w K mg base 4 "check_path_row" ["row", "earlier", "places"] (spV K (SPathRow Er))) : FnD P w K mg base 5 f fd ["paths", "most", "places"] (spV K (SPathsC Er)) := by
  refine fn_V F scPathsC 3 rfl (by decide) (fun ds Φ Ψ h => ?_) (fun f cdv A outer s H E hr c ds Φ Ψ h => ?_)
  · obtain ⟨_, _, _, rfl, _⟩ := h
    rfl
  · obtain ⟨ws, m, places, rfl, ⟨hm, hl⟩, hw, h1, h2⟩ := h
    refine sv_cons <| s_expr <| ev_c C_check_count (hr.mono (by decide)) rfl c.takes <| ea_cons <| ev_b1 rfl T.n_len boot_len <| er_ev <| ev_name (i := 0) rfl rfl (.inl rfl) <| c_len_l <| ea_cons <| ev_name (i := 1) rfl rfl (.inl rfl) <| ea_nil <| ⟨_, _, rfl, fun _ => ?_, fun z => by rw [List.length_map] at z; omega⟩
    refine sv_cut (fun G => ∃ y z, G = [.ok (.lst (ws.map wayD)), .ok (.int m), .ok (.tup (places.map .str)), y, z, .un, .un, .un, .un] ∧ NamesOk (ws.map (·.1)))
      (s_for c <| ei_enum rfl T.n_enumerate <| ev_name (i := 0) rfl rfl (.inl rfl) <| xo rfl ?_) (fun G hJ => ?_)
    · refine ⟨fun _ => ⟨fun k G => ∃ y z, G = [.ok (.lst (ws.map wayD)), .ok (.int m), .ok (.tup (places.map .str)), y, z, .un, .un, .un, .un] ∧ NamesOk ((ws.map (·.1)).take k), ⟨_, _, rfl, List.nodup_nil, fun _ m => (nomatch m)⟩, fun k d G hd hT => ⟨[3, 4], ?_⟩, fun G hT => ?_⟩⟩
      · obtain ⟨y, z, rfl, hk⟩ := hT
        obtain ⟨⟨x, a, b⟩, hx, rfl⟩ := enum_get hd
        obtain ⟨w1, w2, w3, w4⟩ := hw _ (List.mem_of_getElem? hx)
        refine gv_tup c.calm rfl 0 0 rfl rfl <| gv_name (i := 3) (by decide) rfl (ltb rfl) (.inl rfl) c.nd <| gv_name (i := 4) (by decide) rfl (ltb rfl) (.inl rfl) c.nd ?_
        refine sv_cons <| s_expr <| ev_c C_check_path_row hr rfl c.takes <| ea_cons <| ev_name (i := 4) rfl rfl (.inl rfl) <| ea_cons <| ev_sl <| ev_name (i := 0) rfl rfl (.inl rfl) <| eo_none <| eo_some <| ev_name (i := 3) rfl rfl (.inl rfl) <| xo rfl <| sl_l <| ea_cons <| ev_name (i := 2) rfl rfl (.inl rfl) <| ea_nil ?_
        rw [enc_cut, cut_take (by omega), Int.toNat_natCast]
        have hx2 : (ws.map (·.1))[k]? = some x := by rw [List.getElem?_map, hx]; rfl
        refine ⟨x, a, b, ws.take k, places, rfl, w1, by rw [List.length_take]; omega, ⟨w2, w3, w4⟩, fun hn hni => ?_, fun hn => ?_, fun hn hi => ?_⟩
        · rw [List.map_take] at hni
          refine sv_nil ⟨_, _, rfl, ?_⟩
          rw [List.take_add_one, hx2]
          exact names_snoc hk hni hn
        · exact h1 false x ⟨k, hx2, hk, .inl ⟨rfl, hn⟩⟩
        · rw [List.map_take] at hi
          exact h1 true x ⟨k, hx2, hk, .inr ⟨rfl, hn, hi⟩⟩
      · obtain ⟨y, z, rfl, hk⟩ := hT
        rw [enumD_length, List.length_map, List.take_of_length_le (by rw [List.length_map]; exact Nat.le_refl _)] at hk
        exact ⟨y, z, rfl, hk⟩
    obtain ⟨y, z, rfl, hok⟩ := hJ
    refine sv_cons <| s_setLc (i := 5) c [("name", 6), ("first", 7), ("second", 8)] [] (lcOk1 (blkOk_by (N := nPathsC) (sc := defScope S_checked_paths) (by decide +kernel)) (fun _ => rfl) (fun _ _ _ _ _ _ => rfl)) rfl rfl (sw_true rfl rfl rfl (by decide +kernel)) <| ei_lst <| ev_name (i := 0) rfl rfl (.inl rfl) <| xo rfl ?_
    refine clp_map wayD (fun w : Way => wayD (normW w)) ws (fun w => [.ok (.lst (ws.map wayD)), .ok (.int m), .ok (.tup (places.map .str)), y, z, .un, .ok (.str w.1), .ok (.str w.2.1), .ok (.str w.2.2)]) (by omega) (fun Y hY v Φ h => ?_) (fun a => rfl) (fun Y hY v ha Φ h => ?_) ?_
    · have cY := ctx_blk c hY
      obtain ⟨_, _, _, _, _, rfl⟩ := hY
      exact gv_tup3 cY.calm <| gv_name (i := 6) (by decide) rfl (ltb rfl) (.inl rfl) c.nd <| gv_name (i := 7) (by decide) rfl (ltb rfl) (.inl rfl) c.nd <| gv_name (i := 8) (by decide) rfl (ltb rfl) (.inl rfl) c.nd h
    · have cY := ctx_blk c hY
      obtain ⟨_, _, _, _, _, rfl⟩ := hY
      exact ev_tup <| ea_cons <| ev_name (i := 6) rfl rfl (.inl rfl) <| ea_cons <| ev_bn rfl T.n_min boot_min <| ea_cons <| ev_name (i := 7) rfl rfl (.inl rfl) <| ea_cons <| ev_name (i := 8) rfl rfl (.inl rfl) <| ea_nil <| c_min2S cY.calm <| ea_cons <| ev_bn rfl T.n_max boot_max <| ea_cons <| ev_name (i := 7) rfl rfl (.inl rfl) <| ea_cons <| ev_name (i := 8) rfl rfl (.inl rfl) <| ea_nil <| c_max2S cY.calm <| ea_nil <| xa (leb rfl) h
    rw [show (ws.map fun w : Way => wayD (normW w)) = (ws.map normW).map wayD by rw [List.map_map]; rfl]
    refine xa (ltb rfl) <| sv_cons <| s_ret <| ev_t1 rfl T.n_tuple boot_tuple <| er_ev <| ev_b1 rfl T.n_sorted boot_sorted <| er_ev <| ev_name (i := 5) rfl rfl (.inl rfl) <| c_sortedRf (as := ws.map normW) kW (fun w : Way => [D.str w.2.1, D.str w.2.2]) 1 2 (by decide) (fun _ _ => ⟨rfl, rfl⟩) ?_ (c_tuple_l (h2 hok))
    exact nodup_one (f := fun w : Way => w.1) (by rw [List.map_map]; exact hok.1)
def SGatesC : Sv := fun ds Φ _ => ∃ (gs : List Gate) (hours : Int) (folk ways : List Str) (kd : D), ds = [.lst (gs.map gateD), .int hours, .tup (folk.map .str), kd] ∧ Known kd ways ∧ gs.length ≤ 1000 ∧ GatesOk hours folk ways gs ∧ (∀ x ∈ folk, WordOk x) ∧ (∀ x ∈ ways, WordOk x) ∧ Φ (.tup ((gatesOf hours gs).map gateD))
abbrev nGatesC : List Str := ["gates", "hours", "walkers", "paths", "at", "row", "rows", "walker", "path", "hour"]
theorem scGatesC : FnScope nGatesC ["gates", "hours", "walkers", "paths"] (defScope S_checked_gates) := ⟨rfl, rfl, rfl, by decide +kernel, rfl, by decide +kernel, by decide +kernel⟩
theorem ok_gatesC (F : FunT K "checked_gates" S_checked_gates f fd) (T : Txt mg) (C_check_gate_row : Fd P w K mg base 4 "check_gate_row" ["row", "earlier", "hours", "walkers", "paths"] (spV K SGateRow)) : FnD P w K mg base 5 f fd ["gates", "hours", "walkers", "paths"] (spV K SGatesC) := by
  refine fn_V F scGatesC 4 rfl (by decide) (fun ds Φ Ψ h => ?_) (fun f cdv A outer s H E hr c ds Φ Ψ h => ?_)
  · obtain ⟨_, _, _, _, _, rfl, _⟩ := h
    rfl
  · obtain ⟨gs, hours, folk, ways, kd, rfl, hk, hl, hg, hwf, hww, h⟩ := h
    have hwg : ∀ g ∈ gs, WordOk g.1 ∧ WordOk g.2.1 := fun g m => ⟨hwf _ (hg.2 g m).1, hww _ (hg.2 g m).2.1⟩
    refine sv_cut (fun G => ∃ y z, G = [.ok (.lst (gs.map gateD)), .ok (.int hours), .ok (.tup (folk.map .str)), .ok kd, y, z, .un, .un, .un, .un])
      (s_for c <| ei_enum rfl T.n_enumerate <| ev_name (i := 0) rfl rfl (.inl rfl) <| xo rfl ?_) (fun G hJ => ?_)
    · refine ⟨fun _ => ⟨fun k G => ∃ y z, G = [.ok (.lst (gs.map gateD)), .ok (.int hours), .ok (.tup (folk.map .str)), .ok kd, y, z, .un, .un, .un, .un], ⟨_, _, rfl⟩, fun k d G hd hT => ⟨[4, 5], ?_⟩, fun G hT => ?_⟩⟩
      · obtain ⟨y, z, rfl⟩ := hT
        obtain ⟨g, hx, rfl⟩ := enum_get hd
        have hgm := List.mem_of_getElem? hx
        refine gv_tup c.calm rfl 0 0 rfl rfl <| gv_name (i := 4) (by decide) rfl (ltb rfl) (.inl rfl) c.nd <| gv_name (i := 5) (by decide) rfl (ltb rfl) (.inl rfl) c.nd ?_
        refine sv_cons <| s_expr <| ev_c C_check_gate_row hr rfl c.takes <| ea_cons <| ev_name (i := 5) rfl rfl (.inl rfl) <| ea_cons <| ev_sl <| ev_name (i := 0) rfl rfl (.inl rfl) <| eo_none <| eo_some <| ev_name (i := 4) rfl rfl (.inl rfl) <| xo rfl <| sl_l <| ea_cons <| ev_name (i := 1) rfl rfl (.inr (.inl rfl)) <| ea_cons <| ev_name (i := 2) rfl rfl (.inl rfl) <| ea_cons <| ev_name (i := 3) rfl rfl (.inl rfl) <| ea_nil ?_
        rw [enc_cut, cut_take (by omega), Int.toNat_natCast]
        refine ⟨g, gs.take k, hours, folk, ways, kd, rfl, hk, by rw [List.length_take]; omega, hg.2 g hgm, fun hm => ?_, fun p hp => ?_, sv_nil ⟨_, _, rfl⟩⟩
        · rw [List.map_take] at hm
          have hx2 : (gs.map gpair)[k]? = some (gpair g) := by rw [List.getElem?_map, hx]; rfl
          obtain ⟨j, hj, e⟩ := List.getElem_of_mem hm
          rw [List.length_take] at hj
          rw [List.getElem_take] at e
          have e2 : (gs.map gpair)[j]? = (gs.map gpair)[k]? := by rw [hx2, ← e]; exact List.getElem?_eq_getElem _
          have := (List.getElem?_inj (l := gs.map gpair) (i := j) (j := k) (by omega) hg.1).mp e2
          omega
        · rcases List.mem_cons.mp hp with rfl | m
          · exact hwg _ hgm
          · exact hwg p (List.mem_of_mem_take m)
      · exact hT
    obtain ⟨y, z, rfl⟩ := hJ
    refine sv_cons <| s_setLc (i := 6) c [("walker", 7), ("path", 8), ("hour", 9)] [] (lcOk1 (blkOk_by (N := nGatesC) (sc := defScope S_checked_gates) (by decide +kernel)) (fun _ => rfl) (fun _ _ _ _ _ _ => rfl)) rfl rfl (sw_true rfl rfl rfl (by decide +kernel)) <| ei_lst <| ev_name (i := 0) rfl rfl (.inl rfl) <| xo rfl ?_
    refine clp_filt gateD gateD (fun g => decide (g.2.2 < hours)) gs (fun g => [.ok (.lst (gs.map gateD)), .ok (.int hours), .ok (.tup (folk.map .str)), .ok kd, y, z, .un, .ok (.str g.1), .ok (.str g.2.1), .ok (.int g.2.2)]) (by omega) (fun Y hY v Φ h => ?_) (fun a => rfl) (fun Y hY v ha Φ h => ?_) (fun Y hY v ha Φ h => ?_) ?_
    · have cY := ctx_blk c hY
      obtain ⟨_, _, _, _, _, rfl⟩ := hY
      exact gv_tup3 cY.calm <| gv_name (i := 7) (by decide) rfl (ltb rfl) (.inl rfl) c.nd <| gv_name (i := 8) (by decide) rfl (ltb rfl) (.inl rfl) c.nd <| gv_name (i := 9) (by decide) rfl (ltb rfl) (.inl rfl) c.nd h
    · obtain ⟨_, _, _, _, _, rfl⟩ := hY
      exact et_cmp <| ev_name (i := 9) rfl rfl (.inl rfl) <| ev_name (i := 1) rfl rfl (.inr (.inl rfl)) <| d_lt <| xo rfl h
    · obtain ⟨_, _, _, _, _, rfl⟩ := hY
      exact ev_tup <| ea_cons <| ev_name (i := 7) rfl rfl (.inl rfl) <| ea_cons <| ev_name (i := 8) rfl rfl (.inl rfl) <| ea_cons <| ev_name (i := 9) rfl rfl (.inl rfl) <| ea_nil <| xa (leb rfl) h
    refine xa (ltb rfl) <| sv_cons <| s_ret <| ev_t1 rfl T.n_tuple boot_tuple <| er_ev <| ev_b1 rfl T.n_sorted boot_sorted <| er_ev <| ev_name (i := 6) rfl rfl (.inl rfl) <| c_sortedRf (as := gs.filter fun g => decide (g.2.2 < hours)) kG (fun g : Gate => [D.int g.2.2]) 2 1 (by decide) (fun _ _ => ⟨rfl, rfl⟩) ?_ (c_tuple_l h)
    have h1 : ((gs.filter fun g => decide (g.2.2 < hours)).map gpair).Nodup := hg.1.sublist (List.filter_sublist.map gpair)
    unfold List.Nodup at h1 ⊢
    rw [List.pairwise_map] at h1 ⊢
    refine h1.imp fun {a b} n e => n ?_
    obtain ⟨e1, e2⟩ := List.cons.inj e
    exact Prod.ext e1 (List.cons.inj e2).1
def SSignsC : Sv := fun ds Φ Ψ => ∃ (qs : List Post') (m : Int) (folk ways : List Str) (kd : D), ds = [.lst (qs.map postD), .int m, .tup (folk.map .str), kd] ∧ Known kd ways ∧ ((qs.length : Int) ≤ m ∧ qs.length ≤ 1000) ∧
  (∀ q ∈ qs, WordOk q.1 ∧ (q.2.1 ≠ [] ∧ q.2.1.Nodup ∧ q.2.1.length < 64 ∧ ∀ x ∈ q.2.1, x ∈ folk) ∧ (q.2.2 ≠ [] ∧ q.2.2.Nodup ∧ q.2.2.length < 64 ∧ ∀ x ∈ q.2.2, x ∈ ways)) ∧
  (∀ tw s, Fault (qs.map (·.1)) tw s → Ψ (cls Er tw) [("name", .str s)]) ∧ (NamesOk (qs.map (·.1)) → Φ (.tup ((signsOf qs).map signD)))
abbrev nSignsC : List Str := ["signs", "most", "walkers", "paths", "at", "row", "rows"]
theorem scSignsC : FnScope nSignsC ["signs", "most", "walkers", "paths"] (defScope S_checked_signs) := ⟨rfl, rfl, rfl, by decide +kernel, rfl, by decide +kernel, by decide +kernel⟩
theorem ok_signsC (F : FunT K "checked_signs" S_checked_signs f fd) (T : Txt mg) (C_check_count : Fd P w K mg base 3 "check_count" ["count", "most"] (spV K (SCount Er))) (C_check_sign_row : Fd P w K mg base 6 "check_sign_row" ["row", "earlier", "walkers", "paths"] (spV K (SSignRow Er))) : FnD P w K mg base 7 f fd ["signs", "most", "walkers", "paths"] (spV K (SSignsC Er)) := by
  refine fn_V F scSignsC 4 rfl (by decide) (fun ds Φ Ψ h => ?_) (fun f cdv A outer s H E hr c ds Φ Ψ h => ?_)
  · obtain ⟨_, _, _, _, _, rfl, _⟩ := h
    rfl
  · obtain ⟨qs, m, folk, ways, kd, rfl, hk, ⟨hm, hl⟩, hw, h1, h2⟩ := h
    refine sv_cons <| s_expr <| ev_c C_check_count (hr.mono (by decide)) rfl c.takes <| ea_cons <| ev_b1 rfl T.n_len boot_len <| er_ev <| ev_name (i := 0) rfl rfl (.inl rfl) <| c_len_l <| ea_cons <| ev_name (i := 1) rfl rfl (.inl rfl) <| ea_nil <| ⟨_, _, rfl, fun _ => ?_, fun z => by rw [List.length_map] at z; omega⟩
    refine sv_cut (fun G => ∃ y z, G = [.ok (.lst (qs.map postD)), .ok (.int m), .ok (.tup (folk.map .str)), .ok kd, y, z, .un] ∧ NamesOk (qs.map (·.1)))
      (s_for c <| ei_enum rfl T.n_enumerate <| ev_name (i := 0) rfl rfl (.inl rfl) <| xo rfl ?_) (fun G hJ => ?_)
    · refine ⟨fun _ => ⟨fun k G => ∃ y z, G = [.ok (.lst (qs.map postD)), .ok (.int m), .ok (.tup (folk.map .str)), .ok kd, y, z, .un] ∧ NamesOk ((qs.map (·.1)).take k), ⟨_, _, rfl, List.nodup_nil, fun _ m => (nomatch m)⟩, fun k d G hd hT => ⟨[4, 5], ?_⟩, fun G hT => ?_⟩⟩
      · obtain ⟨y, z, rfl, hk2⟩ := hT
        obtain ⟨⟨x, ma, mb⟩, hx, rfl⟩ := enum_get hd
        obtain ⟨w1, ⟨a1, a2, a3, a4⟩, ⟨b1, b2, b3, b4⟩⟩ := hw _ (List.mem_of_getElem? hx)
        refine gv_tup c.calm rfl 0 0 rfl rfl <| gv_name (i := 4) (by decide) rfl (ltb rfl) (.inl rfl) c.nd <| gv_name (i := 5) (by decide) rfl (ltb rfl) (.inl rfl) c.nd ?_
        refine sv_cons <| s_expr <| ev_c C_check_sign_row (hr.mono (by decide)) rfl c.takes <| ea_cons <| ev_name (i := 5) rfl rfl (.inl rfl) <| ea_cons <| ev_sl <| ev_name (i := 0) rfl rfl (.inl rfl) <| eo_none <| eo_some <| ev_name (i := 4) rfl rfl (.inl rfl) <| xo rfl <| sl_l <| ea_cons <| ev_name (i := 2) rfl rfl (.inl rfl) <| ea_cons <| ev_name (i := 3) rfl rfl (.inl rfl) <| ea_nil ?_
        rw [enc_cut, cut_take (by omega), Int.toNat_natCast]
        have hx2 : (qs.map (·.1))[k]? = some x := by rw [List.getElem?_map, hx]; rfl
        refine ⟨(x, ma, mb), qs.take k, folk, ways, kd, rfl, hk, w1, by rw [List.length_take]; omega, ⟨a1, a2, Nat.le_trans (Nat.le_of_lt a3) (by decide), a4⟩, ⟨b1, b2, Nat.le_trans (Nat.le_of_lt b3) (by decide), b4⟩, fun hn hni => ?_, fun hn => ?_, fun hn hi => ?_⟩
        · rw [List.map_take] at hni
          refine sv_nil ⟨_, _, rfl, ?_⟩
          rw [List.take_add_one, hx2]
          exact names_snoc hk2 hni hn
        · exact h1 false x ⟨k, hx2, hk2, .inl ⟨rfl, hn⟩⟩
        · rw [List.map_take] at hi
          exact h1 true x ⟨k, hx2, hk2, .inr ⟨rfl, hn, hi⟩⟩
      · obtain ⟨y, z, rfl, hk2⟩ := hT
        rw [enumD_length, List.length_map, List.take_of_length_le (by rw [List.length_map]; exact Nat.le_refl _)] at hk2
        exact ⟨y, z, rfl, hk2⟩
    obtain ⟨y, z, rfl, hok⟩ := hJ
    refine sv_cons <| s_setLc (i := 6) c [("row", 5)] [] (lcOk1 (blkOk_by (N := nSignsC) (sc := defScope S_checked_signs) (by decide +kernel)) (fun _ => rfl) (fun _ _ _ _ _ _ => rfl)) rfl rfl (sw_true rfl rfl rfl (by decide +kernel)) <| ei_lst <| ev_name (i := 0) rfl rfl (.inl rfl) <| xo rfl ?_
    refine clp_map postD (fun q : Post' => signD (normQ q)) qs (fun q => [.ok (.lst (qs.map postD)), .ok (.int m), .ok (.tup (folk.map .str)), .ok kd, y, .ok (postD q), .un]) (by omega) (fun Y hY v Φ h => ?_) (fun a => rfl) (fun Y hY v ha Φ h => ?_) ?_
    · obtain ⟨_, _, _, _, _, rfl⟩ := hY
      exact gv_name (i := 5) (by decide) rfl (ltb rfl) (.inl rfl) c.nd h
    · obtain ⟨_, _, _, _, _, rfl⟩ := hY
      obtain ⟨w1, ⟨a1, a2, a3, a4⟩, ⟨b1, b2, b3, b4⟩⟩ := hw _ ha
      exact ev_tup <| ea_cons <| ev_ix <| ev_name (i := 5) rfl rfl (.inl rfl) <| ev_int <| ix_t rfl <| ea_cons <| ev_t1 rfl T.n_tuple boot_tuple <| er_ev <| ev_b1 rfl T.n_sorted boot_sorted <| er_ev <| ev_ix <| ev_name (i := 5) rfl rfl (.inl rfl) <| ev_int <| ix_t (d := .lst (v.2.1.map .str)) rfl <| c_sortedSf a3 a2 <| c_tuple_l <|
        ea_cons <| ev_t1 rfl T.n_tuple boot_tuple <| er_ev <| ev_b1 rfl T.n_sorted boot_sorted <| er_ev <| ev_ix <| ev_name (i := 5) rfl rfl (.inl rfl) <| ev_int <| ix_t (d := .lst (v.2.2.map .str)) rfl <| c_sortedSf b3 b2 <| c_tuple_l <| ea_nil <| xa (leb rfl) h
    rw [show (qs.map fun q : Post' => signD (normQ q)) = (qs.map normQ).map signD by rw [List.map_map]; rfl]
    refine xa (ltb rfl) <| sv_cons <| s_ret <| ev_t1 rfl T.n_tuple boot_tuple <| er_ev <| ev_b1 rfl T.n_sorted boot_sorted <| er_ev <| ev_name (i := 6) rfl rfl (.inl rfl) <| c_sortedRf (as := qs.map normQ) kQ (fun q : Str × List Str × List Str => [D.tup (q.2.1.map .str), D.tup (q.2.2.map .str)]) 1 2 (by decide) (fun _ _ => ⟨rfl, rfl⟩) ?_ (c_tuple_l (h2 hok))
    exact nodup_one (f := fun q : Str × List Str × List Str => q.1) (by rw [List.map_map]; exact hok.1)
end
end K00
end

section
set_option maxRecDepth 100000
set_option maxHeartbeats 1000000
namespace K00
open PySem PySem.Spec L2 DL
open PyProof.Rows (boot_int boot_abs boot_list boot_max boot_min boot_range boot_all boot_tuple boot_sorted boot_isinstance boot_enumerate)
structure TxtS (mg : Str → Option Value) : Prop where
  n_bool : mg "bool" = none
  n_dict : mg "dict" = none
  n_ValueError : mg "ValueError" = none
theorem boot_dict' : bootBuiltins "dict" = some (.type "dict") := by decide +kernel
theorem boot_int' : bootBuiltins "int" = some (.type "int") := by decide +kernel
theorem boot_list' : bootBuiltins "list" = some (.type "list") := by decide +kernel
theorem boot_tuple' : bootBuiltins "tuple" = some (.type "tuple") := by decide +kernel
theorem k_ss : kitB "str" "str" = some true := by decide +kernel
theorem k_si : kitB "str" "int" = some false := by decide +kernel
theorem k_ti : kitB "tuple" "int" = some false := by decide +kernel
theorem k_ts : kitB "tuple" "str" = some false := by decide +kernel
theorem k_td : kitB "tuple" "dict" = some false := by decide +kernel
theorem k_tl : kitB "tuple" "list" = some false := by decide +kernel
theorem k_tt : kitB "tuple" "tuple" = some true := by decide +kernel
theorem nofb {b : Bool} {α : Prop} (h : b = false) (z : b = true) : α := by rw [h] at z; cases z
/-- texts, tuples of them, and so on -/
def Plain : Nat → D → Prop
  | _, .str _ => True
  | k + 1, .tup l => l.length ≤ 1000 ∧ ∀ d ∈ l, Plain k d
  | _, _ => False
section
variable {P : Program} {w : World} {K : PySem.W.Frag} {mg : Str → Option Value} {base : Heap} {f : Addr} {fd : FuncData}
def SSame (k : Nat) : Sv := fun ds Φ _ => ∃ d, ds = [d, d] ∧ Plain k d ∧ Φ (.bl true)
abbrev nSame : List Str := ["told", "due", "key", "k"]
theorem scSame : FnScope nSame ["told", "due"] (defScope S__law_same) := ⟨rfl, rfl, rfl, by decide +kernel, rfl, by decide +kernel, by decide +kernel⟩
theorem ok_same (F : FunT K "_law_same" S__law_same f fd) (T : Txt mg) (TP : TxtP mg) (TS : TxtS mg) (k : Nat) (C_law_same : ∀ j, k = j + 1 → Fd P w K mg base (j + 1) "_law_same" ["told", "due"] (spV K (SSame j))) : FnD P w K mg base (k + 1) f fd ["told", "due"] (spV K (SSame k)) := by
  refine fn_V F scSame 2 rfl (by decide) (fun ds Φ Ψ h => ?_) (fun f cdv A outer s H E hr c ds Φ Ψ h => ?_)
  · obtain ⟨_, rfl, _⟩ := h
    rfl
  · obtain ⟨d, rfl, hp, h⟩ := h
    have hnon : isNon d = false := by cases d <;> first | rfl | (cases k <;> exact hp.elim)
    have hT : isBl true d = false := by cases d <;> first | rfl | (cases k <;> exact hp.elim)
    have hFl : isBl false d = false := by cases d <;> first | rfl | (cases k <;> exact hp.elim)
    have hk : isKind d = true := by cases d <;> first | rfl | (cases k <;> exact hp.elim)
    refine sv_cons <| s_if <| et_cmp <| ev_name (i := 1) (d := d) rfl rfl (.inl rfl) <| ev_non <| d_isN <| xo rfl <| ⟨fun z => nofb hnon z, fun _ => sv_nil ?_⟩
    refine sv_cons <| s_if <| et_cmp <| ev_name (i := 1) (d := d) rfl rfl (.inl rfl) <| ev_bl <| d_isB <| xo rfl <| ⟨fun z => nofb hT z, fun _ => sv_nil ?_⟩
    refine sv_cons <| s_if <| et_cmp <| ev_name (i := 1) (d := d) rfl rfl (.inl rfl) <| ev_bl <| d_isB <| xo rfl <| ⟨fun z => nofb hFl z, fun _ => sv_nil ?_⟩
    cases d with
    | str x =>
      refine sv_cons <| s_if <| et_val <| ev_bn rfl T.n_isinstance boot_isinstance <| ea_cons <| ev_name (i := 1) rfl rfl (.inl rfl) <| ea_cons <| ev_tyN rfl T.n_int boot_int' <| ea_nil <| c_isi (b := false) rfl k_si <| xo rfl <| ⟨fun z => (nomatch z), fun _ => sv_nil ?_⟩
      refine sv_cons <| s_if <| et_val <| ev_bn rfl T.n_isinstance boot_isinstance <| ea_cons <| ev_name (i := 1) rfl rfl (.inl rfl) <| ea_cons <| ev_tyN rfl TP.n_str boot_str' <| ea_nil <| c_isi (b := true) rfl k_ss <| xo rfl <| ⟨fun _ => ?_, fun z => (nomatch z)⟩
      refine sv_cons <| s_ret <| ev_and <| ev_bn rfl T.n_isinstance boot_isinstance <| ea_cons <| ev_name (i := 0) rfl rfl (.inl rfl) <| ea_cons <| ev_tyN rfl TP.n_str boot_str' <| ea_nil <| c_isi (b := true) rfl k_ss <| ⟨_, rfl, fun _ => ?_, fun z => (nomatch z)⟩
      refine ev_one <| ev_cmp <| ev_name (i := 0) rfl rfl (.inl rfl) <| ev_name (i := 1) rfl rfl (.inl rfl) <| d_eqs ?_
      rw [decide_eq_true rfl]
      exact h
    | tup l =>
      obtain ⟨j, rfl⟩ : ∃ j, k = j + 1 := by
        cases k with
        | zero => exact hp.elim
        | succ j => exact ⟨j, rfl⟩
      obtain ⟨hl, hj⟩ := hp
      refine sv_cons <| s_if <| et_val <| ev_bn rfl T.n_isinstance boot_isinstance <| ea_cons <| ev_name (i := 1) rfl rfl (.inl rfl) <| ea_cons <| ev_tyN rfl T.n_int boot_int' <| ea_nil <| c_isi (b := false) rfl k_ti <| xo rfl <| ⟨fun z => (nomatch z), fun _ => sv_nil ?_⟩
      refine sv_cons <| s_if <| et_val <| ev_bn rfl T.n_isinstance boot_isinstance <| ea_cons <| ev_name (i := 1) rfl rfl (.inl rfl) <| ea_cons <| ev_tyN rfl TP.n_str boot_str' <| ea_nil <| c_isi (b := false) rfl k_ts <| xo rfl <| ⟨fun z => (nomatch z), fun _ => sv_nil ?_⟩
      refine sv_cons <| s_if <| et_val <| ev_bn rfl T.n_isinstance boot_isinstance <| ea_cons <| ev_name (i := 1) rfl rfl (.inl rfl) <| ea_cons <| ev_tyN rfl TS.n_dict boot_dict' <| ea_nil <| c_isi (b := false) rfl k_td <| xo rfl <| ⟨fun z => (nomatch z), fun _ => sv_nil ?_⟩
      refine sv_cons <| s_if <| et_w <| ew_and <| et_val <| ev_bn rfl T.n_isinstance boot_isinstance <| ea_cons <| ev_name (i := 1) rfl rfl (.inl rfl) <| ea_cons <| ev_tyN rfl T.n_list boot_list' <| ea_nil <| c_isi (b := false) rfl k_tl <| xo rfl <| ⟨fun z => (nomatch z), fun _ => ⟨fun z => (nomatch z), fun _ => sv_nil ?_⟩⟩
      refine sv_cons <| s_if <| et_w <| ew_and <| et_val <| ev_bn rfl T.n_isinstance boot_isinstance <| ea_cons <| ev_name (i := 1) rfl rfl (.inl rfl) <| ea_cons <| ev_tyN rfl T.n_tuple boot_tuple' <| ea_nil <| c_isi (b := true) rfl k_tt <| xo rfl <| ⟨fun _ => ?_, fun z => (nomatch z)⟩
      refine ew_and1 <| et_not <| et_val <| ev_bn rfl T.n_isinstance boot_isinstance <| ea_cons <| ev_name (i := 0) rfl rfl (.inl rfl) <| ea_cons <| ev_tyN rfl T.n_tuple boot_tuple' <| ea_nil <| c_isi (b := true) rfl k_tt <| xo rfl <| ⟨fun z => (nomatch z), fun _ => sv_nil ?_⟩
      refine sv_cons <| s_if <| et_cmp <| ev_b1 rfl T.n_len boot_len <| er_ev <| ev_name (i := 0) rfl rfl (.inl rfl) <| c_len_t <| ev_b1 rfl T.n_len boot_len <| er_ev <| ev_name (i := 1) rfl rfl (.inl rfl) <| c_len_t <| d_nei <| xo rfl <| ⟨fun z => ?_, fun _ => sv_nil ?_⟩
      · rw [decide_eq_true rfl] at z
        cases z
      refine sv_cons <| s_for c <| ei_range1 rfl T.n_range <| ev_b1 rfl T.n_len boot_len <| er_ev <| ev_name (i := 1) rfl rfl (.inl rfl) <| c_len_t <| ⟨_, rfl, by omega, by omega, ?_⟩
      rw [Int.toNat_natCast]
      refine ⟨fun _ => ⟨fun i G => ∃ y, G = [.ok (.tup l), .ok (.tup l), .un, y], ⟨_, rfl⟩, fun i d G hd hT => ⟨[3], gv_name (i := 3) (by decide) rfl ?_ (.inl rfl) c.nd ?_⟩, fun G hT => ?_⟩⟩
      · obtain ⟨_, rfl⟩ := hT
        exact ltb rfl
      · obtain ⟨y, rfl⟩ := hT
        obtain ⟨hi, rfl⟩ := range_get hd
        obtain ⟨x, hx⟩ : ∃ x, l[i]? = some x := ⟨_, List.getElem?_eq_getElem hi⟩
        have ex : L2.atI l ((0 : Int) + (i : Int)) = some x := by rw [Int.zero_add]; exact L2.atI_nat hx
        exact sv_cons <| s_if <| et_not <| et_val <| ev_c (C_law_same j rfl) (hr.mono (by omega)) rfl c.takes <| ea_cons <| ev_ix <| ev_name (i := 0) rfl rfl (.inl rfl) <| ev_name (i := 3) rfl rfl (.inl rfl) <| ix_t ex <| ea_cons <| ev_ix <| ev_name (i := 1) rfl rfl (.inl rfl) <| ev_name (i := 3) rfl rfl (.inl rfl) <| ix_t ex <| ea_nil <| ⟨x, rfl, hj x (List.mem_of_getElem? hx), xo rfl <| ⟨fun z => (nomatch z), fun _ => sv_nil <| sv_nil ⟨_, rfl⟩⟩⟩
      · obtain ⟨y, rfl⟩ := hT
        exact sv_cons <| s_ret <| ev_bl h
    | _ => cases k <;> exact hp.elim
end
end K00
end

section
set_option maxRecDepth 100000
set_option maxHeartbeats 1000000
namespace K00
open PySem PySem.Spec L2 DL
open PyProof.Rows (boot_int boot_abs boot_list boot_max boot_min boot_range boot_all boot_tuple boot_sorted boot_isinstance boot_enumerate)
theorem fault_no {ns : List Str} {tw : Bool} {s : Str} (h : Fault ns tw s) : ¬ NamesOk ns := by
  obtain ⟨k, hk, hp, hf⟩ := h
  intro ok
  rcases hf with ⟨_, hn⟩ | ⟨_, _, hm⟩
  · exact hn (ok.2 s (List.mem_of_getElem? hk))
  · obtain ⟨j, hj, e⟩ := List.getElem_of_mem hm
    rw [List.length_take] at hj
    rw [List.getElem_take] at e
    have e2 : ns[j]? = ns[k]? := by rw [hk, ← e]; exact List.getElem?_eq_getElem _
    have := (List.getElem?_inj (i := j) (j := k) (by omega) ok.1).mp e2
    omega
theorem fault_pre {ns : List Str} {k j : Nat} {s : Str} (hk : ns[k]? = some s) (hf : ¬ IsName s ∨ s ∈ ns.take k) (hj : NamesOk (ns.take j)) : j ≤ k := by
  by_cases l : j ≤ k
  · exact l
  · exfalso
    have hs : (ns.take j)[k]? = some s := by rw [List.getElem?_take_of_lt (by omega)]; exact hk
    rcases hf with hn | hm
    · exact hn (hj.2 s (List.mem_of_getElem? hs))
    · obtain ⟨i, hi, e⟩ := List.getElem_of_mem hm
      rw [List.length_take] at hi
      rw [List.getElem_take] at e
      have e2 : (ns.take j)[i]? = (ns.take j)[k]? := by
        rw [hs, List.getElem?_take_of_lt (by omega), ← e]; exact List.getElem?_eq_getElem _
      have := (List.getElem?_inj (i := i) (j := k) (by rw [List.length_take]; omega) hj.1).mp e2
      omega
theorem fault_uniq {ns : List Str} {tw tw2 : Bool} {s s2 : Str} (h : Fault ns tw s) (h2 : Fault ns tw2 s2) : tw = tw2 ∧ s = s2 := by
  obtain ⟨k, hk, hp, hf⟩ := h
  obtain ⟨j, hj, hp2, hf2⟩ := h2
  have a := fault_pre hk (hf.imp (·.2) (·.2.2)) hp2
  have b := fault_pre hj (hf2.imp (·.2) (·.2.2)) hp
  have e : k = j := by omega
  subst e
  have e : s = s2 := Option.some.inj (hk.symm.trans hj)
  subst e
  refine ⟨?_, rfl⟩
  rcases hf with ⟨a1, a2⟩ | ⟨a1, a2, a3⟩ <;> rcases hf2 with ⟨b1, b2⟩ | ⟨b1, b2, b3⟩
  · rw [a1, b1]
  · exact absurd b2 a2
  · exact absurd a2 b2
  · rw [a1, b1]
theorem first_uniq {gs : List (List Str)} {tw tw2 : Bool} {s s2 : Str} (h : FirstFault gs (some (tw, s))) (h2 : FirstFault gs (some (tw2, s2))) : tw = tw2 ∧ s = s2 := by
  obtain ⟨i, ns, hi, hpre, hf⟩ := h
  obtain ⟨j, ms, hj, hpre2, hf2⟩ := h2
  have lt : ∀ {a b : Nat} {x : List Str} {t : Bool} {z : Str}, gs[a]? = some x → Fault x t z → (∀ m ∈ gs.take b, NamesOk m) → b ≤ a := fun {a b x t z} ha hx hb => by
    by_cases l : b ≤ a
    · exact l
    · exact absurd (hb x (List.mem_of_getElem? (i := a) (by rw [List.getElem?_take_of_lt (by omega)]; exact ha))) (fault_no hx)
  have a := lt hi hf hpre2
  have b := lt hj hf2 hpre
  have e : i = j := by omega
  subst e
  cases hi.symm.trans hj
  exact fault_uniq hf hf2
section
variable {P : Program} {w : World} {K : PySem.W.Frag} {mg : Str → Option Value} {base : Heap} {f : Addr} {fd : FuncData} (Er : Errs P w K mg base) (cM : Addr)
def MeadowFs (F : Fld) (fs : List (Str × D)) : Prop := List.lookup ("places" : Str) fs = some (D.tup ((sortS F.spots).map .str)) ∧ List.lookup ("walkers" : Str) fs = some (D.tup ((sortS F.folk).map .str)) ∧ List.lookup ("paths" : Str) fs = some (D.tup ((pathsOf F.ways).map wayD)) ∧ List.lookup ("signs" : Str) fs = some (D.tup ((signsOf F.posts).map signD))
/-- a field that the law may hand in -/
def Handed (F0 F : Fld) : Prop := FldOk 3 5 3 5 5 F0 ∧ Spo F0 F
def SMade : Sv := fun ds Φ Ψ => ∃ F0 F, ds = [Fld.d F] ∧ Handed F0 F ∧ (∀ tw s, FirstFault (nameGroups F) (some (tw, s)) → Ψ (cls Er tw) [("name", .str s)]) ∧ (F = F0 → ∀ fs, MeadowFs F fs → Φ (.ins cM fs))
theorem handed_ok {F0 F : Fld} (h : Handed F0 F) (e : F = F0) : FirstFault (nameGroups F) none := by
  subst e
  intro ns hm
  rcases List.mem_cons.mp hm with rfl | hm
  · exact h.1.spots.1
  rcases List.mem_cons.mp hm with rfl | hm
  · exact h.1.folk.1
  rcases List.mem_cons.mp hm with rfl | hm
  · exact h.1.ways.1.1
  rcases List.mem_cons.mp hm with rfl | hm
  · exact h.1.posts.1.1
  nomatch hm
theorem none_some {gs : List (List Str)} {tw : Bool} {s : Str} (h : FirstFault gs none) (h2 : FirstFault gs (some (tw, s))) : False := by
  obtain ⟨i, ns, hi, _, hf⟩ := h2
  exact fault_no hf (h ns (List.mem_of_getElem? hi))
/-- .. without a fault it is the first field -/
theorem handed_same {F0 F : Fld} (h : Handed F0 F) (e : FirstFault (nameGroups F) none) : F = F0 := by
  obtain ⟨_, s⟩ := h
  have e1 : NamesOk F.spots := e _ List.mem_cons_self
  have e2 : NamesOk F.folk := e _ (List.mem_cons_of_mem _ List.mem_cons_self)
  have e3 : NamesOk (F.ways.map (·.1)) := e _ (List.mem_cons_of_mem _ (List.mem_cons_of_mem _ List.mem_cons_self))
  have e4 : NamesOk (F.posts.map (·.1)) := e _ (List.mem_cons_of_mem _ (List.mem_cons_of_mem _ (List.mem_cons_of_mem _ List.mem_cons_self)))
  have a1 := s.spots.1.resolve_right fun z => z e1
  have a2 := s.folk.1.resolve_right fun z => z e2
  have a3 := s.ways.1.resolve_right fun z => z e3
  have a4 := s.posts.1.resolve_right fun z => z e4
  have a5 := s.hours
  have a6 := s.shut
  cases F
  cases F0
  simp only at a1 a2 a3 a4 a5 a6
  subst a1 a2 a3 a4 a5 a6
  rfl
structure ErrK (Er : Errs P w K mg base) (cGrass : Addr) : Prop where
  gGrass : mg "GrassError" = some (.ref cGrass)
  x1 : ∀ tw, PySem.W.exmOne K (.ref (cls Er tw)) (.ref Er.cBadName) = some (!tw)
  x2 : ∀ tw, PySem.W.exmOne K (.ref (cls Er tw)) (.ref Er.cTwice) = some tw
  x3 : ∀ tw, PySem.W.exmOne K (.ref (cls Er tw)) (.ref cGrass) = some true
  is_ : ∀ tw, ExcC K (cls Er tw)
  k1 : ∀ tw, PySem.W.kitOne K (.ref (cls Er tw)) (.type "ValueError") = some true
  k2 : ∀ tw, PySem.W.kitOne K (.ref (cls Er tw)) (.ref Er.cBadName) = some (!tw)
  k3 : ∀ tw, PySem.W.kitOne K (.ref (cls Er tw)) (.ref Er.cTwice) = some tw
  k4 : ∀ tw, PySem.W.kitOne K (.ref (cls Er tw)) (.ref Er.cUnknown) = some false
  k5 : ∀ tw, PySem.W.kitOne K (.ref (cls Er tw)) (.ref Er.cBadPath) = some false
  k6 : ∀ tw, PySem.W.kitOne K (.ref (cls Er tw)) (.ref Er.cBadNumber) = some false
  k7 : ∀ tw, PySem.W.kitOne K (.ref (cls Er tw)) (.ref Er.cTooMany) = some false
theorem cls_xf (tw : Bool) : XfC K (cls Er tw) := by cases tw; exact Er.tBadName.xf; exact Er.tTwice.xf
theorem cls_no (tw : Bool) : PySem.W.findIn K (.ref (cls Er tw)) "name" = some none := by cases tw; exact Er.tBadName.noF; exact Er.tTwice.noF
def SRefusal : Sv := fun ds Φ _ => ∃ F0 F tw s, ds = [Fld.d F] ∧ Handed F0 F ∧ FirstFault (nameGroups F) (some (tw, s)) ∧ Φ (faultD (some (tw, s)))
abbrev nRefusal : List Str := ["data", "told", "e"]
theorem scRefusal : FnScope nRefusal ["data"] (defScope S__law_refusal) := ⟨rfl, rfl, rfl, by decide +kernel, rfl, by decide +kernel, by decide +kernel⟩
theorem ok_refusal {cGrass : Addr} (G : ErrK Er cGrass) (F : FunT K "_law_refusal" S__law_refusal f fd) (C_law_made : Fd P w K mg base 10 "_law_made" ["data"] (spV K (SMade Er cM))) : FnD P w K mg base 11 f fd ["data"] (spV K (SRefusal)) := by
  refine fn_V F scRefusal 1 rfl (by decide) (fun ds Φ Ψ h => ?_) (fun f cdv A outer s H E hr c ds Φ Ψ h => ?_)
  · obtain ⟨_, _, _, _, rfl, _⟩ := h
    rfl
  · obtain ⟨F0, F1, tw, s0, rfl, hh, hff, h⟩ := h
    refine sv_cons <| s_set (i := 1) rfl (.inl rfl) c.nd <| ev_tup <| ea_cons <| ev_str <| ea_cons <| ev_str <| ea_nil <| xa (leb rfl) <| xa (ltb rfl) ?_
    refine sv_cut (fun G => G = [.ok F1.d, .ok (faultD (some (tw, s0))), .un]) ?_ (fun G hJ => ?_)
    · refine s_try c rfl rfl (.named ⟨rfl, by decide, .inl Er.tBadName.gC⟩ (i := 2) rfl rfl <| .named ⟨rfl, by decide, .inl Er.tTwice.gC⟩ (i := 2) rfl rfl <| .plain ⟨rfl, by decide, .inl G.gGrass⟩ .nil) fun W' pn xe cT => ?_
      refine sv_cons <| s_expr <| ev_c C_law_made hr rfl cT.takes <| ea_cons <| ev_name (i := 0) (d := F1.d) rfl rfl (.inl rfl) <| ea_nil ⟨F0, F1, rfl, hh, fun tw2 s2 hf => ?_, fun e => (none_some (handed_ok hh e) hff).elim⟩
      obtain ⟨rfl, rfl⟩ := first_uniq hff hf
      have suite : ∀ (word : Str), word = (if tw = true then "twice" else "name") → True := fun _ _ => trivial
      cases tw with
      | false =>
        refine ⟨true, G.x1 false, fun _ => ⟨fun i e => by cases e; exact ltb rfl, fun a d oe pn2 hz hf2 => ?_⟩, fun z => (nomatch z)⟩
        exact sv_cons <| s_set (i := 1) rfl (.inl rfl) c.nd <| ev_tup <| ea_cons <| ev_str <| ea_cons <| ev_xf (i := 2) (cls_xf Er false) (cls_no Er false) hz hf2 rfl rfl (.inl rfl) rfl <| ea_nil <| xa (leb rfl) <| xa (ltb rfl) <| sv_nil rfl
      | true =>
        refine ⟨false, G.x1 true, fun z => (nomatch z), fun _ => ⟨true, G.x2 true, fun _ => ⟨fun i e => by cases e; exact ltb rfl, fun a d oe pn2 hz hf2 => ?_⟩, fun z => (nomatch z)⟩⟩
        exact sv_cons <| s_set (i := 1) rfl (.inl rfl) c.nd <| ev_tup <| ea_cons <| ev_str <| ea_cons <| ev_xf (i := 2) (cls_xf Er true) (cls_no Er true) hz hf2 rfl rfl (.inl rfl) rfl <| ea_nil <| xa (leb rfl) <| xa (ltb rfl) <| sv_nil rfl
    subst hJ
    exact sv_cons <| s_ret <| ev_name (i := 1) rfl rfl (.inl rfl) h
end
end K00
end

section
set_option maxRecDepth 100000
set_option maxHeartbeats 1000000
namespace DL
open PySem PySem.Spec L2
/-- e.f, e an own object -/
theorem ev_fld {X : Cx} {W : WX} {Γ : List Sl} {Φ : D → List Sl → Prop} {Ψ : Ex} {pos : Pos} {e : Expr} {f : Str} {C : Addr} (cl : Cls X.K C) (na : NoAttr X.K C f) (h : EV X W Γ e (fun d Γ1 => ∃ fs dv, d = .ins C fs ∧ fs.lookup f = some dv ∧ Φ dv Γ1) Ψ)
    (hb : attributeBase e f X.env (eval e X.env) = eval e X.env := by rfl) : EV X W Γ (.Attribute e f pos) Φ Ψ := by
  refine ⟨fun E M σ H Q A x q => ⟨_, pe_fld pe_we hb, ?_⟩⟩
  refine h.run E M σ H _ A x fun d Γ1 v H1 p1 A1 k1 r1 => ?_
  obtain ⟨fs, dv, rfl, hl, hp⟩ := p1
  obtain ⟨a, dx, vs, rfl, _, ho, rr⟩ := r1
  obtain ⟨u, hu, ru⟩ := rr.lookup hl
  exact ⟨a, C, dx, vs, u, rfl, ho, cl, na, hu, q dv Γ1 u H1 hp A1 k1 ru⟩
end DL
namespace K00
open PySem PySem.Spec L2 DL
open PyProof.Rows (boot_int boot_abs boot_list boot_max boot_min boot_range boot_all boot_tuple boot_sorted boot_isinstance boot_enumerate)
theorem boot_VE : bootBuiltins "ValueError" = some (.type "ValueError") := by decide +kernel
section
variable {P : Program} {w : World} {K : PySem.W.Frag} {mg : Str → Option Value} {base : Heap} {f : Addr} {fd : FuncData} (Er : Errs P w K mg base) (cM : Addr)
def kindsD (tw : Bool) : D := .lst [.bl true, .bl (!tw), .bl tw, .bl false, .bl false, .bl false, .bl false]
def SKinds : Sv := fun ds Φ _ => ∃ F0 F tw s, ds = [Fld.d F] ∧ Handed F0 F ∧ FirstFault (nameGroups F) (some (tw, s)) ∧ Φ (kindsD tw)
abbrev nKinds : List Str := ["data", "kinds", "e"]
theorem scKinds : FnScope nKinds ["data"] (defScope S__law_kinds) := ⟨rfl, rfl, rfl, by decide +kernel, rfl, by decide +kernel, by decide +kernel⟩
theorem rel_ty {n : String} {K : PySem.W.Frag} {M : Addr → Prop} {H : Hp} {v : V} {u : Value} (r : Rep K M H (.ty n) v) (h : RelV v u) : u = .type n := by
  have r : v = .ty n := r
  subst r
  exact h
theorem rel_ref {a : Addr} {K : PySem.W.Frag} {M : Addr → Prop} {H : Hp} {v : V} {u : Value} (r : Rep K M H (.ref a) v) (h : RelV v u) : u = .ref a := by
  have r : v = .ref a := r
  subst r
  exact h
theorem ok_kinds {cGrass : Addr} (G : ErrK Er cGrass) (T : Txt mg) (TS : TxtS mg) (F : FunT K "_law_kinds" S__law_kinds f fd) (C_law_made : Fd P w K mg base 10 "_law_made" ["data"] (spV K (SMade Er cM))) : FnD P w K mg base 11 f fd ["data"] (spV K (SKinds)) := by
  refine fn_V F scKinds 1 rfl (by decide) (fun ds Φ Ψ h => ?_) (fun f cdv A outer s H E hr c ds Φ Ψ h => ?_)
  · obtain ⟨_, _, _, _, rfl, _⟩ := h
    rfl
  · obtain ⟨F0, F1, tw, s0, rfl, hh, hff, h⟩ := h
    refine sv_cons <| s_set (i := 1) rfl (.inl rfl) c.nd <| ev_lst <| ea_nil <| xa (leb rfl) <| xa (ltb rfl) ?_
    refine sv_cut (fun G => G = [.ok F1.d, .ok (kindsD tw), .un]) ?_ (fun G hJ => ?_)
    · refine s_try c rfl rfl (.named ⟨rfl, by decide, .inl G.gGrass⟩ (i := 2) rfl rfl .nil) fun W' pn xe cT => ?_
      refine sv_cons <| s_expr <| ev_c C_law_made hr rfl cT.takes <| ea_cons <| ev_name (i := 0) (d := F1.d) rfl rfl (.inl rfl) <| ea_nil ⟨F0, F1, rfl, hh, fun tw2 s2 hf => ?_, fun e => (none_some (handed_ok hh e) hff).elim⟩
      obtain ⟨rfl, rfl⟩ := first_uniq hff hf
      refine ⟨true, G.x3 tw, fun _ => ⟨fun i e => by cases e; exact ltb rfl, fun a d oe pn2 hz hf2 => ?_⟩, fun z => (nomatch z)⟩
      refine sv_cons <| s_set (i := 1) rfl (.inl rfl) c.nd <| ev_lst <|
        ea_cons <| ev_isx (i := 2) (G.is_ tw) hz hf2 rfl T.n_isinstance boot_isinstance rfl rfl (.inl rfl) (cv := .type "ValueError") <| ev_tyN rfl TS.n_ValueError boot_VE <| ⟨rfl, fun _ _ _ _ r h => rel_ty r h, G.k1 tw, ?_⟩
      refine ea_cons <| ev_isx (i := 2) (G.is_ tw) hz hf2 rfl T.n_isinstance boot_isinstance rfl rfl (.inl rfl) (cv := .ref Er.cBadName) <| ev_glob (v := .ref Er.cBadName) (d := .ref Er.cBadName) rfl Er.tBadName.gC rfl (fun _ _ => rfl) <| ⟨rfl, fun _ _ _ _ r h => rel_ref r h, G.k2 tw, ?_⟩
      refine ea_cons <| ev_isx (i := 2) (G.is_ tw) hz hf2 rfl T.n_isinstance boot_isinstance rfl rfl (.inl rfl) (cv := .ref Er.cTwice) <| ev_glob (v := .ref Er.cTwice) (d := .ref Er.cTwice) rfl Er.tTwice.gC rfl (fun _ _ => rfl) <| ⟨rfl, fun _ _ _ _ r h => rel_ref r h, G.k3 tw, ?_⟩
      refine ea_cons <| ev_isx (i := 2) (G.is_ tw) hz hf2 rfl T.n_isinstance boot_isinstance rfl rfl (.inl rfl) (cv := .ref Er.cUnknown) <| ev_glob (v := .ref Er.cUnknown) (d := .ref Er.cUnknown) rfl Er.tUnknown.gC rfl (fun _ _ => rfl) <| ⟨rfl, fun _ _ _ _ r h => rel_ref r h, G.k4 tw, ea_nil <| xa (leb rfl) <| xa (ltb rfl) ?_⟩
      refine sv_cons <| s_set (i := 1) rfl (.inl rfl) c.nd <| ev_op <| ev_name (i := 1) rfl rfl (.inl rfl) <| ev_lst <|
        ea_cons <| ev_isx (i := 2) (G.is_ tw) hz hf2 rfl T.n_isinstance boot_isinstance rfl rfl (.inl rfl) (cv := .ref Er.cBadPath) <| ev_glob (v := .ref Er.cBadPath) (d := .ref Er.cBadPath) rfl Er.tBadPath.gC rfl (fun _ _ => rfl) <| ⟨rfl, fun _ _ _ _ r h => rel_ref r h, G.k5 tw, ?_⟩
      refine ea_cons <| ev_isx (i := 2) (G.is_ tw) hz hf2 rfl T.n_isinstance boot_isinstance rfl rfl (.inl rfl) (cv := .ref Er.cBadNumber) <| ev_glob (v := .ref Er.cBadNumber) (d := .ref Er.cBadNumber) rfl Er.tBadNumber.gC rfl (fun _ _ => rfl) <| ⟨rfl, fun _ _ _ _ r h => rel_ref r h, G.k6 tw, ?_⟩
      refine ea_cons <| ev_isx (i := 2) (G.is_ tw) hz hf2 rfl T.n_isinstance boot_isinstance rfl rfl (.inl rfl) (cv := .ref Er.cTooMany) <| ev_glob (v := .ref Er.cTooMany) (d := .ref Er.cTooMany) rfl Er.tTooMany.gC rfl (fun _ _ => rfl) <| ⟨rfl, fun _ _ _ _ r h => rel_ref r h, G.k7 tw, ea_nil <| xa (leb rfl) <| d_cat (leb rfl) <| xa (ltb rfl) <| sv_nil rfl⟩
    subst hJ
    exact sv_cons <| s_ret <| ev_name (i := 1) rfl rfl (.inl rfl) h
end
end K00
end

section
set_option maxRecDepth 100000
set_option maxHeartbeats 1000000
namespace K00
open PySem PySem.Spec L2 DL
open PyProof.Rows (boot_int boot_abs boot_list boot_max boot_min boot_range boot_all boot_tuple boot_sorted boot_isinstance boot_enumerate)
theorem plain_str {k : Nat} {x : Str} : Plain k (.str x) := by cases k <;> trivial
theorem plain_strs {k : Nat} {ss : List Str} (h : ss.length ≤ 1000) : Plain (k + 1) (.tup (ss.map .str)) := by
  refine ⟨by rw [List.length_map]; exact h, fun d hd => ?_⟩
  obtain ⟨s, _, rfl⟩ := List.mem_map.mp hd
  exact plain_str
theorem plain_way {k : Nat} {w : Way} : Plain (k + 1) (wayD w) := ⟨leb rfl, fun d hd => by
  rcases List.mem_cons.mp hd with rfl | hd
  · exact plain_str
  rcases List.mem_cons.mp hd with rfl | hd
  · exact plain_str
  rcases List.mem_cons.mp hd with rfl | hd
  · exact plain_str
  nomatch hd⟩
theorem sortS_len {ss : List Str} : (sortS ss).length = ss.length := (sortR_perm _ ss).length_eq
theorem plain_ways {k : Nat} {ws : List Way} (h : ws.length ≤ 1000) : Plain (k + 2) (.tup ((pathsOf ws).map wayD)) := by
  refine ⟨?_, fun d hd => ?_⟩
  · rw [List.length_map, pathsOf, (sortR_perm _ _).length_eq, List.length_map]; exact h
  · obtain ⟨w, _, rfl⟩ := List.mem_map.mp hd
    exact plain_way
theorem plain_signs {qs : List Post'} (h : qs.length ≤ 1000) (hq : ∀ q ∈ qs, q.2.1.length ≤ 1000 ∧ q.2.2.length ≤ 1000) : Plain 3 (.tup ((signsOf qs).map signD)) := by
  refine ⟨?_, fun d hd => ?_⟩
  · rw [List.length_map, signsOf, (sortR_perm _ _).length_eq, List.length_map]; exact h
  · obtain ⟨z, hz, rfl⟩ := List.mem_map.mp hd
    obtain ⟨q, mq, rfl⟩ := List.mem_map.mp ((sortR_perm _ _).mem_iff.mp hz)
    obtain ⟨h1, h2⟩ := hq q mq
    refine ⟨leb rfl, fun d hd => ?_⟩
    rcases List.mem_cons.mp hd with rfl | hd
    · exact plain_str
    rcases List.mem_cons.mp hd with rfl | hd
    · exact plain_strs (by show (sortS q.2.1).length ≤ 1000; rw [sortS_len]; exact h1)
    rcases List.mem_cons.mp hd with rfl | hd
    · exact plain_strs (by show (sortS q.2.2).length ≤ 1000; rw [sortS_len]; exact h2)
    nomatch hd
theorem plain_fault {tw : Bool} {s : Str} : Plain 3 (faultD (some (tw, s))) := ⟨leb rfl, fun d hd => by
  rcases List.mem_cons.mp hd with rfl | hd
  · exact plain_str
  rcases List.mem_cons.mp hd with rfl | hd
  · exact plain_str
  nomatch hd⟩
theorem field_small {F : Fld} (h : FldOk 3 5 3 5 5 F) : F.spots.length ≤ 5 ∧ F.folk.length ≤ 3 ∧ F.ways.length ≤ 5 ∧ F.posts.length ≤ 5 := by
  have h1 := h.spots.2.2
  have h2 := h.folk.2.2
  have h3 := h.ways.2
  have h4 := h.posts.2
  exact ⟨by omega, by omega, by omega, by omega⟩
theorem spo_len {F0 F : Fld} (h : Handed F0 F) : F.spots.length ≤ 5 ∧ F.folk.length ≤ 3 ∧ F.ways.length ≤ 5 ∧ F.posts.length ≤ 5 := by
  obtain ⟨a, b, c, d⟩ := field_small h.1
  have e1 := h.2.spots.2
  have e2 := h.2.folk.2
  have e3 := congrArg List.length h.2.ways.2
  have e4 := congrArg List.length h.2.posts.2
  rw [List.length_map, List.length_map] at e3 e4
  exact ⟨by omega, by omega, by omega, by omega⟩
theorem spo_grp {F0 F : Fld} (h : Handed F0 F) : ∀ g ∈ GRP, (grp F g).length ≤ 1000 := fun g hg => by
  obtain ⟨a, b, c, d⟩ := spo_len h
  rw [← nms_len]
  rcases List.mem_cons.mp hg with rfl | hg
  · show F.spots.length ≤ 1000; omega
  rcases List.mem_cons.mp hg with rfl | hg
  · show F.folk.length ≤ 1000; omega
  rcases List.mem_cons.mp hg with rfl | hg
  · show (F.ways.map (·.1)).length ≤ 1000; rw [List.length_map]; omega
  rcases List.mem_cons.mp hg with rfl | hg
  · show (F.posts.map (·.1)).length ≤ 1000; rw [List.length_map]; omega
  nomatch hg
theorem spo_groups {F0 F : Fld} (h : Handed F0 F) : ∀ ns ∈ nameGroups F, ns.length ≤ 1000 := fun ns hm => by
  obtain ⟨a, b, c, d⟩ := spo_len h
  rcases List.mem_cons.mp hm with rfl | hm
  · omega
  rcases List.mem_cons.mp hm with rfl | hm
  · omega
  rcases List.mem_cons.mp hm with rfl | hm
  · rw [List.length_map]; omega
  rcases List.mem_cons.mp hm with rfl | hm
  · rw [List.length_map]; omega
  nomatch hm
theorem spo_spots {F0 F : Fld} (h : Handed F0 F) : F.spots ≠ [] := fun e => by
  have e1 := h.2.spots.2
  rw [e] at e1
  exact h.1.spots.2.1 (List.length_eq_zero_iff.mp e1.symm)
section
variable {P : Program} {w : World} {K : PySem.W.Frag} {mg : Str → Option Value} {base : Heap} {f : Addr} {fd : FuncData} (Er : Errs P w K mg base) (cM : Addr)
def SLaw : Sv := fun ds Φ _ => ∃ ns : List Int, ds = [.rlst (ns.map .int)] ∧ ns.length ≤ 63 ∧ Φ (.bl true)
abbrev nLaw : List Str := ["script", "pool", "data", "turn", "due", "kinds", "meadow", "ways_due", "row", "posts_due"]
theorem scLaw : FnScope nLaw ["script"] (defScope S_law) := ⟨rfl, rfl, rfl, by decide +kernel, rfl, by decide +kernel, by decide +kernel⟩
structure MeadowK (K : PySem.W.Frag) (cM : Addr) : Prop where
  cl : Cls K cM
  n1 : NoAttr K cM "places"
  n2 : NoAttr K cM "walkers"
  n3 : NoAttr K cM "paths"
  n4 : NoAttr K cM "signs"
theorem shp_kinds (tw : Bool) : Shp (kindsD tw) := by cases tw <;> rfl
theorem ok_law (MK : MeadowK K cM) (T : Txt mg) (F : FunT K "law" S_law f fd) (C_law_pool : Fd P w K mg base 1 "_law_pool" ["script"] (spN K SPool)) (C_law_field : Fd P w K mg base 5 "_law_field" ["pool", "most"] (spC K SField)) (C_law_draw : Fd P w K mg base 2 "_law_draw" ["pool", "limit"] (spC K SDraw))
    (C_law_shared : Fd P w K mg base 1 "_law_shared" ["data"] (spV K SShared)) (C_law_spoilt : Fd P w K mg base 5 "_law_spoilt" ["pool", "data"] (spC K SSpoilt)) (C_law_first_fault : Fd P w K mg base 2 "_law_first_fault" ["data"] (spV K SFault)) (C_law_same : Fd P w K mg base 4 "_law_same" ["told", "due"] (spV K (SSame 3)))
    (C_law_refusal : Fd P w K mg base 11 "_law_refusal" ["data"] (spV K SRefusal)) (C_law_kinds : Fd P w K mg base 11 "_law_kinds" ["data"] (spV K SKinds)) (C_law_made : Fd P w K mg base 10 "_law_made" ["data"] (spV K (SMade Er cM))) : FnD P w K mg base 12 f fd ["script"] (spV K SLaw) := by
  refine fn_V F scLaw 1 rfl (by decide) (fun ds Φ Ψ h => ?_) (fun f cdv A outer s H E hr c ds Φ Ψ h => ?_)
  · obtain ⟨_, rfl, _⟩ := h
    rfl
  · obtain ⟨ns, rfl, hl, h⟩ := h
    have hu : (cxOf (CX P w) P w K mg base nLaw "law" (defScope S_law) f cdv A outer s H E).A.units + 64 < cLine := hr.units
    refine sv_cons <| s_own (i := 1) rfl (.inl rfl) c.nd <| ef_c C_law_pool (hr.mono (by decide)) rfl c.takes <| ea_cons <| ev_name (i := 0) rfl rfl (.inl rfl) <| ea_nil <| ⟨ns, rfl, hl, fun pd hpd => xa (ltb rfl) fun p hp => ?_⟩
    refine sv_cons <| s_set (i := 2) rfl (.inl rfl) c.nd <| ev_cC (i := 1) C_law_field (hr.mono (by decide)) rfl c.takes rfl rfl (.inl rfl) <| ea_cons <| ev_lst <| ea_cons <| ev_int <| ea_cons <| ev_int <| ea_cons <| ev_int <| ea_cons <| ev_int <| ea_cons <| ev_int <| ea_nil <| xa (leb rfl) <| ea_nil <| xo rfl <| ⟨hpd, 3, 5, 3, 5, 5, rfl, by decide, fun F1 c1 hF1 hp1 => xa (ltb rfl) ?_⟩
    refine sv_cut (fun G => ∃ c' F2, G = [.ok (.rlst (ns.map .int)), .own p c', .ok (Fld.d F2), .un, .un, .un, .un, .un, .un, .un] ∧ PoolOk c' ∧ FldOk 3 5 3 5 5 F2)
      (s_if <| et_cmp <| ev_cC (i := 1) C_law_draw (hr.mono (by decide)) rfl c.takes rfl rfl (.inl rfl) <| ea_cons <| ev_int <| ea_nil <| xo rfl <| use_draw hp1 (by decide) fun r c2 _ _ hp2 => ev_int <| d_eqi <| xo rfl <| ⟨fun _ => ?_, fun _ => sv_nil ⟨c2, F1, rfl, hp2, hF1⟩⟩) (fun G hJ => ?_)
    · exact sv_cons <| s_set (i := 2) rfl (.inl rfl) c.nd <| ev_c C_law_shared (hr.mono (by decide)) rfl c.takes <| ea_cons <| ev_name (i := 2) (d := Fld.d F1) rfl rfl (.inl rfl) <| ea_nil <| ⟨3, 5, 3, 5, 5, F1, rfl, hF1, by decide, fun F' hF' => xa (ltb rfl) <| sv_nil ⟨c2, F', rfl, hp2, hF'⟩⟩
    obtain ⟨c2, F2, rfl, hp2, hF2⟩ := hJ
    -- spoilt
    refine sv_cut (fun G => ∃ c' F y, G = [.ok (.rlst (ns.map .int)), .own p c', .ok (Fld.d F), y, .un, .un, .un, .un, .un, .un] ∧ PoolOk c' ∧ Handed F2 F)
      (s_for c <| ei_range1 rfl T.n_range <| ev_cC (i := 1) C_law_draw (hr.mono (by decide)) rfl c.takes rfl rfl (.inl rfl) <| ea_cons <| ev_int <| ea_nil <| xo rfl <| use_draw hp2 (by decide) fun r c3 r0 r1 hp3 => ⟨_, rfl, by omega, by omega, ?_⟩) (fun G hJ => ?_)
    · refine ⟨fun _ => ⟨fun i G => ∃ c' F y, G = [.ok (.rlst (ns.map .int)), .own p c', .ok (Fld.d F), y, .un, .un, .un, .un, .un, .un] ∧ PoolOk c' ∧ Handed F2 F, ⟨c3, F2, _, rfl, hp3, hF2, spo_refl hF2⟩, fun i d G hd hT => ⟨[3], gv_name (i := 3) (by decide) rfl ?_ (.inl rfl) c.nd ?_⟩, fun G hT => hT⟩⟩
      · obtain ⟨_, _, _, rfl, _⟩ := hT
        exact ltb rfl
      · obtain ⟨c4, F, y, rfl, hp4, hH⟩ := hT
        exact sv_cons <| s_set (i := 2) rfl (.inl rfl) c.nd <| ev_cC (i := 1) C_law_spoilt (hr.mono (by decide)) rfl c.takes rfl rfl (.inl rfl) <| ea_cons <| ev_name (i := 2) (d := Fld.d F) rfl rfl (.inl rfl) <| ea_nil <| xo rfl <| ⟨hp4, F2, F, rfl, hH.2, spo_spots hH, spo_grp hH, fun F' c' hS hp' => xa (ltb rfl) <| sv_nil ⟨c', F', _, rfl, hp', hH.1, hS⟩⟩
    obtain ⟨c3, F3, y3, rfl, hp3, hH⟩ := hJ
    -- due
    refine sv_cons <| s_set (i := 4) rfl (.inl rfl) c.nd <| ev_c C_law_first_fault (hr.mono (by decide)) rfl c.takes <| ea_cons <| ev_name (i := 2) (d := Fld.d F3) rfl rfl (.inl rfl) <| ea_nil <| ⟨F3, rfl, hH.2.words, spo_groups hH, fun o ho => xa (ltb rfl) ?_⟩
    cases o with
    | some o =>
      obtain ⟨tw, s0⟩ := o
      refine sv_cons <| s_if <| et_cmp <| ev_name (i := 4) (d := faultD (some (tw, s0))) rfl rfl (.inl rfl) <| ev_non <| d_notN <| xo rfl <| ⟨fun _ => ?_, fun z => (nomatch z)⟩
      have e1 : decide ((if tw = true then ("twice" : Str) else "name") = "name") = !tw := by cases tw <;> decide +kernel
      have e2 : decide ((if tw = true then ("twice" : Str) else "name") = "twice") = tw := by cases tw <;> decide +kernel
      refine sv_cons <| s_set (i := 5) rfl (.inl rfl) c.nd <| ev_lst <| ea_cons <| ev_bl <| ea_cons <| ev_cmp <| ev_ix <| ev_name (i := 4) (d := faultD (some (tw, s0))) rfl rfl (.inl rfl) <| ev_int <| ix_t (L2.atI_nat (j := 0) rfl) <| ev_str <| d_eqs <| ea_cons <| ev_cmp <| ev_ix <| ev_name (i := 4) (d := faultD (some (tw, s0))) rfl rfl (.inl rfl) <| ev_int <| ix_t (L2.atI_nat (j := 0) rfl) <| ev_str <| d_eqs <| ea_cons <| ev_bl <| ea_cons <| ev_bl <| ea_cons <| ev_bl <| ea_cons <| ev_bl <| ea_nil <| xa (leb rfl) <| xa (ltb rfl) ?_
      rw [e1, e2]
      refine sv_cons <| s_ret <| ev_and <| ev_c C_law_same (hr.mono (by decide)) rfl c.takes <| ea_cons <| ev_c C_law_refusal (hr.mono (by decide)) rfl c.takes <| ea_cons <| ev_name (i := 2) (d := Fld.d F3) rfl rfl (.inl rfl) <| ea_nil <| ⟨F2, F3, tw, s0, rfl, hH, ho, ea_cons <| ev_name (i := 4) (d := faultD (some (tw, s0))) rfl rfl (.inl rfl) <| ea_nil <| ⟨faultD (some (tw, s0)), rfl, plain_fault, _, rfl, fun _ => ?_, fun z => (nomatch z)⟩⟩
      refine ev_one <| ev_cmp <| ev_c C_law_kinds (hr.mono (by decide)) rfl c.takes <| ea_cons <| ev_name (i := 2) (d := Fld.d F3) rfl rfl (.inl rfl) <| ea_nil <| ⟨F2, F3, tw, s0, rfl, hH, ho, ev_name (i := 5) (d := kindsD tw) rfl rfl (.inl rfl) <| d_eqD hu (shp_kinds tw) (shp_kinds tw) ?_⟩
      rw [SeqAt.eqv_refl _ (shp_kinds tw).lay]
      exact h
    | none =>
      have e : F3 = F2 := handed_same hH ho
      obtain ⟨l1, l2, l3, l4⟩ := spo_len hH
      have hok : FldOk 3 5 3 5 5 F3 := e ▸ hF2
      refine sv_cons <| s_if <| et_cmp <| ev_name (i := 4) (d := .non) rfl rfl (.inl rfl) <| ev_non <| d_notN <| xo rfl <| ⟨fun z => (nomatch z), fun _ => sv_nil ?_⟩
      refine sv_cons <| s_set (i := 6) rfl (.inl rfl) c.nd <| ev_c C_law_made (hr.mono (by decide)) rfl c.takes <| ea_cons <| ev_name (i := 2) (d := Fld.d F3) rfl rfl (.inl rfl) <| ea_nil <| ⟨F2, F3, rfl, hH, fun tw s2 hf => (none_some ho hf).elim, fun _ fs hfs => xa (ltb rfl) ?_⟩
      obtain ⟨f1, f2, f3, f4⟩ := hfs
      -- ways_due
      refine sv_cons <| s_set (i := 7) rfl (.inl rfl) c.nd <| ev_b1 rfl T.n_sorted boot_sorted <| er_ev <| EF.ev <| ef_lc c [("row", 8)] [] (lcOk1 (blkOk_by (N := nLaw) (sc := defScope S_law) (by decide +kernel)) (fun _ => rfl) (fun _ _ _ _ _ _ => rfl)) <| ei_lst <| ev_ix <| ev_name (i := 2) (d := Fld.d F3) rfl rfl (.inl rfl) <| ev_int <| ix_l (d := .lst (F3.ways.map wayD)) rfl <| xo rfl ?_
      refine clp_map wayD (fun w : Way => wayD (normW w)) F3.ways (fun w => [.ok (.rlst (ns.map .int)), .own p c3, .ok (Fld.d F3), y3, .ok .non, .un, .ok (.ins cM fs), .un, .ok (wayD w), .un]) (by omega) (fun Y hY v Φ h => ?_) (fun a => rfl) (fun Y hY v ha Φ h => ?_) ?_
      · obtain ⟨_, _, _, _, _, rfl⟩ := hY
        exact gv_name (i := 8) (by decide) rfl (ltb rfl) (.inl rfl) c.nd h
      · have cY := ctx_blk c hY
        obtain ⟨_, _, _, _, _, rfl⟩ := hY
        exact ev_tup <| ea_cons <| ev_ix <| ev_name (i := 8) rfl rfl (.inl rfl) <| ev_int <| ix_t rfl <| ea_cons <| ev_bn rfl T.n_min boot_min <| ea_cons <| ev_ix <| ev_name (i := 8) rfl rfl (.inl rfl) <| ev_int <| ix_t rfl <| ea_cons <| ev_ix <| ev_name (i := 8) rfl rfl (.inl rfl) <| ev_int <| ix_t rfl <| ea_nil <| c_min2S cY.calm <|
          ea_cons <| ev_bn rfl T.n_max boot_max <| ea_cons <| ev_ix <| ev_name (i := 8) rfl rfl (.inl rfl) <| ev_int <| ix_t rfl <| ea_cons <| ev_ix <| ev_name (i := 8) rfl rfl (.inl rfl) <| ev_int <| ix_t rfl <| ea_nil <| c_max2S cY.calm <| ea_nil <| xa (leb rfl) h
      rw [show (F3.ways.map fun w : Way => wayD (normW w)) = (F3.ways.map normW).map wayD by rw [List.map_map]; rfl]
      refine c_sortedRf (as := F3.ways.map normW) kW (fun w : Way => [D.str w.2.1, D.str w.2.2]) 1 2 (by decide) (fun _ _ => ⟨rfl, rfl⟩) (nodup_one (f := fun w : Way => w.1) (by rw [List.map_map]; exact hok.ways.1.1.1)) <| xa (ltb rfl) ?_
      -- posts_due
      have hpost : ∀ q ∈ F3.posts, q.2.1.Nodup ∧ q.2.1.length < 64 ∧ q.2.2.Nodup ∧ q.2.2.length < 64 := fun q hq => by
        obtain ⟨⟨_, p2⟩, _, p4⟩ := hok.posts.1.2 q hq
        have a := p2.length_le
        have b := p4.length_le
        rw [List.length_map] at b
        exact ⟨p2.nodup hok.folk.1.1, by omega, p4.nodup hok.ways.1.1.1, by omega⟩
      refine sv_cons <| s_set (i := 9) rfl (.inl rfl) c.nd <| ev_b1 rfl T.n_sorted boot_sorted <| er_ev <| EF.ev <| ef_lc c [("row", 8)] [] (lcOk1 (blkOk_by (N := nLaw) (sc := defScope S_law) (by decide +kernel)) (fun _ => rfl) (fun _ _ _ _ _ _ => rfl)) <| ei_lst <| ev_ix <| ev_name (i := 2) (d := Fld.d F3) rfl rfl (.inl rfl) <| ev_int <| ix_l (d := .lst (F3.posts.map postD)) rfl <| xo rfl ?_
      refine clp_map postD (fun q : Post' => signD (normQ q)) F3.posts (fun q => [.ok (.rlst (ns.map .int)), .own p c3, .ok (Fld.d F3), y3, .ok .non, .un, .ok (.ins cM fs), .ok (.lst ((pathsOf F3.ways).map wayD)), .ok (postD q), .un]) (by omega) (fun Y hY v Φ h => ?_) (fun a => rfl) (fun Y hY v ha Φ h => ?_) ?_
      · obtain ⟨_, _, _, _, _, rfl⟩ := hY
        exact gv_name (i := 8) (by decide) rfl (ltb rfl) (.inl rfl) c.nd h
      · obtain ⟨_, _, _, _, _, rfl⟩ := hY
        obtain ⟨a2, a3, b2, b3⟩ := hpost v ha
        exact ev_tup <| ea_cons <| ev_ix <| ev_name (i := 8) rfl rfl (.inl rfl) <| ev_int <| ix_t rfl <| ea_cons <| ev_t1 rfl T.n_tuple boot_tuple <| er_ev <| ev_b1 rfl T.n_sorted boot_sorted <| er_ev <| ev_ix <| ev_name (i := 8) rfl rfl (.inl rfl) <| ev_int <| ix_t (d := .lst (v.2.1.map .str)) rfl <| c_sortedSf a3 a2 <| c_tuple_l <|
          ea_cons <| ev_t1 rfl T.n_tuple boot_tuple <| er_ev <| ev_b1 rfl T.n_sorted boot_sorted <| er_ev <| ev_ix <| ev_name (i := 8) rfl rfl (.inl rfl) <| ev_int <| ix_t (d := .lst (v.2.2.map .str)) rfl <| c_sortedSf b3 b2 <| c_tuple_l <| ea_nil <| xa (leb rfl) h
      rw [show (F3.posts.map fun q : Post' => signD (normQ q)) = (F3.posts.map normQ).map signD by rw [List.map_map]; rfl]
      refine c_sortedRf (as := F3.posts.map normQ) kQ (fun q : Str × List Str × List Str => [D.tup (q.2.1.map .str), D.tup (q.2.2.map .str)]) 1 2 (by decide) (fun _ _ => ⟨rfl, rfl⟩) (nodup_one (f := fun q : Str × List Str × List Str => q.1) (by rw [List.map_map]; exact hok.posts.1.1.1)) <| xa (ltb rfl) ?_
      -- places, walkers
      refine sv_cons <| s_if <| et_w <| ew_or <| et_not <| et_val <| ev_c C_law_same (hr.mono (by decide)) rfl c.takes <| ea_cons <| ev_fld MK.cl MK.n1 <| ev_name (i := 6) rfl rfl (.inl rfl) <| ⟨fs, _, rfl, f1, ea_cons <| ev_t1 rfl T.n_tuple boot_tuple <| er_ev <| ev_b1 rfl T.n_sorted boot_sorted <| er_ev <| ev_ix <| ev_name (i := 2) (d := Fld.d F3) rfl rfl (.inl rfl) <| ev_int <| ix_l (d := .lst (F3.spots.map .str)) rfl <| c_sortedSf (by omega) hok.spots.1.1 <| c_tuple_l <| ea_nil <| ⟨_, rfl, plain_strs (by rw [sortS_len]; omega), xo rfl <| ⟨fun z => (nomatch z), fun _ => ?_⟩⟩⟩
      refine ew_or1 <| et_not <| et_val <| ev_c C_law_same (hr.mono (by decide)) rfl c.takes <| ea_cons <| ev_fld MK.cl MK.n2 <| ev_name (i := 6) rfl rfl (.inl rfl) <| ⟨fs, _, rfl, f2, ea_cons <| ev_t1 rfl T.n_tuple boot_tuple <| er_ev <| ev_b1 rfl T.n_sorted boot_sorted <| er_ev <| ev_ix <| ev_name (i := 2) (d := Fld.d F3) rfl rfl (.inl rfl) <| ev_int <| ix_l (d := .lst (F3.folk.map .str)) rfl <| c_sortedSf (by omega) hok.folk.1.1 <| c_tuple_l <| ea_nil <| ⟨_, rfl, plain_strs (by rw [sortS_len]; omega), xo rfl <| ⟨fun z => (nomatch z), fun _ => sv_nil ?_⟩⟩⟩
      refine sv_cons <| s_ret <| ev_and <| ev_c C_law_same (hr.mono (by decide)) rfl c.takes <| ea_cons <| ev_fld MK.cl MK.n3 <| ev_name (i := 6) rfl rfl (.inl rfl) <| ⟨fs, _, rfl, f3, ea_cons <| ev_t1 rfl T.n_tuple boot_tuple <| er_ev <| ev_name (i := 7) (d := .lst ((pathsOf F3.ways).map wayD)) rfl rfl (.inl rfl) <| c_tuple_l <| ea_nil <| ⟨_, rfl, plain_ways (by omega), _, rfl, fun _ => ?_, fun z => (nomatch z)⟩⟩
      refine ev_one <| ev_c C_law_same (hr.mono (by decide)) rfl c.takes <| ea_cons <| ev_fld MK.cl MK.n4 <| ev_name (i := 6) rfl rfl (.inl rfl) <| ⟨fs, _, rfl, f4, ea_cons <| ev_t1 rfl T.n_tuple boot_tuple <| er_ev <| ev_name (i := 9) (d := .lst ((signsOf F3.posts).map signD)) rfl rfl (.inl rfl) <| c_tuple_l <| ea_nil <| ⟨_, rfl, plain_signs (by omega) (fun q hq => ?_), h⟩⟩
      obtain ⟨_, a3, _, b3⟩ := hpost q hq
      exact ⟨by omega, by omega⟩
end
end K00
end

section
set_option maxRecDepth 100000
set_option maxHeartbeats 1000000
namespace K00
open PySem PySem.Spec L2 DL
open PyProof.Rows (boot_int boot_abs boot_list boot_max boot_min boot_range boot_all boot_tuple boot_sorted boot_isinstance boot_enumerate)
section
variable {P : Program} {w : World} {K : PySem.W.Frag} {mg : Str → Option Value} {base : Heap} {f : Addr} {fd : FuncData} (Er : Errs P w K mg base) (cM : Addr)
/-- what Meadow.__init__ owes -/
def SInit : Sc := fun c ds Φ Ψ => ∃ F0 F : Fld, c = .ins cM [] ∧ ds = [.int F.hours, .lst (F.spots.map .str), .lst (F.folk.map .str), .lst (F.ways.map wayD), .lst (F.shut.map gateD), .lst (F.posts.map postD)] ∧ Handed F0 F ∧
  (∀ tw s, FirstFault (nameGroups F) (some (tw, s)) → ∀ c', Ψ (cls Er tw) [("name", .str s)] c') ∧ (F = F0 → ∀ fs, MeadowFs F fs → Φ .non (.ins cM fs))
abbrev psInit : List Str := ["self", "hours", "places", "walkers", "paths", "gates", "signs"]
structure InitFd (k : Nat) : Prop where
  of : ∃ fi fdi g gV, Mk K cM fi ∧ FnD P w K mg base k fi fdi psInit (spC K (SInit Er cM)) ∧ mg "Meadow" = some (.ref cM) ∧ KBn K fdi psInit 5 ["gates", "signs"] g gV ∧ ∀ (a : Addr) (vs zs : List V), gV (.ref a :: vs) zs = .ref a :: (vs ++ zs)
abbrev nMade : List Str := ["data", "posts", "row"]
theorem scMade : FnScope nMade ["data"] (defScope S__law_made) := ⟨rfl, rfl, rfl, by decide +kernel, rfl, by decide +kernel, by decide +kernel⟩
theorem ok_made (F : FunT K "_law_made" S__law_made f fd) (T : Txt mg) (IF : InitFd (P := P) (w := w) (base := base) Er cM 8) : FnD P w K mg base 10 f fd ["data"] (spV K (SMade Er cM)) := by
  refine fn_V F scMade 1 rfl (by decide) (fun ds Φ Ψ h => ?_) (fun f cdv A outer s H E hr c ds Φ Ψ h => ?_)
  · obtain ⟨_, _, rfl, _⟩ := h
    rfl
  · obtain ⟨F0, F1, rfl, hh, h1, h2⟩ := h
    obtain ⟨fi, fdi, g, gV, mk, fn, gM, kb, hgV⟩ := IF.of
    obtain ⟨l1, l2, l3, l4⟩ := spo_len hh
    refine sv_cons <| s_setLc (i := 1) c [("row", 2)] [] (lcOk1 (blkOk_by (N := nMade) (sc := defScope S__law_made) (by decide +kernel)) (fun _ => rfl) (fun _ _ _ _ _ _ => rfl)) rfl rfl (sw_true rfl rfl rfl (by decide +kernel)) <| ei_lst <| ev_ix <| ev_name (i := 0) (d := Fld.d F1) rfl rfl (.inl rfl) <| ev_int <| ix_l (d := .lst (F1.posts.map postD)) rfl <| xo rfl ?_
    refine clp_map postD postD F1.posts (fun q => [.ok (Fld.d F1), .un, .ok (postD q)]) (by omega) (fun Y hY v Φ h => ?_) (fun a => rfl) (fun Y hY v ha Φ h => ?_) ?_
    · obtain ⟨_, _, _, _, _, rfl⟩ := hY
      exact gv_name (i := 2) (by decide) rfl (ltb rfl) (.inl rfl) c.nd h
    · obtain ⟨_, _, _, _, _, rfl⟩ := hY
      exact ev_tup <| ea_cons <| ev_ix <| ev_name (i := 2) rfl rfl (.inl rfl) <| ev_int <| ix_t rfl <| ea_cons <| ev_t1 rfl T.n_list boot_list <| er_ev <| ev_ix <| ev_name (i := 2) rfl rfl (.inl rfl) <| ev_int <| ix_t (d := .lst (v.2.1.map .str)) rfl <| c_list_l <|
        ea_cons <| ev_t1 rfl T.n_list boot_list <| er_ev <| ev_ix <| ev_name (i := 2) rfl rfl (.inl rfl) <| ev_int <| ix_t (d := .lst (v.2.2.map .str)) rfl <| c_list_l <| ea_nil <| xa (leb rfl) h
    refine xa (ltb rfl) <| sv_cons <| s_ret <| EF.ev <| ef_make mk fn hr rfl gM kb hgV c.takes <| ea_cons <| ev_ix <| ev_name (i := 0) (d := Fld.d F1) rfl rfl (.inl rfl) <| ev_int <| ix_l (d := .int F1.hours) rfl <|
      ea_cons <| ev_t1 rfl T.n_list boot_list <| er_ev <| ev_ix <| ev_name (i := 0) (d := Fld.d F1) rfl rfl (.inl rfl) <| ev_int <| ix_l (d := .lst (F1.spots.map .str)) rfl <| c_list_l <|
      ea_cons <| ev_t1 rfl T.n_list boot_list <| er_ev <| ev_ix <| ev_name (i := 0) (d := Fld.d F1) rfl rfl (.inl rfl) <| ev_int <| ix_l (d := .lst (F1.folk.map .str)) rfl <| c_list_l <|
      ea_cons <| ev_t1 rfl T.n_list boot_list <| er_ev <| ev_ix <| ev_name (i := 0) (d := Fld.d F1) rfl rfl (.inl rfl) <| ev_int <| ix_l (d := .lst (F1.ways.map wayD)) rfl <| c_list_l <| ea_nil <|
      ek_cons <| ev_t1 rfl T.n_list boot_list <| er_ev <| ev_ix <| ev_name (i := 0) (d := Fld.d F1) rfl rfl (.inl rfl) <| ev_int <| ix_l (d := .lst (F1.shut.map gateD)) rfl <| c_list_l <|
      ek_cons <| ev_name (i := 1) rfl rfl (.inl rfl) <| ek_nil <| ⟨rfl, rfl, F0, F1, rfl, rfl, hh, fun tw s0 hf c' => h1 tw s0 hf, fun e fs hfs => ⟨rfl, h2 e fs hfs⟩⟩
end
end K00
end

section
set_option maxRecDepth 100000
set_option maxHeartbeats 1000000
namespace DL
open PySem PySem.Spec L2
/-- what is known of a method -/
structure Md (P : Program) (w : World) (K : PySem.W.Frag) (mg : Str → Option Value) (base : Heap) (C : Addr) (k : Nat) (m : Str) (ps : List Str) (sp : Sp) : Prop where
  of : ∃ f fd, Meth K C m f ∧ FnD P w K mg base k f fd ps sp ∧ Binds K fd ps []
section
variable {X : Cx} {W : WX} {Γ : List Sl} {Φ : D → List Sl → Prop} {Ψ : Ex} {k : Nat} {C : Addr} {ps : List Str} {m : Str} {apos pos : Pos} {e o : Expr} {es : List Expr} {S : Sv}
theorem ev_mt {pl : Sem Bool} (cl : Cls X.K C) (md : Md X.prog X.w X.K X.mg X.base C k m ps (spV X.K S)) (room : Room k X.A) (tk : Takes X W)
    (h : EV X W Γ o (fun d Γ1 => ∃ fs, d = .ins C fs ∧ fs.lookup m = none ∧ EA X W Γ1 (e :: es) (fun ds Γ2 => S (.ins C fs :: ds) (fun d => Φ d Γ2) (fun C fs => Ψ C fs Γ2)) Ψ) Ψ)
    (st : starEach (e :: es) X.env = (false, eval e X.env) :: starEach es X.env := by rfl) (np : (backTo pos (starEach es X.env)).any (·.1) = false := by rfl)
    (cut : eval (.Call (.Attribute o m apos) (e :: es) [] pos) X.env = (eval o X.env >>= fun y => standAt apos.atName >>= fun _ => holding [y] (getMethod y m pl) >>= fun z => callWith pos z.1 z.2 (backTo pos (starEach (e :: es) X.env)) (backToKw pos (keywordEach [] X.env))) := by rfl) :
    EV X W Γ (.Call (.Attribute o m apos) (e :: es) [] pos) Φ Ψ := by
  obtain ⟨f, fd, mt, F, bd⟩ := md.of
  exact ev_meth cl mt F room bd tk h st np cut
end
end DL
namespace K00
open PySem PySem.Spec L2 DL
open PyProof.Rows (boot_int boot_abs boot_list boot_max boot_min boot_range boot_all boot_tuple boot_sorted boot_isinstance boot_enumerate)
/-! ### a meadow's tables -/
abbrev fld (fs : List (Str × D)) (f : Str) : Option D := fs.lookup f
theorem lookup_put {f : Str} {d : D} : ∀ {fs : List (Str × D)}, fld (putFD f d fs) f = some d
  | [] => by
    show List.lookup f [(f, d)] = _
    rw [List.lookup_cons, beq_self_eq_true]
  | (g, e) :: r => by
    unfold putFD
    by_cases c : g = f
    · rw [if_pos c]
      show List.lookup f ((f, d) :: r) = _
      rw [List.lookup_cons, beq_self_eq_true]
    · rw [if_neg c]
      show List.lookup f ((g, e) :: putFD f d r) = _
      rw [List.lookup_cons, show (f == g) = false from beq_eq_false_iff_ne.mpr fun z => c z.symm]
      exact lookup_put
theorem lookup_put_ne {f g : Str} {d : D} (n : f ≠ g) : ∀ {fs : List (Str × D)}, fld (putFD g d fs) f = fld fs f
  | [] => by
    show List.lookup f [(g, d)] = List.lookup f []
    rw [List.lookup_cons, show (f == g) = false from beq_eq_false_iff_ne.mpr n]
  | (h, e) :: r => by
    unfold putFD
    by_cases c : h = g
    · rw [if_pos c]
      show List.lookup f ((g, d) :: r) = List.lookup f ((h, e) :: r)
      rw [List.lookup_cons, List.lookup_cons, c, show (f == g) = false from beq_eq_false_iff_ne.mpr n]
    · rw [if_neg c]
      show List.lookup f ((h, e) :: putFD g d r) = List.lookup f ((h, e) :: r)
      rw [List.lookup_cons, List.lookup_cons]
      cases f == h with
      | true => rfl
      | false => exact lookup_put_ne n
abbrev Sgn := Str × List Str × List Str
abbrev Going := Int × Str × Str × Str
def goingD (g : Going) : D := .tup [.int g.1, .str g.2.1, .str g.2.2.1, .str g.2.2.2]
def goingL (g : Going) : List NestedKey := [.num g.1, .text g.2.1, .text g.2.2.1, .text g.2.2.2]
def OLDg : Going := (0, "", "", "")
def kPair (p : Str × Str) : List Key := [.inr p.1, .inr p.2]
def endsT (ws : List Way) : List (Key × D) := ws.map fun w => (.inr w.1, .tup [.str w.2.1, .str w.2.2])
def gateOf (hours : Int) (gs : List Gate) (p : Str × Str) : Int := ((gs.find? fun g => decide (gpair g = p)).map (·.2.2)).getD hours
def pairsOf (folk : List Str) (ws : List Way) : List (Str × Str) := folk.flatMap fun a => ws.map fun w => (a, w.1)
def gateT (hours : Int) (gs : List Gate) (ps : List (Str × Str)) : List (List Key × D) := ps.map fun p => (kPair p, .int (gateOf hours gs p))
def watchersOf (qs : List Sgn) (p : Str × Str) : List Str := (qs.filter fun q => decide (p.1 ∈ q.2.1) && decide (p.2 ∈ q.2.2)).map (·.1)
def pathsTo (ws : List Way) (x : Str) : List Str := (ws.filter fun w => decide (x ∈ [w.2.1, w.2.2])).map (·.1)
def endsOf (ws : List Way) (p : Str) : List Str := ((ws.find? fun w => decide (w.1 = p)).map fun w => [w.2.1, w.2.2]).getD []
def hoursTo (n : Int) : List Int := (List.range (n + 1 - 1).toNat).map fun (i : Nat) => 1 + (i : Int)
def goingsOf (hours : Int) (gs : List Gate) (ws : List Way) (q : Sgn) : List Going := q.2.1.flatMap fun a => q.2.2.flatMap fun p => (endsOf ws p).flatMap fun x => (hoursTo (gateOf hours gs (a, p))).map fun h => (h, a, p, x)
def marksOf (hours : Int) (gs : List Gate) (ws : List Way) (q : Sgn) : List Going := OLDg :: sortD goingD (goingsOf hours gs ws q)
structure MeadowA (K : PySem.W.Frag) (cM : Addr) : Prop where
  cl : Cls K cM
  a_hours : NoAttr K cM "hours"
  a_places : NoAttr K cM "places"
  a_walkers : NoAttr K cM "walkers"
  a_paths : NoAttr K cM "paths"
  a_ends : NoAttr K cM "_ends"
  a_gates : NoAttr K cM "gates"
  a_signs : NoAttr K cM "signs"
  a_gate : NoAttr K cM "_gate"
  a_watching : NoAttr K cM "_watching"
  a_paths_at : NoAttr K cM "_paths_at"
  a_marks : NoAttr K cM "_marks"
abbrev FunM (K : PySem.W.Frag) (x q : Str) (st : Stmt) (f : Addr) (fd : FuncData) : Prop := FunD K x q (defArgs st) (defBody st) (defScope st) [] [] f fd
section
variable {P : Program} {w : World} {K : PySem.W.Frag} {mg : Str → Option Value} {base : Heap} {f : Addr} {fd : FuncData} (cM : Addr)
def SWatchers : Sv := fun ds Φ _ => ∃ (fs : List (Str × D)) (qs : List Sgn) (a b : Str), ds = [.ins cM fs, .ktup [.inr a, .inr b]] ∧ fld fs "signs" = some (.tup (qs.map signD)) ∧ qs.length ≤ 1000 ∧ Φ (.tup ((watchersOf qs (a, b)).map .str))
abbrev nWatchers : List Str := ["self", "pair", "walker", "path", "name", "walkers", "paths"]
theorem scWatchers : FnScope nWatchers ["self", "pair"] (defScope M_Meadow__watchers) := ⟨rfl, rfl, rfl, by decide +kernel, rfl, by decide +kernel, by decide +kernel⟩
theorem ok_watchers (MA : MeadowA K cM) (F : FunM K "_watchers" "Meadow._watchers" M_Meadow__watchers f fd) (T : Txt mg) : FnD P w K mg base 1 f fd ["self", "pair"] (spV K (SWatchers cM)) := by
  refine fn_V F scWatchers 2 rfl (by decide) (fun ds Φ Ψ h => ?_) (fun f cdv A outer s H E hr c ds Φ Ψ h => ?_)
  · obtain ⟨_, _, _, _, rfl, _⟩ := h
    rfl
  · obtain ⟨fs, qs, a, b, rfl, hf, hl, h⟩ := h
    refine sv_cons <| s_tgt (V := [2, 3]) <| ev_unk <| ev_name (i := 1) (d := .ktup [.inr a, .inr b]) rfl rfl (.inl rfl) <| ⟨_, rfl, gv_tup c.calm rfl 0 0 rfl rfl <| gv_name (i := 2) (by decide) rfl (ltb rfl) (.inr rfl) c.nd <| gv_name (i := 3) (by decide) rfl (ltb rfl) (.inr rfl) c.nd ?_⟩
    refine sv_cons <| s_ret <| ev_t1 rfl T.n_tuple boot_tuple <| er_ev <| EF.ev <| ef_lc c [("name", 4), ("walkers", 5), ("paths", 6)] [] (lcOk1 (blkOk_by (N := nWatchers) (sc := defScope M_Meadow__watchers) (by decide +kernel)) (fun _ => rfl) (fun _ _ _ _ _ _ => rfl)) <| ei_tup <| ev_fld MA.cl MA.a_signs <| ev_name (i := 0) (d := .ins cM fs) rfl rfl (.inl rfl) <| ⟨fs, _, rfl, hf, xo rfl ?_⟩
    refine clp_filt signD (fun q : Sgn => D.str q.1) (fun q => decide (a ∈ q.2.1) && decide (b ∈ q.2.2)) qs (fun q => [.ok (.ins cM fs), .ok (.ktup [.inr a, .inr b]), .ok (.str a), .ok (.str b), .ok (.str q.1), .ok (.tup (q.2.1.map .str)), .ok (.tup (q.2.2.map .str))]) (by omega) (fun Y hY v Φ h => ?_) (fun a => rfl) (fun Y hY v ha Φ h => ?_) (fun Y hY v ha Φ h => ?_) ?_
    · have cY := ctx_blk c hY
      obtain ⟨_, _, _, _, _, rfl⟩ := hY
      exact gv_tup3 cY.calm <| gv_name (i := 4) (by decide) rfl (ltb rfl) (.inl rfl) c.nd <| gv_name (i := 5) (by decide) rfl (ltb rfl) (.inl rfl) c.nd <| gv_name (i := 6) (by decide) rfl (ltb rfl) (.inl rfl) c.nd h
    · obtain ⟨_, _, _, _, _, rfl⟩ := hY
      refine et_w <| ew_and <| et_mem <| ev_name (i := 2) (d := .str a) rfl rfl (.inr (.inl rfl)) <| er_ev <| ev_name (i := 5) (d := .tup (v.2.1.map .str)) rfl rfl (.inl rfl) <| m_in_t <| xo rfl <| ⟨fun hT => ?_, fun hF => ?_⟩
      · refine ew_and1 <| et_mem <| ev_name (i := 3) (d := .str b) rfl rfl (.inr (.inl rfl)) <| er_ev <| ev_name (i := 6) (d := .tup (v.2.2.map .str)) rfl rfl (.inl rfl) <| m_in_t <| xo rfl ?_
        rw [hT, Bool.true_and] at h
        exact h
      · rw [hF, Bool.false_and] at h
        exact h
    · obtain ⟨_, _, _, _, _, rfl⟩ := hY
      exact ev_name (i := 4) rfl rfl (.inl rfl) h
    refine c_tuple_l ?_
    unfold watchersOf at h
    rw [List.map_map] at h
    exact h
def SPathsTo : Sv := fun ds Φ _ => ∃ (fs : List (Str × D)) (ws : List Way) (x : Str), ds = [.ins cM fs, .str x] ∧ fld fs "_ends" = some (.dk (endsT ws)) ∧ ws.length ≤ 1000 ∧ (ws.map (·.1)).Nodup ∧ Φ (.tup ((pathsTo ws x).map .str))
abbrev nPathsTo : List Str := ["self", "place", "path"]
theorem scPathsTo : FnScope nPathsTo ["self", "place"] (defScope M_Meadow__paths_to) := ⟨rfl, rfl, rfl, by decide +kernel, rfl, by decide +kernel, by decide +kernel⟩
theorem endsT_get {ws : List Way} {w : Way} (hn : (ws.map (·.1)).Nodup) (hw : w ∈ ws) : getD' (endsT ws) (.inr w.1) = some (.tup [.str w.2.1, .str w.2.2]) := by
  induction ws with
  | nil => nomatch hw
  | cons a ws ih =>
    rw [List.map_cons, List.nodup_cons] at hn
    unfold getD' endsT at *
    rw [List.map_cons, List.find?_cons]
    rcases List.mem_cons.mp hw with rfl | m
    · rw [decide_eq_true rfl]; rfl
    · have ne : ¬ ((Sum.inr a.1 : Key) = .inr w.1) := fun e => hn.1 (List.mem_map.mpr ⟨w, m, (Sum.inr.inj e).symm⟩)
      rw [decide_eq_false ne]
      exact ih hn.2 m
theorem ok_pathsTo (MA : MeadowA K cM) (F : FunM K "_paths_to" "Meadow._paths_to" M_Meadow__paths_to f fd) (T : Txt mg) : FnD P w K mg base 1 f fd ["self", "place"] (spV K (SPathsTo cM)) := by
  refine fn_V F scPathsTo 2 rfl (by decide) (fun ds Φ Ψ h => ?_) (fun f cdv A outer s H E hr c ds Φ Ψ h => ?_)
  · obtain ⟨_, _, _, rfl, _⟩ := h
    rfl
  · obtain ⟨fs, ws, x, rfl, hf, hl, hn, h⟩ := h
    have hu : (cxOf (CX P w) P w K mg base nPathsTo "Meadow._paths_to" (defScope M_Meadow__paths_to) f cdv A outer s H E).A.units + 64 < cLine := hr.units
    have lk : lockP ["_ends"] (.ins cM fs) = some (.ins cM (putFD "_ends" (.fz (endsT ws)) fs)) := by
      unfold lockP
      rw [show List.lookup ("_ends" : Str) fs = some (D.dk (endsT ws)) from hf]
      rfl
    have lf : fld (putFD "_ends" (.fz (endsT ws)) fs) "_ends" = some (.fz (endsT ws)) := lookup_put
    refine sv_cons <| s_ret <| ev_lock (i := 0) ["_ends"] rfl lk <| ev_t1 rfl T.n_tuple boot_tuple <| er_ev <| EF.ev <| ef_lc c [("path", 2)] [] (lcOk1 (blkOk_by (N := nPathsTo) (sc := defScope M_Meadow__paths_to) (by decide +kernel)) (fun _ => rfl) (fun _ _ _ _ _ _ => rfl)) <| ei_keys <| ev_fld MA.cl MA.a_ends <| ev_name (i := 0) rfl rfl (.inr (.inl rfl)) <| ⟨_, _, rfl, lf, .inl ⟨_, rfl, ?_⟩⟩
    rw [show ((endsT ws).map fun x => keyD x.1) = ws.map fun w : Way => D.str w.1 by unfold endsT; rw [List.map_map]; rfl]
    refine clp_filt (fun w : Way => D.str w.1) (fun w : Way => D.str w.1) (fun w => decide (x ∈ [w.2.1, w.2.2])) ws (fun w => [.ok (.ins cM (putFD "_ends" (.fz (endsT ws)) fs)), .ok (.str x), .ok (.str w.1)]) (by omega) (fun Y hY v Φ h => ?_) (fun a => rfl) (fun Y hY v ha Φ h => ?_) (fun Y hY v ha Φ h => ?_) ?_
    · obtain ⟨_, _, _, _, _, rfl⟩ := hY
      exact gv_name (i := 2) (by decide) rfl (ltb rfl) (.inl rfl) c.nd h
    · obtain ⟨_, _, _, _, _, rfl⟩ := hY
      exact et_mem <| ev_name (i := 1) (d := .str x) rfl rfl (.inr (.inl rfl)) <| er_ev <| ev_dix hu <| ev_unz <| ev_fld MA.cl MA.a_ends <| ev_name (i := 0) rfl rfl (.inr (.inl rfl)) <| ⟨_, _, rfl, lf, .inl ⟨_, rfl, ev_name (i := 2) (d := .str v.1) rfl rfl (.inl rfl) <| ⟨endsT ws, .inr v.1, _, rfl, rfl, endsT_get hn ha, m_in_t (ss := [v.2.1, v.2.2]) <| xo rfl h⟩⟩⟩
    · obtain ⟨_, _, _, _, _, rfl⟩ := hY
      exact ev_name (i := 2) rfl rfl (.inl rfl) h
    refine c_tuple_l ⟨stills_map fun _ _ => trivial, ?_⟩
    unfold pathsTo at h
    rw [List.map_map] at h
    exact h
end
end K00
end

section
set_option maxRecDepth 100000
set_option maxHeartbeats 1000000
namespace K00
open PySem PySem.Spec L2 DL
open PyProof.Rows (boot_int boot_abs boot_list boot_max boot_min boot_range boot_all boot_tuple boot_sorted boot_isinstance boot_enumerate)
/-! ### the marks of a sign -/
theorem fm_len {α β : Type} {f : α → List β} {m : Nat} : ∀ {l : List α} {n : Nat}, l.length ≤ n → (∀ a ∈ l, (f a).length ≤ m) → (l.flatMap f).length ≤ n * m
  | [], n, _, _ => by simp
  | a :: l, 0, h, _ => by simp at h
  | a :: l, n + 1, h, hf => by
    rw [List.flatMap_cons, List.length_append, Nat.add_mul, Nat.one_mul]
    have h1 := hf a List.mem_cons_self
    have h2 := fm_len (l := l) (n := n) (by simpa using h) fun b hb => hf b (List.mem_cons_of_mem _ hb)
    omega
theorem fm_take {α β : Type} {f : α → List β} {m : Nat} {l : List α} {n i : Nat} (h : l.length ≤ n) (hf : ∀ a ∈ l, (f a).length ≤ m) : ((l.take i).flatMap f).length ≤ n * m :=
  fm_len (Nat.le_trans (by rw [List.length_take]; exact Nat.min_le_right _ _) h) fun a ha => hf a (List.mem_of_mem_take ha)
theorem endsOf_get {ws : List Way} {p : Str} (hp : p ∈ ws.map (·.1)) : ∃ w ∈ ws, w.1 = p ∧ endsOf ws p = [w.2.1, w.2.2] ∧ getD' (endsT ws) (.inr p) = some (.tup ((endsOf ws p).map .str)) := by
  induction ws with
  | nil => nomatch hp
  | cons a ws ih =>
    unfold endsOf getD' endsT at *
    rw [List.map_cons, List.find?_cons, List.find?_cons]
    by_cases c : a.1 = p
    · refine ⟨a, List.mem_cons_self, c, ?_, ?_⟩
      · rw [decide_eq_true c]; rfl
      · have e : decide ((Sum.inr a.1 : Key) = .inr p) = true := decide_eq_true (by rw [c])
        rw [decide_eq_true c]
        simp only [e]
        rfl
    · have e : decide ((Sum.inr a.1 : Key) = .inr p) = false := decide_eq_false fun z => c (Sum.inr.inj z)
      rw [decide_eq_false c]
      simp only [e]
      rw [List.map_cons] at hp
      obtain ⟨w, m, h1, h2, h3⟩ := ih ((List.mem_cons.mp hp).resolve_left fun z => c z.symm)
      exact ⟨w, List.mem_cons_of_mem _ m, h1, h2, h3⟩
theorem getD_table {κ α : Type} [DecidableEq κ] {l : List α} {kf : α → κ} {vf : α → D} {a : α} (ha : a ∈ l) (hi : ∀ b ∈ l, kf b = kf a → vf b = vf a) : getD' (l.map fun x => (kf x, vf x)) (kf a) = some (vf a) := by
  induction l with
  | nil => nomatch ha
  | cons b l ih =>
    unfold getD' at *
    rw [List.map_cons, List.find?_cons]
    by_cases c : kf b = kf a
    · simp only [c, decide_true]
      rw [← hi b List.mem_cons_self c]
      rfl
    · simp only [c, decide_false]
      exact ih ((List.mem_cons.mp ha).resolve_left fun z => c (by rw [z])) fun x hx => hi x (List.mem_cons_of_mem _ hx)
theorem kPair_inj {p q : Str × Str} (h : kPair p = kPair q) : p = q := by
  obtain ⟨h1, h2⟩ := List.cons.inj h
  exact Prod.ext (Sum.inr.inj h1) (Sum.inr.inj (List.cons.inj h2).1)
theorem gateT_get {hours : Int} {gs : List Gate} {ps : List (Str × Str)} {p : Str × Str} (hp : p ∈ ps) : getD' (gateT hours gs ps) (kPair p) = some (.int (gateOf hours gs p)) :=
  getD_table (kf := kPair) (vf := fun p => D.int (gateOf hours gs p)) hp fun b _ e => by rw [kPair_inj e]
theorem mem_pairs {folk : List Str} {ws : List Way} {a p : Str} (ha : a ∈ folk) (hp : p ∈ ws.map (·.1)) : (a, p) ∈ pairsOf folk ws := by
  obtain ⟨w, hw, rfl⟩ := List.mem_map.mp hp
  exact List.mem_flatMap.mpr ⟨a, ha, List.mem_map.mpr ⟨w, hw, rfl⟩⟩
/-- what is known of a meadow's tables -/
structure TabOk (hours : Int) (folk : List Str) (ws : List Way) (gs : List Gate) : Prop where
  hrs : 1 ≤ hours ∧ hours ≤ 100
  names : (ws.map (·.1)).Nodup
  ends : ∀ w ∈ ws, w.2.1 ≠ w.2.2
  word : ∀ w ∈ ws, WordOk w.1 ∧ WordOk w.2.1 ∧ WordOk w.2.2
  folk : ∀ x ∈ folk, WordOk x
  gates : ∀ g ∈ gs, 0 ≤ g.2.2 ∧ g.2.2 ≤ hours
theorem gateOf_le {hours : Int} {folk : List Str} {ws : List Way} {gs : List Gate} (h : TabOk hours folk ws gs) (p : Str × Str) : 0 ≤ gateOf hours gs p ∧ gateOf hours gs p ≤ hours := by
  unfold gateOf
  cases e : gs.find? fun g => decide (gpair g = p) with
  | none => exact ⟨by have := h.hrs; show 0 ≤ hours; omega, Int.le_refl _⟩
  | some g => exact h.gates g (List.mem_of_find?_eq_some e)
/-- what is known of a sign -/
structure SgnOk (folk : List Str) (ws : List Way) (q : Sgn) : Prop where
  len : q.2.1.length ≤ 10 ∧ q.2.2.length ≤ 50
  nd : q.2.1.Nodup ∧ q.2.2.Nodup
  mem : (∀ x ∈ q.2.1, x ∈ folk) ∧ ∀ x ∈ q.2.2, x ∈ ws.map (·.1)
theorem hours_len {hours : Int} {folk : List Str} {ws : List Way} {gs : List Gate} (h : TabOk hours folk ws gs) (p : Str × Str) : (hoursTo (gateOf hours gs p)).length ≤ 100 := by
  have := gateOf_le h p
  have := h.hrs
  unfold hoursTo
  rw [List.length_map, List.length_range]
  omega
theorem ends_len {ws : List Way} {p : Str} : (endsOf ws p).length ≤ 2 := by
  unfold endsOf
  cases ws.find? fun w => decide (w.1 = p) with
  | none => exact Nat.zero_le _
  | some w => exact Nat.le_refl _
theorem goings_len {hours : Int} {folk : List Str} {ws : List Way} {gs : List Gate} (h : TabOk hours folk ws gs) {q : Sgn} (hq : SgnOk folk ws q) : (goingsOf hours gs ws q).length ≤ 100000 :=
  fm_len (n := 10) (m := 10000) hq.len.1 fun a _ => fm_len (n := 50) (m := 200) hq.len.2 fun p _ => fm_len (n := 2) (m := 100) ends_len fun x _ => by rw [List.length_map]; exact hours_len h _
theorem mem_hours {n i : Int} : i ∈ hoursTo n ↔ 1 ≤ i ∧ i ≤ n := by
  unfold hoursTo
  constructor
  · intro m
    obtain ⟨k, hk, rfl⟩ := List.mem_map.mp m
    rw [List.mem_range] at hk
    omega
  · intro h
    exact List.mem_map.mpr ⟨(i - 1).toNat, List.mem_range.mpr (by omega), by omega⟩
theorem mem_goings {hours : Int} {gs : List Gate} {ws : List Way} {q : Sgn} {g : Going} : g ∈ goingsOf hours gs ws q ↔ g.2.1 ∈ q.2.1 ∧ g.2.2.1 ∈ q.2.2 ∧ g.2.2.2 ∈ endsOf ws g.2.2.1 ∧ 1 ≤ g.1 ∧ g.1 ≤ gateOf hours gs (g.2.1, g.2.2.1) := by
  unfold goingsOf
  simp only [List.mem_flatMap, List.mem_map]
  constructor
  · rintro ⟨a, ha, p, hp, x, hx, h, hh, rfl⟩
    exact ⟨ha, hp, hx, (mem_hours.mp hh).1, (mem_hours.mp hh).2⟩
  · rintro ⟨h1, h2, h3, h4, h5⟩
    exact ⟨_, h1, _, h2, _, h3, _, mem_hours.mpr ⟨h4, h5⟩, rfl⟩
theorem goings_nodup {hours : Int} {folk : List Str} {ws : List Way} {gs : List Gate} (h : TabOk hours folk ws gs) {q : Sgn} (hq : SgnOk folk ws q) : (goingsOf hours gs ws q).Nodup := by
  unfold goingsOf List.Nodup
  refine List.pairwise_flatMap.mpr ⟨fun a _ => List.pairwise_flatMap.mpr ⟨fun p hp => List.pairwise_flatMap.mpr ⟨fun x _ => ?_, ?_⟩, ?_⟩, ?_⟩
  · refine List.pairwise_map.mpr ?_
    unfold hoursTo
    refine List.pairwise_map.mpr ((List.nodup_range (n := (gateOf hours gs (a, p) + 1 - 1).toNat)).imp fun {i j} n e => n ?_)
    have : (1 + (i : Int)) = 1 + (j : Int) := congrArg (fun g : Going => g.1) e
    omega
  · obtain ⟨w, hw, _, e, _⟩ := endsOf_get (hq.mem.2 p hp)
    rw [e]
    refine List.pairwise_cons.mpr ⟨fun y hy u hu v hv e2 => ?_, List.pairwise_singleton _ _⟩
    obtain rfl := List.mem_singleton.mp hy
    obtain ⟨i, _, rfl⟩ := List.mem_map.mp hu
    obtain ⟨j, _, rfl⟩ := List.mem_map.mp hv
    exact h.ends w hw (congrArg (fun g : Going => g.2.2.2) e2)
  · refine hq.nd.2.imp fun {x y} n u hu v hv e => n ?_
    simp only [List.mem_flatMap, List.mem_map] at hu hv
    obtain ⟨_, _, _, _, rfl⟩ := hu
    obtain ⟨_, _, _, _, rfl⟩ := hv
    exact congrArg (fun g : Going => g.2.2.1) e
  · refine hq.nd.1.imp fun {x y} n u hu v hv e => n ?_
    simp only [List.mem_flatMap, List.mem_map] at hu hv
    obtain ⟨_, _, _, _, _, _, rfl⟩ := hu
    obtain ⟨_, _, _, _, _, _, rfl⟩ := hv
    exact congrArg (fun g : Going => g.2.1) e
theorem marks_nodup {hours : Int} {folk : List Str} {ws : List Way} {gs : List Gate} (h : TabOk hours folk ws gs) {q : Sgn} (hq : SgnOk folk ws q) : (marksOf hours gs ws q).Nodup := by
  refine List.nodup_cons.mpr ⟨fun m => ?_, (sortD_perm.nodup_iff).mpr (goings_nodup h hq)⟩
  have := (mem_goings.mp ((sortD_perm).mem_iff.mp m)).2.2.2.1
  exact absurd this (by decide)
theorem goingL_inj {g k : Going} (h : NestedKey.tup (goingL g) = .tup (goingL k)) : g = k := by
  obtain ⟨a, b, c, d⟩ := g
  obtain ⟨a', b', c', d'⟩ := k
  have h := NestedKey.tup.inj h
  unfold goingL at h
  simp only [List.cons.injEq, NestedKey.num.injEq, NestedKey.text.injEq, and_true] at h
  obtain ⟨rfl, rfl, rfl, rfl⟩ := h
  rfl
theorem lay_going {g : Going} (h1 : WordOk g.2.1) (h2 : WordOk g.2.2.1) (h3 : WordOk g.2.2.2) : (py (goingD g)).canLay0 = true := by
  show (true && ((PyData.str g.2.1).canLay0 && ((PyData.str g.2.2.1).canLay0 && ((PyData.str g.2.2.2).canLay0 && true)))) = true
  rw [show (PyData.str g.2.1).canLay0 = true from wordOk_all h1, show (PyData.str g.2.2.1).canLay0 = true from wordOk_all h2, show (PyData.str g.2.2.2).canLay0 = true from wordOk_all h3]
  rfl
def markT (P : Program) (w : World) (ms : List Going) : D := .nd P w (ms.map fun g => (.tup (goingL g), .bl true))
section
variable {P : Program} {w : World} {K : PySem.W.Frag} {mg : Str → Option Value} {base : Heap} {f : Addr} {fd : FuncData} (cM : Addr)
/-- the old mark, the module's own tuple -/
structure OldK (K : PySem.W.Frag) (mg : Str → Option Value) : Prop where
  old : ∃ a, mg "OLD" = some (.ref a) ∧ ∀ G, SqT K G a [.int 0, .str "", .str "", .str ""]
def SMarksOf (P : Program) (w : World) : Sv := fun ds Φ _ => ∃ (fs : List (Str × D)) (q : Sgn) (hours : Int) (folk : List Str) (ws : List Way) (gs : List Gate), ds = [.ins cM fs, signD q] ∧ fld fs "_ends" = some (.dk (endsT ws)) ∧ fld fs "_gate" = some (.dt (gateT hours gs (pairsOf folk ws))) ∧
  TabOk hours folk ws gs ∧ SgnOk folk ws q ∧ Φ (markT P w (marksOf hours gs ws q))
abbrev nMarksOf : List Str := ["self", "row", "goings", "walker", "path", "place", "hour", "mark"]
theorem scMarksOf : FnScope nMarksOf ["self", "row"] (defScope M_Meadow__marks_of) := ⟨rfl, rfl, rfl, by decide +kernel, rfl, by decide +kernel, by decide +kernel⟩
theorem ok_marksOf (MA : MeadowA K cM) (OK : OldK K mg) (F : FunM K "_marks_of" "Meadow._marks_of" M_Meadow__marks_of f fd) (T : Txt mg) : FnD P w K mg base 1 f fd ["self", "row"] (spV K (SMarksOf cM P w)) := by
  refine fn_V F scMarksOf 2 rfl (by decide) (fun ds Φ Ψ h => ?_) (fun f cdv A outer s H E hr c ds Φ Ψ h => ?_)
  · obtain ⟨_, _, _, _, _, _, rfl, _⟩ := h
    rfl
  · obtain ⟨fs, q, hours, folk, ws, gs, rfl, he, hg, ht, hq, h⟩ := h
    have hu : (cxOf (CX P w) P w K mg base nMarksOf "Meadow._marks_of" (defScope M_Meadow__marks_of) f cdv A outer s H E).A.units + 64 < cLine := hr.units
    obtain ⟨oa, hO, hOt⟩ := OK.old
    refine sv_cons <| s_setLc (i := 2) c [("walker", 3), ("path", 4), ("place", 5), ("hour", 6)] [⟨_, _, [], [4, 5, 6]⟩, ⟨_, _, [], [5, 6]⟩, ⟨_, _, [], [6]⟩] (lcOk4c (blkOk_by (N := nMarksOf) (sc := defScope M_Meadow__marks_of) (by decide +kernel)) (fun _ => rfl) (fun _ _ _ _ _ _ => rfl) (fun _ _ _ _ _ _ => rfl) (fun _ _ _ _ _ _ => rfl) (fun _ _ _ _ _ _ => rfl) (by decide) (by decide) (by decide)) rfl rfl (sw_true rfl rfl rfl (by decide +kernel)) <|
      ei_tup <| ev_ix <| ev_name (i := 1) (d := signD q) rfl rfl (.inr (.inl rfl)) <| ev_int <| ix_t (d := .tup (q.2.1.map .str)) rfl <| xo rfl ?_
    let f4 : Str → Str → Str → Int → List D := fun a p x t => [goingD (t, a, p, x)]
    let f3 : Str → Str → Str → List D := fun a p x => (hoursTo (gateOf hours gs (a, p))).flatMap (f4 a p x)
    let f2 : Str → Str → List D := fun a p => (endsOf ws p).flatMap (f3 a p)
    let f1 : Str → List D := fun a => q.2.2.flatMap (f2 a)
    have l3 : ∀ a p x, (f3 a p x).length ≤ 100 := fun a p x => Nat.le_trans (fm_len (m := 1) (Nat.le_refl _) fun _ _ => Nat.le_refl 1) (by rw [Nat.mul_one]; exact hours_len ht _)
    have l2 : ∀ a p, (f2 a p).length ≤ 200 := fun a p => fm_len (n := 2) (m := 100) ends_len fun x _ => l3 a p x
    have l1 : ∀ a, (f1 a).length ≤ 10000 := fun a => fm_len (n := 50) (m := 200) hq.len.2 fun p _ => l2 a p
    refine clp_app (f := f1) D.str q.2.1 [] (fun a => [.ok (.ins cM fs), .ok (signD q), .un, .ok (.str a), .un, .un, .un, .un]) (fun Y hY a _ Φ h => ?_) (fun a _ => rfl) (fun i a hi F' hF' => ?_) ?_
    · obtain ⟨_, _, _, _, _, rfl⟩ := hY
      exact gv_name (i := 3) (by decide) rfl (ltb rfl) (.inl rfl) c.nd h
    · have ma := List.mem_of_getElem? hi
      have b1 := fm_take (i := i) hq.len.1 fun a (_ : a ∈ q.2.1) => l1 a
      intro Y hY
      obtain ⟨_, _, _, _, _, rfl⟩ := hY
      refine ei_tup <| ev_ix <| ev_name (i := 1) (d := signD q) rfl rfl (.inr (.inl rfl)) <| ev_int <| ix_t (d := .tup (q.2.2.map .str)) rfl <| xo rfl ?_
      refine clp_app (f := f2 a) D.str q.2.2 _ (fun p => [.ok (.ins cM fs), .ok (signD q), .un, .ok (.str a), .ok (.str p), .un, .un, .un]) (fun Y hY p _ Φ h => ?_) (fun p _ => rfl) (fun j p hj F2 hF2 => ?_) hF'
      · obtain ⟨_, _, _, _, _, rfl⟩ := hY
        exact gv_name (i := 4) (by decide) rfl (ltb rfl) (.inl rfl) c.nd h
      · have mp := List.mem_of_getElem? hj
        have b2 := fm_take (i := j) hq.len.2 fun p (_ : p ∈ q.2.2) => l2 a p
        obtain ⟨w0, hw0, _, _, ge⟩ := endsOf_get (hq.mem.2 p mp)
        intro Y hY
        obtain ⟨_, _, _, _, _, rfl⟩ := hY
        refine ei_tup <| ev_dix hu <| ev_fld MA.cl MA.a_ends <| ev_name (i := 0) (d := .ins cM fs) rfl rfl (.inr (.inl rfl)) <| ⟨fs, _, rfl, he, ev_name (i := 4) (d := .str p) rfl rfl (.inl rfl) <| ⟨endsT ws, .inr p, _, rfl, rfl, ge, xo rfl ?_⟩⟩
        refine clp_app (f := f3 a p) D.str (endsOf ws p) _ (fun x => [.ok (.ins cM fs), .ok (signD q), .un, .ok (.str a), .ok (.str p), .ok (.str x), .un, .un]) (fun Y hY x _ Φ h => ?_) (fun x _ => rfl) (fun k x hk F3 hF3 => ?_) hF2
        · obtain ⟨_, _, _, _, _, rfl⟩ := hY
          exact gv_name (i := 5) (by decide) rfl (ltb rfl) (.inl rfl) c.nd h
        · have b3 := fm_take (i := k) (n := 2) ends_len fun x (_ : x ∈ endsOf ws p) => l3 a p x
          have gle := gateOf_le ht (a, p)
          have hle := ht.hrs
          intro Y hY
          obtain ⟨_, _, _, _, _, rfl⟩ := hY
          refine ei_range2 rfl T.n_range <| ev_int <| ev_op <| ev_dixT hu <| ev_fld MA.cl MA.a_gate <| ev_name (i := 0) (d := .ins cM fs) rfl rfl (.inr (.inl rfl)) <| ⟨fs, _, rfl, hg, ev_ktup <| ea_cons <| ev_name (i := 3) (d := .str a) rfl rfl (.inl rfl) <| ea_cons <| ev_name (i := 4) (d := .str p) rfl rfl (.inl rfl) <| ea_nil <| ⟨kPair (a, p), rfl, leb rfl, gateT hours gs (pairsOf folk ws), kPair (a, p), _, rfl, rfl, gateT_get (mem_pairs (hq.mem.1 a ma) (hq.mem.2 p mp)), ev_int <| d_add <| ⟨1, gateOf hours gs (a, p) + 1, rfl, rfl, ⟨by omega, by omega, by omega, by omega⟩, ?_⟩⟩⟩
          rw [show ((List.range (gateOf hours gs (a, p) + 1 - 1).toNat).map fun (t : Nat) => D.int (1 + (t : Int))) = (hoursTo (gateOf hours gs (a, p))).map D.int by unfold hoursTo; rw [List.map_map]; rfl]
          refine clp_app (f := f4 a p x) D.int (hoursTo (gateOf hours gs (a, p))) _ (fun t => [.ok (.ins cM fs), .ok (signD q), .un, .ok (.str a), .ok (.str p), .ok (.str x), .ok (.int t), .un]) (fun Y hY t _ Φ h => ?_) (fun t _ => rfl) (fun n t hn F4 hF4 => ?_) hF3
          · obtain ⟨_, _, _, _, _, rfl⟩ := hY
            exact gv_name (i := 6) (by decide) rfl (ltb rfl) (.inl rfl) c.nd h
          · have b4 := fm_take (i := n) (m := 1) (hours_len ht (a, p)) fun t (_ : t ∈ hoursTo (gateOf hours gs (a, p))) => Nat.le_refl (f4 a p x t).length
            intro Y hY
            obtain ⟨_, _, _, _, _, rfl⟩ := hY
            refine ev_tup <| ea_cons <| ev_name (i := 6) rfl rfl (.inl rfl) <| ea_cons <| ev_name (i := 3) rfl rfl (.inl rfl) <| ea_cons <| ev_name (i := 4) rfl rfl (.inl rfl) <| ea_cons <| ev_name (i := 5) rfl rfl (.inl rfl) <| ea_nil <| xa (leb rfl) <| xa ?_ hF4
            rw [List.length_append, List.length_append, List.length_append, List.length_append]
            show 0 + _ + _ + _ + _ < _
            omega
    have eg : q.2.1.flatMap f1 = (goingsOf hours gs ws q).map goingD := by
      unfold goingsOf
      simp only [List.map_flatMap, List.map_map, f1, f2, f3, f4]
      congr 1; funext a; congr 1; funext p; congr 1; funext x
      exact (List.map_eq_flatMap).symm
    show _ ∧ SV _ _ _ _ _ _ _
    rw [eg]
    refine xa (ltb rfl) ?_
    have gl := goings_len ht hq
    have okg : ∀ g ∈ goingsOf hours gs ws q, (py (goingD g)).canLay0 = true := fun g hgm => by
      obtain ⟨m1, m2, m3, _⟩ := mem_goings.mp hgm
      obtain ⟨w0, hw0, e0, e1, _⟩ := endsOf_get (hq.mem.2 _ m2)
      have ww := ht.word w0 hw0
      refine lay_going (ht.folk _ (hq.mem.1 _ m1)) (e0 ▸ ww.1) ?_
      rw [e1] at m3
      rcases List.mem_cons.mp m3 with e | m3
      · rw [e]; exact ww.2.1
      · rw [List.mem_singleton.mp m3]; exact ww.2.2
    refine sv_cons <| s_ret <| EF.ev <| ef_nd hu c [("mark", 7)] [] (lcOk1 (blkOk_by (N := nMarksOf) (sc := defScope M_Meadow__marks_of) (by decide +kernel)) (fun _ => rfl) (fun _ _ _ _ _ _ => rfl)) <| ei_lst <| ev_op <| ev_lst <| ea_cons <| ev_glob (v := .ref oa) (d := goingD OLDg) rfl hO rfl (fun M H => ⟨oa, _, rfl, .inr hOt, Reps.cons rfl (Reps.cons rfl (Reps.cons rfl (Reps.cons rfl Reps.nil)))⟩) <| ea_nil <| xa (leb rfl) <|
      ev_b1 rfl T.n_sorted boot_sorted <| er_ev <| ev_name (i := 2) (d := .lst ((goingsOf hours gs ws q).map goingD)) rfl rfl (.inl rfl) <| c_sortedD goingD okg (fun d hd d' hd' => ?_) (.inl fun d hd => ?_) (fun g _ => ?_) <| d_cat ?_ <| xo rfl ?_
    · obtain ⟨g, _, rfl⟩ := List.mem_map.mp hd
      obtain ⟨k, _, rfl⟩ := List.mem_map.mp hd'
      rfl
    · obtain ⟨g, _, rfl⟩ := List.mem_map.mp hd
      exact ⟨_, _, rfl⟩
    · show _ + 2 + 1 < _
      omega
    · rw [List.length_map, (sortD_perm).length_eq]
      show 1 + _ ≤ _
      omega
    · have ml : (marksOf hours gs ws q).length ≤ 100001 := by
        show (sortD goingD (goingsOf hours gs ws q)).length + 1 ≤ 100001
        rw [(sortD_perm).length_eq]
        omega
      have nd := marks_nodup ht hq
      rw [show [goingD OLDg] ++ (sortD goingD (goingsOf hours gs ws q)).map goingD = (marksOf hours gs ws q).map goingD from rfl]
      refine clp_app (f := fun g => [(NestedKey.tup (goingL g), D.bl true)]) goingD (marksOf hours gs ws q) [] (fun g => [.ok (.ins cM fs), .ok (signD q), .ok (.lst ((goingsOf hours gs ws q).map goingD)), .un, .un, .un, .un, .ok (goingD g)]) (fun Y hY a _ Φ h => ?_) (fun a _ => rfl) (fun i g hi F' hF' => ?_) ?_
      · obtain ⟨_, _, _, _, _, rfl⟩ := hY
        exact gv_name (i := 7) (by decide) rfl (ltb rfl) (.inl rfl) c.nd h
      · have bl := fm_take (i := i) (m := 1) ml fun (g : Going) _ => Nat.le_refl [(NestedKey.tup (goingL g), D.bl true)].length
        intro Y hY
        obtain ⟨_, _, _, _, _, rfl⟩ := hY
        refine ev_name (i := 7) (d := goingD g) rfl rfl (.inl rfl) <| ev_bl <| ⟨goingL g, rfl, leb rfl, by rw [List.nil_append]; omega, ?_⟩
        rw [putD_app]
        · exact hF'
        · intro m
          obtain ⟨x, hx, e⟩ := List.mem_map.mp m
          rw [List.nil_append, List.mem_flatMap] at hx
          obtain ⟨k, hk, hx⟩ := hx
          rw [List.mem_singleton.mp hx] at e
          have e2 := goingL_inj e
          subst e2
          obtain ⟨n, hn, e3⟩ := List.getElem_of_mem hk
          rw [List.length_take] at hn
          rw [List.getElem_take] at e3
          have e4 : (marksOf hours gs ws q)[n]? = (marksOf hours gs ws q)[i]? := by rw [hi, ← e3]; exact List.getElem?_eq_getElem _
          have := (List.getElem?_inj (i := n) (j := i) (by omega) nd).mp e4
          omega
      · rw [List.nil_append, show ((marksOf hours gs ws q).flatMap fun g => [(NestedKey.tup (goingL g), D.bl true)]) = (marksOf hours gs ws q).map fun g => (NestedKey.tup (goingL g), D.bl true) from (List.map_eq_flatMap).symm]
        exact h
end
end K00
end

section
set_option maxRecDepth 100000
set_option maxHeartbeats 1000000
namespace K00
open PySem PySem.Spec L2 DL
open PyProof.Rows (boot_int boot_abs boot_list boot_max boot_min boot_range boot_all boot_tuple boot_sorted boot_isinstance boot_enumerate)
/-! ### the fields of an object that is being made -/
structure FsA (fs l : List (Str × D)) : Prop where
  get : ∀ (i : Nat) (f : Str) (d : D), l[i]? = some (f, d) → fld fs f = some d
  only : ∀ f, f ∉ l.map (·.1) → fld fs f = none
  len : fs.length ≤ l.length
theorem FsA.nil : FsA [] [] := ⟨fun i f d h => by simp at h, fun _ _ => rfl, Nat.le_refl _⟩
theorem putFD_len {f : Str} {d : D} : ∀ {fs : List (Str × D)}, (putFD f d fs).length ≤ fs.length + 1
  | [] => Nat.le_refl _
  | (g, e) :: r => by
    unfold putFD
    split
    · exact Nat.le_succ _
    · have := putFD_len (f := f) (d := d) (fs := r)
      simp only [List.length_cons]
      omega
theorem FsA.put {fs l : List (Str × D)} (h : FsA fs l) {f : Str} {d : D} (n : f ∉ l.map (·.1)) : FsA (putFD f d fs) ((f, d) :: l) := by
  refine ⟨fun i g e hi => ?_, fun g hg => ?_, ?_⟩
  · cases i with
    | zero =>
      cases hi
      exact lookup_put
    | succ i =>
      have hi : l[i]? = some (g, e) := by simpa using hi
      have ne : g ≠ f := fun z => n (z ▸ List.mem_map.mpr ⟨_, List.mem_of_getElem? hi, rfl⟩)
      rw [lookup_put_ne ne]
      exact h.get i g e hi
  · rw [List.map_cons] at hg
    rw [lookup_put_ne fun z => hg (List.mem_cons.mpr (.inl z))]
    exact h.only g fun z => hg (List.mem_cons_of_mem _ z)
  · have := putFD_len (f := f) (d := d) (fs := fs)
    have := h.len
    simp only [List.length_cons]
    omega
/-! ### the lists in order -/
theorem mem_sortS {ss : List Str} {x : Str} : x ∈ sortS ss ↔ x ∈ ss := (sortR_perm _ _).mem_iff
theorem nodup_sortS {ss : List Str} (h : ss.Nodup) : (sortS ss).Nodup := ((sortR_perm _ ss).nodup_iff).mpr h
theorem best_two {a b : Str} (h : a ≠ b) : (bestL a b = a ∧ bestG a b = b) ∨ (bestL a b = b ∧ bestG a b = a) := by
  unfold bestL bestG
  by_cases c1 : b.cps.toList < a.cps.toList
  · right
    rw [if_pos c1, if_neg (List.lt_asymm c1)]
    exact ⟨rfl, rfl⟩
  · by_cases c2 : a.cps.toList < b.cps.toList
    · left
      rw [if_neg c1, if_pos c2]
      exact ⟨rfl, rfl⟩
    · exact absurd (DLS.cpl_inj (List.le_antisymm (List.not_lt.mp c1) (List.not_lt.mp c2))) h
theorem paths_names {ws : List Way} : ((pathsOf ws).map (·.1)).Perm (ws.map (·.1)) := by
  have h := (sortR_perm kW (ws.map normW)).map (·.1)
  rw [List.map_map] at h
  exact h
theorem paths_mem {ws : List Way} {w : Way} (h : w ∈ pathsOf ws) : ∃ v ∈ ws, w = normW v := by
  obtain ⟨v, hv, e⟩ := List.mem_map.mp ((sortR_perm kW (ws.map normW)).mem_iff.mp h)
  exact ⟨v, hv, e.symm⟩
theorem gates_mem {hours : Int} {gs : List Gate} {g : Gate} (h : g ∈ gatesOf hours gs) : g ∈ gs ∧ g.2.2 < hours := by
  have := List.mem_filter.mp ((sortR_perm kG _).mem_iff.mp h)
  exact ⟨this.1, of_decide_eq_true this.2⟩
theorem signs_mem {qs : List Post'} {q : Sgn} (h : q ∈ signsOf qs) : ∃ v ∈ qs, q = normQ v := by
  obtain ⟨v, hv, e⟩ := List.mem_map.mp ((sortR_perm kQ (qs.map normQ)).mem_iff.mp h)
  exact ⟨v, hv, e.symm⟩
theorem signs_names {qs : List Post'} : ((signsOf qs).map (·.1)).Perm (qs.map (·.1)) := by
  have h := (sortR_perm kQ (qs.map normQ)).map (·.1)
  rw [List.map_map] at h
  exact h
theorem paths_len {ws : List Way} : (pathsOf ws).length = ws.length := by rw [pathsOf, (sortR_perm _ _).length_eq, List.length_map]
theorem signs_len {qs : List Post'} : (signsOf qs).length = qs.length := by rw [signsOf, (sortR_perm _ _).length_eq, List.length_map]
theorem gatesC_len {hours : Int} {gs : List Gate} : (gatesOf hours gs).length ≤ gs.length := by
  rw [gatesOf, (sortR_perm _ _).length_eq]
  exact List.length_filter_le _ _
theorem tab_ok {m0 m1 m2 m3 m4 : Int} {F : Fld} (h : FldOk m0 m1 m2 m3 m4 F) (h0 : m0 ≤ 100) : TabOk F.hours (sortS F.folk) (pathsOf F.ways) (gatesOf F.hours F.shut) := by
  refine ⟨⟨h.hours.1, Int.le_trans h.hours.2 h0⟩, (paths_names.nodup_iff).mpr h.ways.1.1.1, fun w hw => ?_, fun w hw => ?_, fun x hx => wordOk_name (h.folk.1.2 x (mem_sortS.mp hx)), fun g hg => ?_⟩
  · obtain ⟨v, hv, rfl⟩ := paths_mem hw
    have ne := (h.ways.1.2 v hv).2.2
    show bestL v.2.1 v.2.2 ≠ bestG v.2.1 v.2.2
    rcases best_two ne with ⟨e1, e2⟩ | ⟨e1, e2⟩ <;> rw [e1, e2]
    · exact ne
    · exact ne.symm
  · obtain ⟨v, hv, rfl⟩ := paths_mem hw
    obtain ⟨p1, p2, ne⟩ := h.ways.1.2 v hv
    have a1 := wordOk_name (h.spots.1.2 _ p1)
    have a2 := wordOk_name (h.spots.1.2 _ p2)
    refine ⟨wordOk_name (h.ways.1.1.2 _ (List.mem_map.mpr ⟨v, hv, rfl⟩)), ?_⟩
    show WordOk (bestL v.2.1 v.2.2) ∧ WordOk (bestG v.2.1 v.2.2)
    rcases best_two ne with ⟨e1, e2⟩ | ⟨e1, e2⟩ <;> rw [e1, e2]
    · exact ⟨a1, a2⟩
    · exact ⟨a2, a1⟩
  · exact (h.shut.2 g (gates_mem hg).1).2.2
theorem sgn_ok {m0 m1 m2 m3 m4 : Int} {F : Fld} (h : FldOk m0 m1 m2 m3 m4 F) (h2 : m2 ≤ 10) (h3 : m3 ≤ 50) : ∀ q ∈ signsOf F.posts, SgnOk (sortS F.folk) (pathsOf F.ways) q := fun q hq => by
  obtain ⟨v, hv, rfl⟩ := signs_mem hq
  obtain ⟨⟨_, p2⟩, _, p4⟩ := h.posts.1.2 v hv
  have l1 := p2.length_le
  have l2 := p4.length_le
  rw [List.length_map] at l2
  have b1 := h.folk.2.2
  have b2 := h.ways.2
  refine ⟨⟨?_, ?_⟩, ⟨nodup_sortS (p2.nodup h.folk.1.1), nodup_sortS (p4.nodup h.ways.1.1.1)⟩, fun x hx => mem_sortS.mpr (p2.subset (mem_sortS.mp hx)), fun x hx => (paths_names.mem_iff).mpr (p4.subset (mem_sortS.mp hx))⟩
  · show (sortS v.2.1).length ≤ 10
    rw [sortS_len]; omega
  · show (sortS v.2.2).length ≤ 50
    rw [sortS_len]; omega
def lowerT (gs : List Gate) : List (List Key × D) := gs.map fun g => (kPair (gpair g), .int g.2.2)
theorem lower_get {hours : Int} {p : Str × Str} : ∀ {gs : List Gate}, (getD' (lowerT gs) (kPair p)).getD (.int hours) = .int (gateOf hours gs p)
  | [] => rfl
  | g :: gs => by
    have ih := lower_get (hours := hours) (p := p) (gs := gs)
    unfold getD' lowerT gateOf at *
    rw [List.map_cons, List.find?_cons, List.find?_cons]
    by_cases c : gpair g = p
    · simp only [c, decide_true]
      rfl
    · have c2 : ¬ kPair (gpair g) = kPair p := fun z => c (kPair_inj z)
      simp only [c, c2, decide_false]
      exact ih
theorem pairs_nodup {folk : List Str} {ws : List Way} (h1 : folk.Nodup) (h2 : (ws.map (·.1)).Nodup) : (pairsOf folk ws).Nodup := by
  unfold pairsOf List.Nodup
  refine List.pairwise_flatMap.mpr ⟨fun a _ => ?_, h1.imp fun {a b} n u hu v hv e => n ?_⟩
  · refine List.pairwise_map.mpr ?_
    exact (List.pairwise_map.mp h2).imp fun n e => n (congrArg (fun p : Str × Str => p.2) e)
  · obtain ⟨_, _, rfl⟩ := List.mem_map.mp hu
    obtain ⟨_, _, rfl⟩ := List.mem_map.mp hv
    exact congrArg (fun p : Str × Str => p.1) e
theorem nodup_map_inj {α β : Type} {f : α → β} (hf : ∀ a b, f a = f b → a = b) {l : List α} (h : l.Nodup) : (l.map f).Nodup := by
  unfold List.Nodup at *
  rw [List.pairwise_map]
  exact h.imp fun n e => n (hf _ _ e)
theorem nodup_comp {α β γ : Type} {f : α → β} {g : β → γ} (hg : ∀ a b, g a = g b → a = b) {l : List α} (h : (l.map f).Nodup) : (l.map fun a => g (f a)).Nodup := by
  have := nodup_map_inj hg h
  rw [List.map_map] at this
  exact this
theorem nodup_len {α : Type} [DecidableEq α] : ∀ {l m : List α}, l.Nodup → (∀ x ∈ l, x ∈ m) → l.length ≤ m.length
  | [], _, _, _ => Nat.zero_le _
  | a :: l, m, h, hs => by
    have hm : a ∈ m := hs a List.mem_cons_self
    have h1 := List.length_erase_of_mem hm
    have h2 := List.length_pos_of_mem hm
    have := nodup_len (l := l) (m := m.erase a) (List.nodup_cons.mp h).2 fun x hx => by
      have ne : x ≠ a := fun e => (List.nodup_cons.mp h).1 (by rw [← e]; exact hx)
      exact (List.mem_erase_of_ne ne).mpr (hs x (List.mem_cons_of_mem _ hx))
    rw [List.length_cons]
    omega
theorem lock1 {C : Addr} {fs : List (Str × D)} {f : Str} {l : List (Key × D)} (h : fld fs f = some (.dk l)) : lockP [f] (.ins C fs) = some (.ins C (putFD f (.fz l) fs)) := by
  unfold lockP
  rw [show List.lookup f fs = some (D.dk l) from h]
  rfl
theorem lock1T {C : Addr} {fs : List (Str × D)} {f : Str} {l : List (List Key × D)} (h : fld fs f = some (.dt l)) : lockP [f] (.ins C fs) = some (.ins C (putFD f (.fzt l) fs)) := by
  unfold lockP
  rw [show List.lookup f fs = some (D.dt l) from h]
  rfl
theorem inr_inj (a b : Str) (h : (Sum.inr a : Key) = .inr b) : a = b := Sum.inr.inj h
/-- all fields of a meadow, the last first -/
def mdwL (P : Program) (w : World) (F : Fld) : List (Str × D) :=
  let ws := pathsOf F.ways
  let gs := gatesOf F.hours F.shut
  let qs := signsOf F.posts
  let ps := pairsOf (sortS F.folk) ws
  [("_marks", .dk (qs.map fun q => (.inr q.1, markT P w (marksOf F.hours gs ws q)))),
   ("_paths_at", .dk ((sortS F.spots).map fun x => (.inr x, .tup ((pathsTo ws x).map .str)))),
   ("_watching", .dt (ps.map fun p => (kPair p, .tup ((watchersOf qs p).map .str)))),
   ("_gate", .dt (gateT F.hours gs ps)), ("signs", .tup (qs.map signD)), ("gates", .tup (gs.map gateD)), ("_ends", .dk (endsT ws)), ("paths", .tup (ws.map wayD)),
   ("walkers", .tup ((sortS F.folk).map .str)), ("places", .tup ((sortS F.spots).map .str)), ("hours", .int F.hours)]
theorem ff0 {F : Fld} {tw : Bool} {s : Str} (h : Fault F.spots tw s) : FirstFault (nameGroups F) (some (tw, s)) := ⟨0, _, rfl, fun m hm => by simp at hm, h⟩
theorem ff1 {F : Fld} {tw : Bool} {s : Str} (h0 : NamesOk F.spots) (h : Fault F.folk tw s) : FirstFault (nameGroups F) (some (tw, s)) := ⟨1, _, rfl, fun m hm => by
  rcases List.mem_cons.mp hm with rfl | hm
  · exact h0
  · exact absurd hm List.not_mem_nil, h⟩
theorem ff2 {F : Fld} {tw : Bool} {s : Str} (h0 : NamesOk F.spots) (h1 : NamesOk F.folk) (h : Fault (F.ways.map (·.1)) tw s) : FirstFault (nameGroups F) (some (tw, s)) := ⟨2, _, rfl, fun m hm => by
  rcases List.mem_cons.mp hm with rfl | hm
  · exact h0
  rcases List.mem_cons.mp hm with rfl | hm
  · exact h1
  · exact absurd hm List.not_mem_nil, h⟩
theorem ff3 {F : Fld} {tw : Bool} {s : Str} (h0 : NamesOk F.spots) (h1 : NamesOk F.folk) (h2 : NamesOk (F.ways.map (·.1))) (h : Fault (F.posts.map (·.1)) tw s) : FirstFault (nameGroups F) (some (tw, s)) := ⟨3, _, rfl, fun m hm => by
  rcases List.mem_cons.mp hm with rfl | hm
  · exact h0
  rcases List.mem_cons.mp hm with rfl | hm
  · exact h1
  rcases List.mem_cons.mp hm with rfl | hm
  · exact h2
  · exact absurd hm List.not_mem_nil, h⟩
theorem map_eq_mem {α β γ : Type} {f : α → γ} {g : β → γ} {l : List α} {m : List β} (h : l.map f = m.map g) {a : α} (ha : a ∈ l) : ∃ b ∈ m, g b = f a := by
  have : f a ∈ m.map g := h ▸ List.mem_map.mpr ⟨a, ha, rfl⟩
  obtain ⟨b, hb, e⟩ := List.mem_map.mp this
  exact ⟨b, hb, e⟩
section
variable {P : Program} {w : World} {K : PySem.W.Frag} {mg : Str → Option Value} {base : Heap} {f : Addr} {fd : FuncData} (Er : Errs P w K mg base) (cM : Addr)
/-- the class's own numbers -/
structure MeadowN (K : PySem.W.Frag) (mg : Str → Option Value) (cM : Addr) : Prop where
  at_ : mg "Meadow" = some (.ref cM)
  of : ∃ mc, ClX.CRead K cM mc ∧ (∃ u, ClX.CVal K cM mc "MOST_HOURS" (.int 6) u) ∧ (∃ u, ClX.CVal K cM mc "MOST_PLACES" (.int 7) u) ∧ (∃ u, ClX.CVal K cM mc "MOST_WALKERS" (.int 3) u) ∧ (∃ u, ClX.CVal K cM mc "MOST_PATHS" (.int 9) u) ∧ ∃ u, ClX.CVal K cM mc "MOST_SIGNS" (.int 9) u
structure MeadowM (P : Program) (w : World) (K : PySem.W.Frag) (mg : Str → Option Value) (base : Heap) (cM : Addr) : Prop where
  watchers : Md P w K mg base cM 1 "_watchers" ["self", "pair"] (spV K (SWatchers cM))
  paths_to : Md P w K mg base cM 1 "_paths_to" ["self", "place"] (spV K (SPathsTo cM))
  marks_of : Md P w K mg base cM 1 "_marks_of" ["self", "row"] (spV K (SMarksOf cM P w))
abbrev nInit : List Str := ["self", "hours", "places", "walkers", "paths", "gates", "signs", "name", "low", "high", "lower", "walker", "path", "hour", "pair", "place", "row"]
theorem scInit : FnScope nInit psInit (defScope M_Meadow___init__) := ⟨rfl, rfl, rfl, by decide +kernel, rfl, by decide +kernel, by decide +kernel⟩
/-- .. when it is looked at -/
abbrev GW (cM : Addr) (fs : List (Str × D)) (F : Fld) (l a pa pr x r : Sl) : List Sl :=
  [.ok (.ins cM fs), .ok (.int F.hours), .ok (.lst (F.spots.map .str)), .ok (.lst (F.folk.map .str)), .ok (.lst (F.ways.map wayD)), .ok (.lst (F.shut.map gateD)), .ok (.lst (F.posts.map postD)), .un, .un, .un, l, a, pa, .un, pr, x, r]
/-- the slots while it is made -/
abbrev GI (p : Addr) (fs : List (Str × D)) (F : Fld) (l n lo hi a pa ho pr x r : Sl) : List Sl :=
  [.own p (.ins cM fs), .ok (.int F.hours), .ok (.lst (F.spots.map .str)), .ok (.lst (F.folk.map .str)), .ok (.lst (F.ways.map wayD)), .ok (.lst (F.shut.map gateD)), .ok (.lst (F.posts.map postD)), n, lo, hi, l, a, pa, ho, pr, x, r]
theorem ok_init {dvs : List V} {kws : List (Str × V)} (MA : MeadowA K cM) (MN : MeadowN K mg cM) (MM : MeadowM P w K mg base cM) (F : FunD K "__init__" "Meadow.__init__" (defArgs M_Meadow___init__) (defBody M_Meadow___init__) (defScope M_Meadow___init__) dvs kws f fd) (T : Txt mg)
    (C_check_number : Fd P w K mg base 3 "check_number" ["number", "least", "most"] (spV K (SNumber Er))) (C_checked_names : Fd P w K mg base 4 "checked_names" ["names", "most"] (spV K (SNamesC Er))) (C_checked_paths : Fd P w K mg base 5 "checked_paths" ["paths", "most", "places"] (spV K (SPathsC Er)))
    (C_checked_gates : Fd P w K mg base 5 "checked_gates" ["gates", "hours", "walkers", "paths"] (spV K SGatesC)) (C_checked_signs : Fd P w K mg base 7 "checked_signs" ["signs", "most", "walkers", "paths"] (spV K (SSignsC Er))) : FnD P w K mg base 8 f fd psInit (spC K (SInit Er cM)) := by
  refine fn_C F scInit 6 rfl (by decide) (fun c ds Φ Ψ h => ?_) (fun f cdv A outer s H E hr c p c0 ds Φ Ψ h => ?_)
  · obtain ⟨_, _, _, rfl, _⟩ := h
    rfl
  · obtain ⟨F0, F, rfl, rfl, hh, h1, h2⟩ := h
    have hu : (cxOf (CX P w) P w K mg base nInit "Meadow.__init__" (defScope M_Meadow___init__) f cdv A outer s H E).A.units + 64 < cLine := hr.units
    obtain ⟨mc, rd, ⟨u1, v1⟩, ⟨u2, v2⟩, ⟨u3, v3⟩, ⟨u4, v4⟩, ⟨u5, v5⟩⟩ := MN.of
    obtain ⟨l1, l2, l3, l4⟩ := spo_len hh
    have sp := hh.2
    have fo := hh.1
    have hhr : 1 ≤ F.hours ∧ F.hours ≤ 3 := by rw [sp.hours]; exact fo.hours
    refine sv_cons <| s_expr <| ev_c C_check_number (hr.mono (by decide)) rfl c.takes <| ea_cons <| ev_name (i := 1) (d := .int F.hours) rfl rfl (.inr (.inl rfl)) <| ea_cons <| ev_int <| ea_cons <| ev_cval rfl MN.at_ rd v1 <| ea_nil <| ⟨F.hours, 1, 6, rfl, fun _ => ?_, fun z => absurd ⟨hhr.1, by omega⟩ z⟩
    refine sv_cons <| s_setf (i := 0) (d0 := .ins cM []) MA.cl MA.a_hours rfl rfl (.inr (.inl rfl)) <| ev_name (i := 1) (d := .int F.hours) rfl rfl (.inr (.inl rfl)) <| ⟨[], rfl, by decide, ?_⟩
    have A1 := FsA.nil.put (f := "hours") (d := .int F.hours) (by simp)
    generalize putFD "hours" (.int F.hours) [] = fs1 at A1 ⊢
    show SV _ _ _ _ (GI cM p fs1 F .un .un .un .un .un .un .un .un .un .un) _ _
    -- places
    refine sv_cons <| s_setf (i := 0) (d0 := .ins cM fs1) MA.cl MA.a_places rfl rfl (.inr (.inl rfl)) <| ev_c C_checked_names (hr.mono (by decide)) rfl c.takes <| ea_cons <| ev_name (i := 2) rfl rfl (.inl rfl) <| ea_cons <| ev_cval rfl MN.at_ rd v2 <| ea_nil <|
      ⟨F.spots, 7, rfl, by omega, sp.words.spots, fun z => by omega, fun _ e => absurd e (spo_spots hh), fun _ _ => ⟨fun tw s0 hf => ⟨_, rfl, h1 tw s0 (ff0 hf) _⟩, fun ok0 ys hp so => ⟨fs1, rfl, by have := A1.len; simp only [List.length_cons, List.length_nil] at this; omega, ?_⟩⟩⟩
    obtain rfl := sortS_uniq ok0.1 hp so
    have A2 := A1.put (f := "places") (d := .tup ((sortS F.spots).map .str)) (by show ("places" : Str) ∉ (["hours"] : List Str); decide +kernel)
    generalize putFD "places" (.tup ((sortS F.spots).map .str)) fs1 = fs2 at A2 ⊢
    show SV _ _ _ _ (GI cM p fs2 F .un .un .un .un .un .un .un .un .un .un) _ _
    have e0 : F.spots = F0.spots := sp.spots.1.resolve_right fun z => z ok0
    -- walkers
    have nf : F.folk ≠ [] := fun e => by
      have e1 := sp.folk.2
      rw [e] at e1
      exact fo.folk.2.1 (List.length_eq_zero_iff.mp e1.symm)
    refine sv_cons <| s_setf (i := 0) (d0 := .ins cM fs2) MA.cl MA.a_walkers rfl rfl (.inr (.inl rfl)) <| ev_c C_checked_names (hr.mono (by decide)) rfl c.takes <| ea_cons <| ev_name (i := 3) rfl rfl (.inl rfl) <| ea_cons <| ev_cval rfl MN.at_ rd v3 <| ea_nil <|
      ⟨F.folk, 3, rfl, by omega, sp.words.folk, fun z => by omega, fun _ e => absurd e nf, fun _ _ => ⟨fun tw s0 hf => ⟨_, rfl, h1 tw s0 (ff1 ok0 hf) _⟩, fun ok1 ys hp so => ⟨fs2, rfl, by have := A2.len; simp only [List.length_cons, List.length_nil] at this; omega, ?_⟩⟩⟩
    obtain rfl := sortS_uniq ok1.1 hp so
    have A3 := A2.put (f := "walkers") (d := .tup ((sortS F.folk).map .str)) (by show ("walkers" : Str) ∉ (["places", "hours"] : List Str); decide +kernel)
    generalize putFD "walkers" (.tup ((sortS F.folk).map .str)) fs2 = fs3 at A3 ⊢
    show SV _ _ _ _ (GI cM p fs3 F .un .un .un .un .un .un .un .un .un .un) _ _
    have e1 : F.folk = F0.folk := sp.folk.1.resolve_right fun z => z ok1
    -- paths
    refine sv_cons <| s_setf (i := 0) (d0 := .ins cM fs3) MA.cl MA.a_paths rfl rfl (.inr (.inl rfl)) <| ev_c C_checked_paths (hr.mono (by decide)) rfl c.takes <| ea_cons <| ev_name (i := 4) rfl rfl (.inl rfl) <| ea_cons <| ev_cval rfl MN.at_ rd v4 <| ea_cons <| ev_fldo (i := 0) MA.cl MA.a_places rfl rfl (.inr (.inl rfl)) (A3.get 1 _ _ rfl) <| ea_nil <|
      ⟨F.ways, 9, sortS F.spots, rfl, ⟨by omega, by omega⟩, fun v hv => ?_, fun tw s0 hf => ⟨_, rfl, h1 tw s0 (ff2 ok0 ok1 hf) _⟩, fun ok2 => ⟨fs3, rfl, by have := A3.len; simp only [List.length_cons, List.length_nil] at this; omega, ?_⟩⟩
    · obtain ⟨v0, hv0, e⟩ := map_eq_mem sp.ways.2 hv
      obtain ⟨q1, q2, q3⟩ := fo.ways.1.2 v0 hv0
      rw [e] at q1 q2 q3
      rw [← e0] at q1 q2
      exact ⟨(sp.words.ways v hv).1, mem_sortS.mpr q1, mem_sortS.mpr q2, q3⟩
    have e2 : F.ways = F0.ways := sp.ways.1.resolve_right fun z => z ok2
    have A4 := A3.put (f := "paths") (d := .tup ((pathsOf F.ways).map wayD)) (by show ("paths" : Str) ∉ (["walkers", "places", "hours"] : List Str); decide +kernel)
    generalize putFD "paths" (.tup ((pathsOf F.ways).map wayD)) fs3 = fs4 at A4 ⊢
    show SV _ _ _ _ (GI cM p fs4 F .un .un .un .un .un .un .un .un .un .un) _ _
    have pn : ((pathsOf F.ways).map (·.1)).Nodup := (paths_names.nodup_iff).mpr ok2.1
    -- _ends
    refine sv_cons <| s_setf (i := 0) (d0 := .ins cM fs4) MA.cl MA.a_ends rfl rfl (.inr (.inl rfl)) <| EF.ev <| ef_dc c [("name", 7), ("low", 8), ("high", 9)] [] (lcOk1 (blkOk_by (N := nInit) (sc := defScope M_Meadow___init__) (by decide +kernel)) (fun _ => rfl) (fun _ _ _ _ _ _ => rfl)) <| ei_tup <| ev_fldo (i := 0) MA.cl MA.a_paths rfl rfl (.inr (.inl rfl)) (A4.get 0 _ _ rfl) <| xo rfl ?_
    refine clp_dk wayD (fun v : Way => .inr v.1) (fun v : Way => .tup [.str v.2.1, .str v.2.2]) (pathsOf F.ways) (fun v => GI cM p fs4 F .un (.ok (.str v.1)) (.ok (.str v.2.1)) (.ok (.str v.2.2)) .un .un .un .un .un .un) (by rw [paths_len]; omega) (nodup_comp (f := fun v : Way => v.1) inr_inj pn) (fun Y hY v _ Φ h => ?_) (fun v _ => rfl) (fun Y hY v ha Φ h => ?_) (fun Y hY v ha Φ h => ?_) ⟨fs4, rfl, by have := A4.len; simp only [List.length_cons, List.length_nil] at this; omega, ?_⟩
    · have cY := ctx_blk c hY
      obtain ⟨_, _, _, _, _, rfl⟩ := hY
      exact gv_tup3 cY.calm <| gv_name (i := 7) (by decide) rfl (ltb rfl) (.inl rfl) c.nd <| gv_name (i := 8) (by decide) rfl (ltb rfl) (.inl rfl) c.nd <| gv_name (i := 9) (by decide) rfl (ltb rfl) (.inl rfl) c.nd h
    · obtain ⟨_, _, _, _, _, rfl⟩ := hY
      exact ev_name (i := 7) rfl rfl (.inl rfl) h
    · obtain ⟨_, _, _, _, _, rfl⟩ := hY
      exact ev_tup <| ea_cons <| ev_name (i := 8) rfl rfl (.inl rfl) <| ea_cons <| ev_name (i := 9) rfl rfl (.inl rfl) <| ea_nil <| xa (leb rfl) h
    have A5 := A4.put (f := "_ends") (d := .dk (endsT (pathsOf F.ways))) (by show ("_ends" : Str) ∉ (["paths", "walkers", "places", "hours"] : List Str); decide +kernel)
    show SV _ _ _ _ (GI cM p (putFD "_ends" (.dk (endsT (pathsOf F.ways))) fs4) F .un .un .un .un .un .un .un .un .un .un) _ _
    generalize putFD "_ends" (.dk (endsT (pathsOf F.ways))) fs4 = fs5 at A5 ⊢
    have kn : Known (.dk (endsT (pathsOf F.ways))) ((pathsOf F.ways).map (·.1)) := .inr ⟨_, rfl, by unfold endsT; rw [List.map_map, List.map_map]; rfl⟩
    -- gates
    have hsh : GatesOk F.hours (sortS F.folk) ((pathsOf F.ways).map (·.1)) F.shut := by
      rw [sp.shut, sp.hours, e1, e2]
      exact ⟨fo.shut.1, fun g hg => ⟨mem_sortS.mpr (fo.shut.2 g hg).1, (paths_names.mem_iff).mpr (fo.shut.2 g hg).2.1, (fo.shut.2 g hg).2.2⟩⟩
    have lsh : F.shut.length ≤ 1000 := by
      have hp := pairs_nodup (folk := F.folk) (ws := F.ways) ok1.1 ok2.1
      have hs : ∀ x ∈ F.shut.map fun g => (g.1, g.2.1), x ∈ pairsOf F.folk F.ways := fun x hx => by
        obtain ⟨g, hg, rfl⟩ := List.mem_map.mp hx
        have := hsh.2 g hg
        exact mem_pairs (mem_sortS.mp this.1) ((paths_names.mem_iff).mp this.2.1)
      have := nodup_len hsh.1 hs
      rw [List.length_map] at this
      have b := fm_len (f := fun a => F.ways.map fun w => (a, w.1)) (m := 5) l2 fun a _ => by rw [List.length_map]; exact l3
      have : F.shut.length ≤ 3 * 5 := Nat.le_trans this b
      omega
    refine sv_cons <| s_setf (i := 0) (d0 := .ins cM fs5) MA.cl MA.a_gates rfl rfl (.inr (.inl rfl)) <| ev_c C_checked_gates (hr.mono (by decide)) rfl c.takes <| ea_cons <| ev_name (i := 5) rfl rfl (.inl rfl) <| ea_cons <| ev_name (i := 1) (d := .int F.hours) rfl rfl (.inr (.inl rfl)) <| ea_cons <| ev_fldo (i := 0) MA.cl MA.a_walkers rfl rfl (.inr (.inl rfl)) (A5.get 2 _ _ rfl) <| ea_cons <| ev_fldo (i := 0) MA.cl MA.a_ends rfl rfl (.inr (.inl rfl)) (A5.get 0 _ _ rfl) <| ea_nil <|
      ⟨F.shut, F.hours, sortS F.folk, (pathsOf F.ways).map (·.1), _, rfl, kn, lsh, hsh, fun x hx => wordOk_name (ok1.2 x (mem_sortS.mp hx)), fun x hx => wordOk_name (ok2.2 x ((paths_names.mem_iff).mp hx)), fs5, rfl, by have := A5.len; simp only [List.length_cons, List.length_nil] at this; omega, ?_⟩
    have A6 := A5.put (f := "gates") (d := .tup ((gatesOf F.hours F.shut).map gateD)) (by show ("gates" : Str) ∉ (["_ends", "paths", "walkers", "places", "hours"] : List Str); decide +kernel)
    generalize putFD "gates" (.tup ((gatesOf F.hours F.shut).map gateD)) fs5 = fs6 at A6 ⊢
    show SV _ _ _ _ (GI cM p fs6 F .un .un .un .un .un .un .un .un .un .un) _ _
    -- signs
    refine sv_cons <| s_setf (i := 0) (d0 := .ins cM fs6) MA.cl MA.a_signs rfl rfl (.inr (.inl rfl)) <| ev_c C_checked_signs hr rfl c.takes <| ea_cons <| ev_name (i := 6) rfl rfl (.inl rfl) <| ea_cons <| ev_cval rfl MN.at_ rd v5 <| ea_cons <| ev_fldo (i := 0) MA.cl MA.a_walkers rfl rfl (.inr (.inl rfl)) (A6.get 3 _ _ rfl) <| ea_cons <| ev_fldo (i := 0) MA.cl MA.a_ends rfl rfl (.inr (.inl rfl)) (A6.get 1 _ _ rfl) <| ea_nil <|
      ⟨F.posts, 9, sortS F.folk, (pathsOf F.ways).map (·.1), _, rfl, kn, ⟨by omega, by omega⟩, fun q hq => ?_, fun tw s0 hf => ⟨_, rfl, h1 tw s0 (ff3 ok0 ok1 ok2 hf) _⟩, fun ok3 => ⟨fs6, rfl, by have := A6.len; simp only [List.length_cons, List.length_nil] at this; omega, ?_⟩⟩
    · obtain ⟨q0, hq0, e⟩ := map_eq_mem sp.posts.2 hq
      obtain ⟨⟨a1, a2⟩, a3, a4⟩ := fo.posts.1.2 q0 hq0
      rw [e] at a1 a2 a3 a4
      rw [← e1] at a2
      rw [← e2] at a4
      have b1 := a2.length_le
      have b2 := a4.length_le
      rw [List.length_map] at b2
      exact ⟨(sp.words.posts q hq).1, ⟨a1, a2.nodup ok1.1, by omega, fun x hx => mem_sortS.mpr (a2.subset hx)⟩, a3, a4.nodup ok2.1, by omega, fun x hx => (paths_names.mem_iff).mpr (a4.subset hx)⟩
    have e : F = F0 := handed_same hh (fun ns hm => by
      rcases List.mem_cons.mp hm with rfl | hm
      · exact ok0
      rcases List.mem_cons.mp hm with rfl | hm
      · exact ok1
      rcases List.mem_cons.mp hm with rfl | hm
      · exact ok2
      rcases List.mem_cons.mp hm with rfl | hm
      · exact ok3
      nomatch hm)
    have fok : FldOk 3 5 3 5 5 F := e ▸ fo
    have A7 := A6.put (f := "signs") (d := .tup ((signsOf F.posts).map signD)) (by show ("signs" : Str) ∉ (["gates", "_ends", "paths", "walkers", "places", "hours"] : List Str); decide +kernel)
    generalize putFD "signs" (.tup ((signsOf F.posts).map signD)) fs6 = fs7 at A7 ⊢
    show SV _ _ _ _ (GI cM p fs7 F .un .un .un .un .un .un .un .un .un .un) _ _
    have tok := tab_ok fok (by decide)
    have sok := sgn_ok fok (by decide) (by decide)
    -- lower
    have gnd : ((gatesOf F.hours F.shut).map fun g => kPair (gpair g)).Nodup := by
      refine nodup_comp (f := gpair) (fun _ _ => kPair_inj) ?_
      have := (((sortR_perm kG (F.shut.filter fun g => decide (g.2.2 < F.hours))).map gpair).nodup_iff).mpr (fok.shut.1.sublist (List.filter_sublist.map gpair))
      exact this
    have lg : (gatesOf F.hours F.shut).length ≤ 1000 := Nat.le_trans gatesC_len lsh
    refine sv_cons <| s_set (i := 10) rfl (.inr rfl) c.nd <| EF.ev <| ef_dt hu c [("walker", 11), ("path", 12), ("hour", 13)] [] (lcOk1 (blkOk_by (N := nInit) (sc := defScope M_Meadow___init__) (by decide +kernel)) (fun _ => rfl) (fun _ _ _ _ _ _ => rfl)) <| ei_tup <| ev_fldo (i := 0) MA.cl MA.a_gates rfl rfl (.inr (.inl rfl)) (A7.get 1 _ _ rfl) <| xo rfl ?_
    refine clp_dt gateD (fun g : Gate => kPair (gpair g)) (fun g : Gate => .int g.2.2) (gatesOf F.hours F.shut) (fun g => GI cM p fs7 F .un .un .un .un (.ok (.str g.1)) (.ok (.str g.2.1)) (.ok (.int g.2.2)) .un .un .un) (by omega) gnd (fun Y hY v _ Φ h => ?_) (fun v _ => rfl) (fun Y hY v ha Φ h => ?_) (fun Y hY v ha Φ h => ?_) (xa (ltb rfl) ?_)
    · have cY := ctx_blk c hY
      obtain ⟨_, _, _, _, _, rfl⟩ := hY
      exact gv_tup3 cY.calm <| gv_name (i := 11) (by decide) rfl (ltb rfl) (.inl rfl) c.nd <| gv_name (i := 12) (by decide) rfl (ltb rfl) (.inl rfl) c.nd <| gv_name (i := 13) (by decide) rfl (ltb rfl) (.inl rfl) c.nd h
    · obtain ⟨_, _, _, _, _, rfl⟩ := hY
      exact ev_ktup <| ea_cons <| ev_name (i := 11) (d := .str v.1) rfl rfl (.inl rfl) <| ea_cons <| ev_name (i := 12) (d := .str v.2.1) rfl rfl (.inl rfl) <| ea_nil <| ⟨kPair (gpair v), rfl, leb rfl, h⟩
    · obtain ⟨_, _, _, _, _, rfl⟩ := hY
      exact ev_name (i := 13) rfl rfl (.inl rfl) h
    show SV _ _ _ _ (GI cM p fs7 F (.ok (.dt (lowerT (gatesOf F.hours F.shut)))) .un .un .un .un .un .un .un .un .un) _ _
    -- _gate
    have ln7 : fs7.length < 1000 := by have := A7.len; simp only [List.length_cons, List.length_nil] at this; omega
    have fn := nodup_sortS ok1.1
    refine sv_cons <| s_setf (i := 0) (d0 := .ins cM fs7) MA.cl MA.a_gate rfl rfl (.inr (.inl rfl)) <| ev_see (i := 0) (p := p) (C := cM) (fs := fs7) rfl <| ev_lock (i := 0) (t := .ins cM fs7) ["_ends"] rfl (lock1 (A7.get 2 _ _ rfl)) <| EF.ev <| ef_dt hu c [("walker", 11), ("path", 12)] [⟨_, _, [], [12]⟩] (lcOk2c (blkOk_by (N := nInit) (sc := defScope M_Meadow___init__) (by decide +kernel)) (fun _ => rfl) (fun _ _ _ _ _ _ => rfl) (fun _ _ _ _ _ _ => rfl) (by decide)) <|
      ei_tup <| ev_fld MA.cl MA.a_walkers <| ev_name (i := 0) rfl rfl (.inr (.inl rfl)) <| ⟨_, _, rfl, (lookup_put_ne (by decide +kernel)).trans (A7.get 4 _ _ rfl), xo rfl ?_⟩
    let fv : Str → Way → List Key × D := fun a v => (kPair (a, v.1), .int (gateOf F.hours (gatesOf F.hours F.shut) (a, v.1)))
    have lw : (pathsOf F.ways).length ≤ 5 := by rw [paths_len]; exact l3
    have lf : (sortS F.folk).length ≤ 3 := by rw [sortS_len]; exact l2
    refine clp_app (f := fun a => (pathsOf F.ways).map (fv a)) D.str (sortS F.folk) [] (fun a => GW cM (putFD "_ends" (.fz (endsT (pathsOf F.ways))) fs7) F (.ok (.dt (lowerT (gatesOf F.hours F.shut)))) (.ok (.str a)) .un .un .un .un) (fun Y hY a _ Φ h => ?_) (fun a _ => rfl) (fun i a hi F' hF' => ?_) ?_
    · obtain ⟨_, _, _, _, _, rfl⟩ := hY
      exact gv_name (i := 11) (by decide) rfl (ltb rfl) (.inl rfl) c.nd h
    · have b1 := fm_take (i := i) lf fun a (_ : a ∈ sortS F.folk) => (show ((pathsOf F.ways).map (fv a)).length ≤ 5 by rw [List.length_map]; exact lw)
      intro Y hY
      obtain ⟨_, _, _, _, _, rfl⟩ := hY
      refine ei_keys <| ev_fld MA.cl MA.a_ends <| ev_name (i := 0) rfl rfl (.inr (.inl rfl)) <| ⟨_, _, rfl, lookup_put, .inl ⟨_, rfl, ?_⟩⟩
      rw [show ((endsT (pathsOf F.ways)).map fun x => keyD x.1) = (pathsOf F.ways).map fun v : Way => D.str v.1 by unfold endsT; rw [List.map_map]; rfl]
      refine clp_app (f := fun v => [fv a v]) (fun v : Way => D.str v.1) (pathsOf F.ways) _ (fun v => GW cM (putFD "_ends" (.fz (endsT (pathsOf F.ways))) fs7) F (.ok (.dt (lowerT (gatesOf F.hours F.shut)))) (.ok (.str a)) (.ok (.str v.1)) .un .un .un) (fun Y hY v _ Φ h => ?_) (fun v _ => rfl) (fun j v hj F2 hF2 => ?_) (by rw [← List.map_eq_flatMap]; exact hF')
      · obtain ⟨_, _, _, _, _, rfl⟩ := hY
        exact gv_name (i := 12) (by decide) rfl (ltb rfl) (.inl rfl) c.nd h
      · have b2 := fm_take (i := j) (m := 1) lw fun v (_ : v ∈ pathsOf F.ways) => Nat.le_refl [fv a v].length
        intro Y hY
        obtain ⟨_, _, _, _, _, rfl⟩ := hY
        refine ev_ktup <| ea_cons <| ev_name (i := 11) (d := .str a) rfl rfl (.inl rfl) <| ea_cons <| ev_name (i := 12) (d := .str v.1) rfl rfl (.inl rfl) <| ea_nil <| ⟨kPair (a, v.1), rfl, leb rfl, ev_dget2T hu <| ev_name (i := 10) (d := .dt (lowerT (gatesOf F.hours F.shut))) rfl rfl (.inr (.inl rfl)) <| ⟨_, rfl, ev_ktup <| ea_cons <| ev_name (i := 11) (d := .str a) rfl rfl (.inl rfl) <| ea_cons <| ev_name (i := 12) (d := .str v.1) rfl rfl (.inl rfl) <| ea_nil <| ⟨kPair (a, v.1), rfl, leb rfl, _, rfl, ev_name (i := 1) (d := .int F.hours) rfl rfl (.inr (.inl rfl)) ?_⟩⟩⟩
        rw [lower_get]
        refine ⟨kPair (a, v.1), rfl, by rw [List.length_append, List.nil_append]; omega, ?_⟩
        rw [putD_app]
        · exact hF2
        · intro m
          rw [List.nil_append, List.map_append, List.mem_append] at m
          rcases m with m | m
          · obtain ⟨x, hx, e3⟩ := List.mem_map.mp m
            obtain ⟨a', ha', hx⟩ := List.mem_flatMap.mp hx
            obtain ⟨v', _, rfl⟩ := List.mem_map.mp hx
            have e4 : a' = a := congrArg (fun p : Str × Str => p.1) (kPair_inj e3)
            subst e4
            obtain ⟨n, hn, e5⟩ := List.getElem_of_mem ha'
            rw [List.length_take] at hn
            rw [List.getElem_take] at e5
            have e6 : (sortS F.folk)[n]? = (sortS F.folk)[i]? := by rw [hi, ← e5]; exact List.getElem?_eq_getElem _
            have := (List.getElem?_inj (i := n) (j := i) (by omega) fn).mp e6
            omega
          · exact new_key (kf := fun v : Way => kPair (a, v.1)) (vf := fun v : Way => (fv a v).2) hj (nodup_comp (f := fun v : Way => v.1) (fun _ _ e => congrArg (fun p : Str × Str => p.2) (kPair_inj e)) pn) m
    have eg : [] ++ (sortS F.folk).flatMap (fun a => (pathsOf F.ways).map (fv a)) = gateT F.hours (gatesOf F.hours F.shut) (pairsOf (sortS F.folk) (pathsOf F.ways)) := by
      unfold gateT pairsOf
      rw [List.nil_append, List.map_flatMap]
      congr 1; funext a
      rw [List.map_map]
      rfl
    rw [eg]
    have st : Still (.dt (gateT F.hours (gatesOf F.hours F.shut) (pairsOf (sortS F.folk) (pathsOf F.ways)))) := stillT_map fun _ _ => trivial
    refine ⟨st, st, fs7, rfl, ln7, ?_⟩
    have A8 := A7.put (f := "_gate") (d := .dt (gateT F.hours (gatesOf F.hours F.shut) (pairsOf (sortS F.folk) (pathsOf F.ways)))) (by show ("_gate" : Str) ∉ (["signs", "gates", "_ends", "paths", "walkers", "places", "hours"] : List Str); decide +kernel)
    generalize putFD "_gate" (.dt (gateT F.hours (gatesOf F.hours F.shut) (pairsOf (sortS F.folk) (pathsOf F.ways)))) fs7 = fs8 at A8 ⊢
    show SV _ _ _ _ (GI cM p fs8 F (.ok (.dt (lowerT (gatesOf F.hours F.shut)))) .un .un .un .un .un .un .un .un .un) _ _
    have ln8 : fs8.length < 1000 := by have := A8.len; simp only [List.length_cons, List.length_nil] at this; omega
    -- _watching
    have lp : (pairsOf (sortS F.folk) (pathsOf F.ways)).length ≤ 15 := fm_len (f := fun a => (pathsOf F.ways).map fun w : Way => ((a, w.1) : Str × Str)) (n := 3) (m := 5) lf fun a _ => by rw [List.length_map]; exact lw
    have lq : (signsOf F.posts).length ≤ 5 := by rw [signs_len]; exact l4
    refine sv_cons <| s_setf (i := 0) (d0 := .ins cM fs8) MA.cl MA.a_watching rfl rfl (.inr (.inl rfl)) <| ev_see (i := 0) (p := p) (C := cM) (fs := fs8) rfl <| ev_lock (i := 0) (t := .ins cM fs8) ["_gate"] rfl (lock1T (A8.get 0 _ _ rfl)) <| EF.ev <| ef_dt hu c [("pair", 14)] [] (lcOk1 (blkOk_by (N := nInit) (sc := defScope M_Meadow___init__) (by decide +kernel)) (fun _ => rfl) (fun _ _ _ _ _ _ => rfl)) <|
      ei_keys <| ev_fld MA.cl MA.a_gate <| ev_name (i := 0) rfl rfl (.inr (.inl rfl)) <| ⟨_, _, rfl, lookup_put, .inr ⟨_, rfl, ?_⟩⟩
    rw [show ((gateT F.hours (gatesOf F.hours F.shut) (pairsOf (sortS F.folk) (pathsOf F.ways))).map fun x => D.ktup x.1) = (pairsOf (sortS F.folk) (pathsOf F.ways)).map fun q => D.ktup (kPair q) by unfold gateT; rw [List.map_map]; rfl]
    refine clp_dt (fun q => D.ktup (kPair q)) kPair (fun q => .tup ((watchersOf (signsOf F.posts) q).map .str)) (pairsOf (sortS F.folk) (pathsOf F.ways)) (fun q => GW cM (putFD "_gate" (.fzt (gateT F.hours (gatesOf F.hours F.shut) (pairsOf (sortS F.folk) (pathsOf F.ways)))) fs8) F (.ok (.dt (lowerT (gatesOf F.hours F.shut)))) .un .un (.ok (.ktup (kPair q))) .un .un) (by omega) (nodup_map_inj (fun _ _ => kPair_inj) (pairs_nodup fn pn)) (fun Y hY v _ Φ h => ?_) (fun v _ => rfl) (fun Y hY v ha Φ h => ?_) (fun Y hY v ha Φ h => ?_) ?_
    · obtain ⟨_, _, _, _, _, rfl⟩ := hY
      exact gv_name (i := 14) (by decide) rfl (ltb rfl) (.inl rfl) c.nd h
    · obtain ⟨_, _, _, _, _, rfl⟩ := hY
      exact ev_name (i := 14) rfl rfl (.inl rfl) h
    · obtain ⟨_, _, _, _, _, rfl⟩ := hY
      exact ev_mt MA.cl MM.watchers (hr.mono (by decide)) takes_false <| ev_name (i := 0) rfl rfl (.inr (.inl rfl)) <| ⟨_, rfl, (lookup_put_ne (by decide +kernel)).trans (A8.only _ (by show ("_watchers" : Str) ∉ (["_gate", "signs", "gates", "_ends", "paths", "walkers", "places", "hours"] : List Str); decide +kernel)), ea_cons <| ev_name (i := 14) (d := .ktup (kPair v)) rfl rfl (.inl rfl) <| ea_nil <| ⟨_, signsOf F.posts, v.1, v.2, rfl, (lookup_put_ne (by decide +kernel)).trans (A8.get 1 _ _ rfl), by omega, h⟩⟩
    have st : Still (.dt ((pairsOf (sortS F.folk) (pathsOf F.ways)).map fun q => (kPair q, .tup ((watchersOf (signsOf F.posts) q).map .str)))) := stillT_map fun _ _ => stills_map fun _ _ => trivial
    refine ⟨st, st, fs8, rfl, ln8, ?_⟩
    have A9 := A8.put (f := "_watching") (d := .dt ((pairsOf (sortS F.folk) (pathsOf F.ways)).map fun q => (kPair q, .tup ((watchersOf (signsOf F.posts) q).map .str)))) (by show ("_watching" : Str) ∉ (["_gate", "signs", "gates", "_ends", "paths", "walkers", "places", "hours"] : List Str); decide +kernel)
    generalize putFD "_watching" (.dt ((pairsOf (sortS F.folk) (pathsOf F.ways)).map fun q => (kPair q, .tup ((watchersOf (signsOf F.posts) q).map .str)))) fs8 = fs9 at A9 ⊢
    show SV _ _ _ _ (GI cM p fs9 F (.ok (.dt (lowerT (gatesOf F.hours F.shut)))) .un .un .un .un .un .un .un .un .un) _ _
    have ln9 : fs9.length < 1000 := by have := A9.len; simp only [List.length_cons, List.length_nil] at this; omega
    -- _paths_at
    have ls : (sortS F.spots).length ≤ 5 := by rw [sortS_len]; exact l1
    refine sv_cons <| s_setf (i := 0) (d0 := .ins cM fs9) MA.cl MA.a_paths_at rfl rfl (.inr (.inl rfl)) <| ev_see (i := 0) (p := p) (C := cM) (fs := fs9) rfl <| EF.ev <| ef_dc c [("place", 15)] [] (lcOk1 (blkOk_by (N := nInit) (sc := defScope M_Meadow___init__) (by decide +kernel)) (fun _ => rfl) (fun _ _ _ _ _ _ => rfl)) <|
      ei_tup <| ev_fld MA.cl MA.a_places <| ev_name (i := 0) rfl rfl (.inr (.inl rfl)) <| ⟨_, _, rfl, A9.get 7 _ _ rfl, xo rfl ?_⟩
    refine clp_dk D.str Sum.inr (fun x => .tup ((pathsTo (pathsOf F.ways) x).map .str)) (sortS F.spots) (fun x => GW cM fs9 F (.ok (.dt (lowerT (gatesOf F.hours F.shut)))) .un .un .un (.ok (.str x)) .un) (by omega) (nodup_map_inj inr_inj (nodup_sortS ok0.1)) (fun Y hY v _ Φ h => ?_) (fun v _ => rfl) (fun Y hY v ha Φ h => ?_) (fun Y hY v ha Φ h => ?_) ?_
    · obtain ⟨_, _, _, _, _, rfl⟩ := hY
      exact gv_name (i := 15) (by decide) rfl (ltb rfl) (.inl rfl) c.nd h
    · obtain ⟨_, _, _, _, _, rfl⟩ := hY
      exact ev_name (i := 15) rfl rfl (.inl rfl) h
    · obtain ⟨_, _, _, _, _, rfl⟩ := hY
      exact ev_mt MA.cl MM.paths_to (hr.mono (by decide)) takes_false <| ev_name (i := 0) rfl rfl (.inr (.inl rfl)) <| ⟨_, rfl, A9.only _ (by show ("_paths_to" : Str) ∉ (["_watching", "_gate", "signs", "gates", "_ends", "paths", "walkers", "places", "hours"] : List Str); decide +kernel), ea_cons <| ev_name (i := 15) (d := .str v) rfl rfl (.inl rfl) <| ea_nil <| ⟨_, pathsOf F.ways, v, rfl, A9.get 4 _ _ rfl, by omega, pn, h⟩⟩
    have st : Still (.dk ((sortS F.spots).map fun x => (Sum.inr x, .tup ((pathsTo (pathsOf F.ways) x).map .str)))) := stillK_map fun _ _ => stills_map fun _ _ => trivial
    refine ⟨st, fs9, rfl, ln9, ?_⟩
    have A10 := A9.put (f := "_paths_at") (d := .dk ((sortS F.spots).map fun x => (Sum.inr x, .tup ((pathsTo (pathsOf F.ways) x).map .str)))) (by show ("_paths_at" : Str) ∉ (["_watching", "_gate", "signs", "gates", "_ends", "paths", "walkers", "places", "hours"] : List Str); decide +kernel)
    generalize putFD "_paths_at" (.dk ((sortS F.spots).map fun x => (Sum.inr x, .tup ((pathsTo (pathsOf F.ways) x).map .str)))) fs9 = fs10 at A10 ⊢
    show SV _ _ _ _ (GI cM p fs10 F (.ok (.dt (lowerT (gatesOf F.hours F.shut)))) .un .un .un .un .un .un .un .un .un) _ _
    have ln10 : fs10.length < 1000 := by have := A10.len; simp only [List.length_cons, List.length_nil] at this; omega
    -- _marks
    have sn : ((signsOf F.posts).map (·.1)).Nodup := (signs_names.nodup_iff).mpr fok.posts.1.1.1
    refine sv_cons <| s_setf (i := 0) (d0 := .ins cM fs10) MA.cl MA.a_marks rfl rfl (.inr (.inl rfl)) <| ev_see (i := 0) (p := p) (C := cM) (fs := fs10) rfl <| EF.ev <| ef_dc c [("row", 16)] [] (lcOk1 (blkOk_by (N := nInit) (sc := defScope M_Meadow___init__) (by decide +kernel)) (fun _ => rfl) (fun _ _ _ _ _ _ => rfl)) <|
      ei_tup <| ev_fld MA.cl MA.a_signs <| ev_name (i := 0) rfl rfl (.inr (.inl rfl)) <| ⟨_, _, rfl, A10.get 3 _ _ rfl, xo rfl ?_⟩
    refine clp_dk signD (fun q : Sgn => Sum.inr q.1) (fun q => markT P w (marksOf F.hours (gatesOf F.hours F.shut) (pathsOf F.ways) q)) (signsOf F.posts) (fun q => GW cM fs10 F (.ok (.dt (lowerT (gatesOf F.hours F.shut)))) .un .un .un .un (.ok (signD q))) (by omega) (nodup_comp (f := fun q : Sgn => q.1) inr_inj sn) (fun Y hY v _ Φ h => ?_) (fun v _ => rfl) (fun Y hY v ha Φ h => ?_) (fun Y hY v ha Φ h => ?_) ?_
    · obtain ⟨_, _, _, _, _, rfl⟩ := hY
      exact gv_name (i := 16) (by decide) rfl (ltb rfl) (.inl rfl) c.nd h
    · obtain ⟨_, _, _, _, _, rfl⟩ := hY
      exact ev_ix <| ev_name (i := 16) (d := signD v) rfl rfl (.inl rfl) <| ev_int <| ix_t (d := .str v.1) rfl h
    · obtain ⟨_, _, _, _, _, rfl⟩ := hY
      exact ev_mt MA.cl MM.marks_of (hr.mono (by decide)) takes_false <| ev_name (i := 0) rfl rfl (.inr (.inl rfl)) <| ⟨_, rfl, A10.only _ (by show ("_marks_of" : Str) ∉ (["_paths_at", "_watching", "_gate", "signs", "gates", "_ends", "paths", "walkers", "places", "hours"] : List Str); decide +kernel), ea_cons <| ev_name (i := 16) (d := signD v) rfl rfl (.inl rfl) <| ea_nil <| ⟨_, v, F.hours, sortS F.folk, pathsOf F.ways, gatesOf F.hours F.shut, rfl, A10.get 5 _ _ rfl, A10.get 2 _ _ rfl, tok, sok v ha, h⟩⟩
    have st : Still (.dk ((signsOf F.posts).map fun q => (Sum.inr q.1, markT P w (marksOf F.hours (gatesOf F.hours F.shut) (pathsOf F.ways) q)))) := stillK_map fun _ _ => stillN_all fun x hx => by
      obtain ⟨_, _, rfl⟩ := List.mem_map.mp hx
      trivial
    refine ⟨st, fs10, rfl, ln10, ?_⟩
    have A11 := A10.put (f := "_marks") (d := .dk ((signsOf F.posts).map fun q => (Sum.inr q.1, markT P w (marksOf F.hours (gatesOf F.hours F.shut) (pathsOf F.ways) q)))) (by show ("_marks" : Str) ∉ (["_paths_at", "_watching", "_gate", "signs", "gates", "_ends", "paths", "walkers", "places", "hours"] : List Str); decide +kernel)
    exact sv_nil ⟨_, rfl, h2 e _ ⟨A11.get 9 _ _ rfl, A11.get 8 _ _ rfl, A11.get 7 _ _ rfl, A11.get 4 _ _ rfl⟩⟩
end
end K00
end

section
set_option maxRecDepth 100000
set_option maxHeartbeats 0
namespace K00
open PySem PySem.Spec PyProof.Rows L2 DL DH
def fa : List He.Fa := [.glo "only_digits", .glo "is_name", .glo "check_number", .glo "check_count", .glo "check_known", .glo "check_new", .glo "check_each", .glo "check_some", .glo "check_path_row", .glo "check_gate_row", .glo "check_sign_row", .glo "checked_names", .glo "checked_paths", .glo "checked_gates", .glo "checked_signs", .glo "_law_pool", .glo "_law_mixed", .glo "_law_draw", .glo "_law_names", .glo "_law_size", .glo "_law_some", .glo "_law_posts", .glo "_law_field", .glo "_law_made", .glo "_law_same", .glo "_law_is_name", .glo "_law_shared", .glo "_law_odd", .glo "_law_spoilt", .glo "_law_first_fault", .glo "_law_refusal", .glo "_law_kinds", .glo "law", .glo "BadName", .glo "Unknown", .glo "Twice", .glo "BadPath", .glo "BadNumber", .glo "TooMany", .glo "GrassError", .glo "Meadow", .glo "OLD", .free "int", .free "len", .free "abs", .free "list", .free "tuple", .free "max", .free "min", .free "sorted", .free "all", .free "isinstance", .free "range", .free "enumerate", .free "str", .free "bool", .free "dict", .free "ValueError", .str "LETTERS" LET, .str "DIGITS" FIG, .int "MOST_DIGITS" 3, .cls "Meadow", .mkr "Meadow", .noat "Meadow" "hours", .noat "Meadow" "places", .noat "Meadow" "walkers", .noat "Meadow" "paths", .noat "Meadow" "_ends", .noat "Meadow" "gates", .noat "Meadow" "signs", .noat "Meadow" "_gate", .noat "Meadow" "_watching", .noat "Meadow" "_paths_at", .noat "Meadow" "_marks", .meth "Meadow" "_watchers", .meth "Meadow" "_paths_to", .meth "Meadow" "_marks_of", .exm "BadName" "BadName" true, .exm "BadName" "Twice" false, .exm "BadName" "GrassError" true, .exm "Twice" "BadName" false, .exm "Twice" "Twice" true, .exm "Twice" "GrassError" true]
def fb (K : PySem.W.Frag) : Bool := (fa.all fun f => f.ok K) && (errB K "BadName" "name" && (errB K "Unknown" "name" && (errB K "Twice" "name" && (errB K "BadPath" "name" && (errB K "BadNumber" "number" && (errB K "TooMany" "most" && (excB K (He.ga K "BadName") && (excB K (He.ga K "Twice") && (creadB K (He.ga K "Meadow") && (cvalB K (He.ga K "Meadow") "MOST_HOURS" 6 && (cvalB K (He.ga K "Meadow") "MOST_PLACES" 7 && (cvalB K (He.ga K "Meadow") "MOST_WALKERS" 3 && (cvalB K (He.ga K "Meadow") "MOST_PATHS" 9 && (cvalB K (He.ga K "Meadow") "MOST_SIGNS" 9 && (He.tupB K "OLD" [.int 0, .str "", .str "", .str ""] && (kitX K (He.ga K "BadName") (.type "ValueError") true && (kitX K (He.ga K "BadName") (.ref (He.ga K "BadName")) true && (kitX K (He.ga K "BadName") (.ref (He.ga K "Unknown")) false && (kitX K (He.ga K "BadName") (.ref (He.ga K "Twice")) false && (kitX K (He.ga K "BadName") (.ref (He.ga K "BadPath")) false && (kitX K (He.ga K "BadName") (.ref (He.ga K "BadNumber")) false && (kitX K (He.ga K "BadName") (.ref (He.ga K "TooMany")) false && (kitX K (He.ga K "Twice") (.type "ValueError") true && (kitX K (He.ga K "Twice") (.ref (He.ga K "BadName")) false && (kitX K (He.ga K "Twice") (.ref (He.ga K "Unknown")) false && (kitX K (He.ga K "Twice") (.ref (He.ga K "Twice")) true && (kitX K (He.ga K "Twice") (.ref (He.ga K "BadPath")) false && (kitX K (He.ga K "Twice") (.ref (He.ga K "BadNumber")) false && (kitX K (He.ga K "Twice") (.ref (He.ga K "TooMany")) false)))))))))))))))))))))))))))))
def dd_S_only_digits : He.DefD := ⟨("only_digits", none), "only_digits", "only_digits", defArgs S_only_digits, defBody S_only_digits, defScope S_only_digits, [], []⟩
def dd_S_is_name : He.DefD := ⟨("is_name", none), "is_name", "is_name", defArgs S_is_name, defBody S_is_name, defScope S_is_name, [], []⟩
def dd_S_check_number : He.DefD := ⟨("check_number", none), "check_number", "check_number", defArgs S_check_number, defBody S_check_number, defScope S_check_number, [], []⟩
def dd_S_check_count : He.DefD := ⟨("check_count", none), "check_count", "check_count", defArgs S_check_count, defBody S_check_count, defScope S_check_count, [], []⟩
def dd_S_check_known : He.DefD := ⟨("check_known", none), "check_known", "check_known", defArgs S_check_known, defBody S_check_known, defScope S_check_known, [], []⟩
def dd_S_check_new : He.DefD := ⟨("check_new", none), "check_new", "check_new", defArgs S_check_new, defBody S_check_new, defScope S_check_new, [], []⟩
def dd_S_check_each : He.DefD := ⟨("check_each", none), "check_each", "check_each", defArgs S_check_each, defBody S_check_each, defScope S_check_each, [], []⟩
def dd_S_check_some : He.DefD := ⟨("check_some", none), "check_some", "check_some", defArgs S_check_some, defBody S_check_some, defScope S_check_some, [], []⟩
def dd_S_check_path_row : He.DefD := ⟨("check_path_row", none), "check_path_row", "check_path_row", defArgs S_check_path_row, defBody S_check_path_row, defScope S_check_path_row, [], []⟩
def dd_S_check_gate_row : He.DefD := ⟨("check_gate_row", none), "check_gate_row", "check_gate_row", defArgs S_check_gate_row, defBody S_check_gate_row, defScope S_check_gate_row, [], []⟩
def dd_S_check_sign_row : He.DefD := ⟨("check_sign_row", none), "check_sign_row", "check_sign_row", defArgs S_check_sign_row, defBody S_check_sign_row, defScope S_check_sign_row, [], []⟩
def dd_S_checked_names : He.DefD := ⟨("checked_names", none), "checked_names", "checked_names", defArgs S_checked_names, defBody S_checked_names, defScope S_checked_names, [], []⟩
def dd_S_checked_paths : He.DefD := ⟨("checked_paths", none), "checked_paths", "checked_paths", defArgs S_checked_paths, defBody S_checked_paths, defScope S_checked_paths, [], []⟩
def dd_S_checked_gates : He.DefD := ⟨("checked_gates", none), "checked_gates", "checked_gates", defArgs S_checked_gates, defBody S_checked_gates, defScope S_checked_gates, [], []⟩
def dd_S_checked_signs : He.DefD := ⟨("checked_signs", none), "checked_signs", "checked_signs", defArgs S_checked_signs, defBody S_checked_signs, defScope S_checked_signs, [], []⟩
def dd_S__law_pool : He.DefD := ⟨("_law_pool", none), "_law_pool", "_law_pool", defArgs S__law_pool, defBody S__law_pool, defScope S__law_pool, [], []⟩
def dd_S__law_mixed : He.DefD := ⟨("_law_mixed", none), "_law_mixed", "_law_mixed", defArgs S__law_mixed, defBody S__law_mixed, defScope S__law_mixed, [], []⟩
def dd_S__law_draw : He.DefD := ⟨("_law_draw", none), "_law_draw", "_law_draw", defArgs S__law_draw, defBody S__law_draw, defScope S__law_draw, [], []⟩
def dd_S__law_names : He.DefD := ⟨("_law_names", none), "_law_names", "_law_names", defArgs S__law_names, defBody S__law_names, defScope S__law_names, [], []⟩
def dd_S__law_size : He.DefD := ⟨("_law_size", none), "_law_size", "_law_size", defArgs S__law_size, defBody S__law_size, defScope S__law_size, [], []⟩
def dd_S__law_some : He.DefD := ⟨("_law_some", none), "_law_some", "_law_some", defArgs S__law_some, defBody S__law_some, defScope S__law_some, [], []⟩
def dd_S__law_posts : He.DefD := ⟨("_law_posts", none), "_law_posts", "_law_posts", defArgs S__law_posts, defBody S__law_posts, defScope S__law_posts, [], []⟩
def dd_S__law_field : He.DefD := ⟨("_law_field", none), "_law_field", "_law_field", defArgs S__law_field, defBody S__law_field, defScope S__law_field, [], []⟩
def dd_S__law_made : He.DefD := ⟨("_law_made", none), "_law_made", "_law_made", defArgs S__law_made, defBody S__law_made, defScope S__law_made, [], []⟩
def dd_S__law_same : He.DefD := ⟨("_law_same", none), "_law_same", "_law_same", defArgs S__law_same, defBody S__law_same, defScope S__law_same, [], []⟩
def dd_S__law_is_name : He.DefD := ⟨("_law_is_name", none), "_law_is_name", "_law_is_name", defArgs S__law_is_name, defBody S__law_is_name, defScope S__law_is_name, [], []⟩
def dd_S__law_shared : He.DefD := ⟨("_law_shared", none), "_law_shared", "_law_shared", defArgs S__law_shared, defBody S__law_shared, defScope S__law_shared, [], []⟩
def dd_S__law_odd : He.DefD := ⟨("_law_odd", none), "_law_odd", "_law_odd", defArgs S__law_odd, defBody S__law_odd, defScope S__law_odd, [], []⟩
def dd_S__law_spoilt : He.DefD := ⟨("_law_spoilt", none), "_law_spoilt", "_law_spoilt", defArgs S__law_spoilt, defBody S__law_spoilt, defScope S__law_spoilt, [], []⟩
def dd_S__law_first_fault : He.DefD := ⟨("_law_first_fault", none), "_law_first_fault", "_law_first_fault", defArgs S__law_first_fault, defBody S__law_first_fault, defScope S__law_first_fault, [], []⟩
def dd_S__law_refusal : He.DefD := ⟨("_law_refusal", none), "_law_refusal", "_law_refusal", defArgs S__law_refusal, defBody S__law_refusal, defScope S__law_refusal, [], []⟩
def dd_S__law_kinds : He.DefD := ⟨("_law_kinds", none), "_law_kinds", "_law_kinds", defArgs S__law_kinds, defBody S__law_kinds, defScope S__law_kinds, [], []⟩
def dd_S_law : He.DefD := ⟨("law", none), "law", "law", defArgs S_law, defBody S_law, defScope S_law, [], []⟩
def dd_M_BadName___init__ : He.DefD := ⟨("BadName", some "__init__"), "__init__", "BadName.__init__", defArgs M_BadName___init__, defBody M_BadName___init__, defScope M_BadName___init__, [], []⟩
def dd_M_Unknown___init__ : He.DefD := ⟨("Unknown", some "__init__"), "__init__", "Unknown.__init__", defArgs M_Unknown___init__, defBody M_Unknown___init__, defScope M_Unknown___init__, [], []⟩
def dd_M_Twice___init__ : He.DefD := ⟨("Twice", some "__init__"), "__init__", "Twice.__init__", defArgs M_Twice___init__, defBody M_Twice___init__, defScope M_Twice___init__, [], []⟩
def dd_M_BadPath___init__ : He.DefD := ⟨("BadPath", some "__init__"), "__init__", "BadPath.__init__", defArgs M_BadPath___init__, defBody M_BadPath___init__, defScope M_BadPath___init__, [], []⟩
def dd_M_BadNumber___init__ : He.DefD := ⟨("BadNumber", some "__init__"), "__init__", "BadNumber.__init__", defArgs M_BadNumber___init__, defBody M_BadNumber___init__, defScope M_BadNumber___init__, [], []⟩
def dd_M_TooMany___init__ : He.DefD := ⟨("TooMany", some "__init__"), "__init__", "TooMany.__init__", defArgs M_TooMany___init__, defBody M_TooMany___init__, defScope M_TooMany___init__, [], []⟩
def dd_M_Meadow__watchers : He.DefD := ⟨("Meadow", some "_watchers"), "_watchers", "Meadow._watchers", defArgs M_Meadow__watchers, defBody M_Meadow__watchers, defScope M_Meadow__watchers, [], []⟩
def dd_M_Meadow__paths_to : He.DefD := ⟨("Meadow", some "_paths_to"), "_paths_to", "Meadow._paths_to", defArgs M_Meadow__paths_to, defBody M_Meadow__paths_to, defScope M_Meadow__paths_to, [], []⟩
def dd_M_Meadow__marks_of : He.DefD := ⟨("Meadow", some "_marks_of"), "_marks_of", "Meadow._marks_of", defArgs M_Meadow__marks_of, defBody M_Meadow__marks_of, defScope M_Meadow__marks_of, [], []⟩
def dd_M_Meadow___init__ : He.DefD := ⟨("Meadow", some "__init__"), "__init__", "Meadow.__init__", defArgs M_Meadow___init__, defBody M_Meadow___init__, defScope M_Meadow___init__, [], [("gates", .adr (kwAt ("Meadow", some "__init__") "gates"))]⟩
def fn : List He.DefD := [dd_S_only_digits, dd_S_is_name, dd_S_check_number, dd_S_check_count, dd_S_check_known, dd_S_check_new, dd_S_check_each, dd_S_check_some, dd_S_check_path_row, dd_S_check_gate_row, dd_S_check_sign_row, dd_S_checked_names, dd_S_checked_paths, dd_S_checked_gates, dd_S_checked_signs, dd_S__law_pool, dd_S__law_mixed, dd_S__law_draw, dd_S__law_names, dd_S__law_size, dd_S__law_some, dd_S__law_posts, dd_S__law_field, dd_S__law_made, dd_S__law_same, dd_S__law_is_name, dd_S__law_shared, dd_S__law_odd, dd_S__law_spoilt, dd_S__law_first_fault, dd_S__law_refusal, dd_S__law_kinds, dd_S_law, dd_M_BadName___init__, dd_M_Unknown___init__, dd_M_Twice___init__, dd_M_BadPath___init__, dd_M_BadNumber___init__, dd_M_TooMany___init__, dd_M_Meadow__watchers, dd_M_Meadow__paths_to, dd_M_Meadow__marks_of, dd_M_Meadow___init__]
def loose1 : List Str := ["_wall", "GrassError", "BadName", "Unknown", "Twice", "BadPath", "BadNumber", "TooMany", "LETTERS", "DIGITS", "MOST_DIGITS", "only_digits", "is_name", "check_number", "check_count", "check_known", "check_new", "check_each", "check_some", "check_path_row", "check_gate_row", "check_sign_row", "OLD"]
def loose2 : List Str := ["checked_names", "checked_paths", "checked_gates", "checked_signs", "Meadow", "_law_pool", "_law_mixed", "_law_draw", "_law_names", "_law_size", "_law_some", "_law_posts", "_law_field", "_law_made", "_law_is_number", "_law_same", "_law_is_name", "_law_shared", "_law_odd", "_law_spoilt", "_law_first_fault", "_law_refusal", "_law_kinds"]
def loose : List Str := loose1 ++ loose2
abbrev R : PySem.W.OpenRow := PySem.W.OpenLaw.row PySem.Challenge.rw_tallgrass_k00_meadow_names
abbrev hk : PySem.W.Hook := hookX 6 fb fn
def ob (s : PySem.W.SharedT) : AlX := obsXG 6 fb fn (HandSHeadRun.getT s)
theorem ob_eq (s : PySem.W.SharedT) : ob s = hk.obs s.abs := obsXG_eq (HandSHeadRun.getT_eq s)
theorem run (w : World) : HandSHeadRun.RunEq R (PySem.W.view R.prog [52]) hk ob 4000 loose w := by
  intro os
  kernel_rfl
end K00
end

section
set_option maxRecDepth 100000
set_option maxHeartbeats 1000000
namespace K00
open PySem PySem.Spec PyProof.Rows L2 DL DH
def moreL (K : PySem.W.Frag) : List Bool := [errB K "BadName" "name", errB K "Unknown" "name", errB K "Twice" "name", errB K "BadPath" "name", errB K "BadNumber" "number", errB K "TooMany" "most", excB K (He.ga K "BadName"), excB K (He.ga K "Twice"), creadB K (He.ga K "Meadow"), cvalB K (He.ga K "Meadow") "MOST_HOURS" 6, cvalB K (He.ga K "Meadow") "MOST_PLACES" 7, cvalB K (He.ga K "Meadow") "MOST_WALKERS" 3, cvalB K (He.ga K "Meadow") "MOST_PATHS" 9, cvalB K (He.ga K "Meadow") "MOST_SIGNS" 9, He.tupB K "OLD" [.int 0, .str "", .str "", .str ""], kitX K (He.ga K "BadName") (.type "ValueError") true, kitX K (He.ga K "BadName") (.ref (He.ga K "BadName")) true, kitX K (He.ga K "BadName") (.ref (He.ga K "Unknown")) false, kitX K (He.ga K "BadName") (.ref (He.ga K "Twice")) false, kitX K (He.ga K "BadName") (.ref (He.ga K "BadPath")) false, kitX K (He.ga K "BadName") (.ref (He.ga K "BadNumber")) false, kitX K (He.ga K "BadName") (.ref (He.ga K "TooMany")) false, kitX K (He.ga K "Twice") (.type "ValueError") true, kitX K (He.ga K "Twice") (.ref (He.ga K "BadName")) false, kitX K (He.ga K "Twice") (.ref (He.ga K "Unknown")) false, kitX K (He.ga K "Twice") (.ref (He.ga K "Twice")) true, kitX K (He.ga K "Twice") (.ref (He.ga K "BadPath")) false, kitX K (He.ga K "Twice") (.ref (He.ga K "BadNumber")) false, kitX K (He.ga K "Twice") (.ref (He.ga K "TooMany")) false]
theorem all_of {l : List Bool} (h : l.all id = true) (i : Nat) (b : Bool) (e : l[i]? = some b) : b = true := List.all_eq_true.mp h b (List.mem_of_getElem? e)
theorem more_all {K : PySem.W.Frag} (h : fb K = true) : (fa.all fun f => f.ok K) = true ∧ (moreL K).all id = true := by
  obtain ⟨h1, h2⟩ := ba (show ((fa.all fun f => f.ok K) && _) = true from h)
  refine ⟨h1, ?_⟩
  unfold moreL
  simp only [List.all_cons, List.all_nil, id, Bool.and_true]
  exact h2
section
variable {base : Heap} {K : PySem.W.Frag} {mg : Str → Option Value} {P : Program} {w : World}
theorem fact_of (h : (fa.all fun f => f.ok K) = true) (i : Nat) {f : He.Fa} (e : fa[i]? = some f := by rfl) : f.ok K = true := List.all_eq_true.mp h f (List.mem_of_getElem? e)
/-- a def is at hand -/
theorem fd_of {x : Str} {ps : List Str} {sp : Sp} {k : Nat} {d : He.DefD} {f : Addr} {fd : FuncData} (F : FunD K x x d.params d.body d.scope [] [] f fd) (ok : FnD P w K mg base k f fd ps sp) (g : mg x = some (.ref f)) (b : Binds K fd ps []) : Fd P w K mg base k x ps sp := ⟨f, fd, ok, g, F.kp, b⟩
theorem md_of {C : Addr} {m q : Str} {ps : List Str} {sp : Sp} {k : Nat} {d : He.DefD} {f : Addr} {fd : FuncData} (F : FunD K m q d.params d.body d.scope [] [] f fd) (ok : FnD P w K mg base k f fd ps sp) (g : Meth K C m f) (b : Binds K fd ps []) : Md P w K mg base C k m ps sp := ⟨f, fd, g, ok, b⟩
theorem ext_BadName {b0 : Heap} (X : K.In b0) (G : b0.Ns mainGlobals mg) (hf : (fa.all fun f => f.ok K) = true) (hm : (moreL K).all id = true) (c : SaysX fb fn K) : ExT P w K mg base "BadName" "name" (He.ga K "BadName") := by
  obtain ⟨e1, e2, e3, e4, e5⟩ := errB_ok (all_of hm 0 _ rfl)
  obtain ⟨fd, F⟩ := c.dfn 33 (d := dd_M_BadName___init__) rfl
  exact ⟨e1, e2, He.glo_ok X G (fact_of hf 33), e3, _, fd, e4, e5, DL.ok_init F ⟨rfl, rfl, rfl, by decide +kernel, rfl, by decide +kernel, by decide +kernel⟩ (.inl rfl) (.inl rfl) e1 e3, FunD.bindsN F fun _ _ _ _ _ _ us hl => match us, hl with | [_, _], _ => rfl⟩
theorem ext_Unknown {b0 : Heap} (X : K.In b0) (G : b0.Ns mainGlobals mg) (hf : (fa.all fun f => f.ok K) = true) (hm : (moreL K).all id = true) (c : SaysX fb fn K) : ExT P w K mg base "Unknown" "name" (He.ga K "Unknown") := by
  obtain ⟨e1, e2, e3, e4, e5⟩ := errB_ok (all_of hm 1 _ rfl)
  obtain ⟨fd, F⟩ := c.dfn 34 (d := dd_M_Unknown___init__) rfl
  exact ⟨e1, e2, He.glo_ok X G (fact_of hf 34), e3, _, fd, e4, e5, DL.ok_init F ⟨rfl, rfl, rfl, by decide +kernel, rfl, by decide +kernel, by decide +kernel⟩ (.inl rfl) (.inl rfl) e1 e3, FunD.bindsN F fun _ _ _ _ _ _ us hl => match us, hl with | [_, _], _ => rfl⟩
theorem ext_Twice {b0 : Heap} (X : K.In b0) (G : b0.Ns mainGlobals mg) (hf : (fa.all fun f => f.ok K) = true) (hm : (moreL K).all id = true) (c : SaysX fb fn K) : ExT P w K mg base "Twice" "name" (He.ga K "Twice") := by
  obtain ⟨e1, e2, e3, e4, e5⟩ := errB_ok (all_of hm 2 _ rfl)
  obtain ⟨fd, F⟩ := c.dfn 35 (d := dd_M_Twice___init__) rfl
  exact ⟨e1, e2, He.glo_ok X G (fact_of hf 35), e3, _, fd, e4, e5, DL.ok_init F ⟨rfl, rfl, rfl, by decide +kernel, rfl, by decide +kernel, by decide +kernel⟩ (.inl rfl) (.inl rfl) e1 e3, FunD.bindsN F fun _ _ _ _ _ _ us hl => match us, hl with | [_, _], _ => rfl⟩
theorem ext_BadPath {b0 : Heap} (X : K.In b0) (G : b0.Ns mainGlobals mg) (hf : (fa.all fun f => f.ok K) = true) (hm : (moreL K).all id = true) (c : SaysX fb fn K) : ExT P w K mg base "BadPath" "name" (He.ga K "BadPath") := by
  obtain ⟨e1, e2, e3, e4, e5⟩ := errB_ok (all_of hm 3 _ rfl)
  obtain ⟨fd, F⟩ := c.dfn 36 (d := dd_M_BadPath___init__) rfl
  exact ⟨e1, e2, He.glo_ok X G (fact_of hf 36), e3, _, fd, e4, e5, DL.ok_init F ⟨rfl, rfl, rfl, by decide +kernel, rfl, by decide +kernel, by decide +kernel⟩ (.inl rfl) (.inl rfl) e1 e3, FunD.bindsN F fun _ _ _ _ _ _ us hl => match us, hl with | [_, _], _ => rfl⟩
theorem ext_BadNumber {b0 : Heap} (X : K.In b0) (G : b0.Ns mainGlobals mg) (hf : (fa.all fun f => f.ok K) = true) (hm : (moreL K).all id = true) (c : SaysX fb fn K) : ExT P w K mg base "BadNumber" "number" (He.ga K "BadNumber") := by
  obtain ⟨e1, e2, e3, e4, e5⟩ := errB_ok (all_of hm 4 _ rfl)
  obtain ⟨fd, F⟩ := c.dfn 37 (d := dd_M_BadNumber___init__) rfl
  exact ⟨e1, e2, He.glo_ok X G (fact_of hf 37), e3, _, fd, e4, e5, DL.ok_init F ⟨rfl, rfl, rfl, by decide +kernel, rfl, by decide +kernel, by decide +kernel⟩ (.inl rfl) (.inl rfl) e1 e3, FunD.bindsN F fun _ _ _ _ _ _ us hl => match us, hl with | [_, _], _ => rfl⟩
theorem ext_TooMany {b0 : Heap} (X : K.In b0) (G : b0.Ns mainGlobals mg) (hf : (fa.all fun f => f.ok K) = true) (hm : (moreL K).all id = true) (c : SaysX fb fn K) : ExT P w K mg base "TooMany" "most" (He.ga K "TooMany") := by
  obtain ⟨e1, e2, e3, e4, e5⟩ := errB_ok (all_of hm 5 _ rfl)
  obtain ⟨fd, F⟩ := c.dfn 38 (d := dd_M_TooMany___init__) rfl
  exact ⟨e1, e2, He.glo_ok X G (fact_of hf 38), e3, _, fd, e4, e5, DL.ok_init F ⟨rfl, rfl, rfl, by decide +kernel, rfl, by decide +kernel, by decide +kernel⟩ (.inl rfl) (.inl rfl) e1 e3, FunD.bindsN F fun _ _ _ _ _ _ us hl => match us, hl with | [_, _], _ => rfl⟩
theorem txt_of (X : K.In base) (G : base.Ns mainGlobals mg) (hf : (fa.all fun f => f.ok K) = true) : Txt mg := ⟨He.free_ok X G (fact_of hf 42), He.free_ok X G (fact_of hf 43), He.free_ok X G (fact_of hf 44), He.free_ok X G (fact_of hf 45), He.free_ok X G (fact_of hf 46), He.free_ok X G (fact_of hf 47), He.free_ok X G (fact_of hf 48), He.free_ok X G (fact_of hf 49), He.free_ok X G (fact_of hf 50), He.free_ok X G (fact_of hf 51), He.free_ok X G (fact_of hf 52), He.free_ok X G (fact_of hf 53)⟩
theorem txtP_of (X : K.In base) (G : base.Ns mainGlobals mg) (hf : (fa.all fun f => f.ok K) = true) : TxtP mg := ⟨He.str_ok X G (fact_of hf 58), He.str_ok X G (fact_of hf 59), He.int_ok X G (fact_of hf 60), He.free_ok X G (fact_of hf 54)⟩
theorem txtS_of (X : K.In base) (G : base.Ns mainGlobals mg) (hf : (fa.all fun f => f.ok K) = true) : TxtS mg := ⟨He.free_ok X G (fact_of hf 55), He.free_ok X G (fact_of hf 56), He.free_ok X G (fact_of hf 57)⟩
theorem ma_of (hf : (fa.all fun f => f.ok K) = true) : MeadowA K (He.ga K "Meadow") := ⟨He.cls_ok (fact_of hf 61), He.noat_ok (fact_of hf 63), He.noat_ok (fact_of hf 64), He.noat_ok (fact_of hf 65), He.noat_ok (fact_of hf 66), He.noat_ok (fact_of hf 67), He.noat_ok (fact_of hf 68), He.noat_ok (fact_of hf 69), He.noat_ok (fact_of hf 70), He.noat_ok (fact_of hf 71), He.noat_ok (fact_of hf 72), He.noat_ok (fact_of hf 73)⟩
theorem mk_of (hf : (fa.all fun f => f.ok K) = true) : MeadowK K (He.ga K "Meadow") := ⟨He.cls_ok (fact_of hf 61), He.noat_ok (fact_of hf 64), He.noat_ok (fact_of hf 65), He.noat_ok (fact_of hf 66), He.noat_ok (fact_of hf 69)⟩
theorem mn_of (X : K.In base) (G : base.Ns mainGlobals mg) (hf : (fa.all fun f => f.ok K) = true) (hm : (moreL K).all id = true) : MeadowN K mg (He.ga K "Meadow") :=
  ⟨(He.glo_ok X G (fact_of hf 40)), .type "type", creadB_ok (all_of hm 8 _ rfl), cvalB_ok (all_of hm 9 _ rfl), cvalB_ok (all_of hm 10 _ rfl), cvalB_ok (all_of hm 11 _ rfl), cvalB_ok (all_of hm 12 _ rfl), cvalB_ok (all_of hm 13 _ rfl)⟩
theorem old_of (X : K.In base) (G : base.Ns mainGlobals mg) (hf : (fa.all fun f => f.ok K) = true) (hm : (moreL K).all id = true) : OldK K mg :=
  ⟨He.ga K "OLD", (He.glo_ok X G (fact_of hf 41)), fun H => He.tupB_ok (vs := [.int 0, .str "", .str "", .str ""]) (all_of hm 14 _ rfl) H⟩
theorem all_fd (P : Program) (w : World) (X : K.In base) (G : base.Ns mainGlobals mg) (c : SaysX fb fn K) : ∃ fd, (∀ (s : Shared) (v : Value), BindsTo s fd ⟨[v], []⟩ [("script", v)]) ∧ ∀ bs : Heap, FnD P w K mg bs 12 (He.ga K "law") fd ["script"] (spV K SLaw) := by
  obtain ⟨hf, hm⟩ := more_all c.more
  obtain ⟨fdL, FL⟩ := c.dfn 32 (d := dd_S_law) rfl
  have bl := FunD.bindsA (ps := ["script"]) FL fun _ _ _ _ _ _ us hl => match us, hl with | [_], _ => rfl
  refine ⟨fdL, fun s v => bl s [v] rfl, fun bs => ?_⟩
  let Er : Errs P w K mg bs := ⟨He.ga K "BadName", He.ga K "Unknown", He.ga K "Twice", He.ga K "BadPath", He.ga K "BadNumber", He.ga K "TooMany", ext_BadName X G hf hm c, ext_Unknown X G hf hm c, ext_Twice X G hf hm c, ext_BadPath X G hf hm c, ext_BadNumber X G hf hm c, ext_TooMany X G hf hm c⟩
  have T : Txt mg := txt_of X G hf
  have TP : TxtP mg := txtP_of X G hf
  have TS : TxtS mg := txtS_of X G hf
  have C_only_digits : Fd P w K mg bs 1 "only_digits" ["word"] (spV K SDigits) := by
    obtain ⟨fd, F⟩ := c.dfn 0 (d := dd_S_only_digits) rfl
    exact ⟨_, fd, ok_digits F T TP, (He.glo_ok X G (fact_of hf 0)), F.kp, (FunD.bindsN F fun _ _ _ _ _ _ us hl => match us, hl with | [_], _ => rfl)⟩
  have C_is_name : Fd P w K mg bs 2 "is_name" ["word"] (spV K SIsName) := by
    obtain ⟨fd, F⟩ := c.dfn 1 (d := dd_S_is_name) rfl
    exact ⟨_, fd, ok_isNameP F T TP C_only_digits, (He.glo_ok X G (fact_of hf 1)), F.kp, (FunD.bindsN F fun _ _ _ _ _ _ us hl => match us, hl with | [_], _ => rfl)⟩
  have C_check_number : Fd P w K mg bs 3 "check_number" ["number", "least", "most"] (spV K (SNumber Er)) := by
    obtain ⟨fd, F⟩ := c.dfn 2 (d := dd_S_check_number) rfl
    exact ⟨_, fd, ok_number Er F T, (He.glo_ok X G (fact_of hf 2)), F.kp, (FunD.bindsN F fun _ _ _ _ _ _ us hl => match us, hl with | [_, _, _], _ => rfl)⟩
  have C_check_count : Fd P w K mg bs 3 "check_count" ["count", "most"] (spV K (SCount Er)) := by
    obtain ⟨fd, F⟩ := c.dfn 3 (d := dd_S_check_count) rfl
    exact ⟨_, fd, ok_count Er F , (He.glo_ok X G (fact_of hf 3)), F.kp, (FunD.bindsN F fun _ _ _ _ _ _ us hl => match us, hl with | [_, _], _ => rfl)⟩
  have C_check_known : Fd P w K mg bs 3 "check_known" ["name", "known"] (spV K (SKnown Er)) := by
    obtain ⟨fd, F⟩ := c.dfn 4 (d := dd_S_check_known) rfl
    exact ⟨_, fd, ok_known Er F , (He.glo_ok X G (fact_of hf 4)), F.kp, (FunD.bindsN F fun _ _ _ _ _ _ us hl => match us, hl with | [_, _], _ => rfl)⟩
  have C_check_new : Fd P w K mg bs 3 "check_new" ["name", "earlier"] (spV K (SNew Er)) := by
    obtain ⟨fd, F⟩ := c.dfn 5 (d := dd_S_check_new) rfl
    exact ⟨_, fd, ok_new Er F C_is_name, (He.glo_ok X G (fact_of hf 5)), F.kp, (FunD.bindsN F fun _ _ _ _ _ _ us hl => match us, hl with | [_, _], _ => rfl)⟩
  have C_check_each : Fd P w K mg bs 4 "check_each" ["names", "known"] (spV K SWatched) := by
    obtain ⟨fd, F⟩ := c.dfn 6 (d := dd_S_check_each) rfl
    exact ⟨_, fd, ok_each Er F T C_check_known, (He.glo_ok X G (fact_of hf 6)), F.kp, (FunD.bindsN F fun _ _ _ _ _ _ us hl => match us, hl with | [_, _], _ => rfl)⟩
  have C_check_some : Fd P w K mg bs 5 "check_some" ["names", "known"] (spV K SWatched) := by
    obtain ⟨fd, F⟩ := c.dfn 7 (d := dd_S_check_some) rfl
    exact ⟨_, fd, ok_someC F T C_check_each, (He.glo_ok X G (fact_of hf 7)), F.kp, (FunD.bindsN F fun _ _ _ _ _ _ us hl => match us, hl with | [_, _], _ => rfl)⟩
  have C_check_path_row : Fd P w K mg bs 4 "check_path_row" ["row", "earlier", "places"] (spV K (SPathRow Er)) := by
    obtain ⟨fd, F⟩ := c.dfn 8 (d := dd_S_check_path_row) rfl
    exact ⟨_, fd, ok_pathRow Er F T C_check_known C_check_new, (He.glo_ok X G (fact_of hf 8)), F.kp, (FunD.bindsN F fun _ _ _ _ _ _ us hl => match us, hl with | [_, _, _], _ => rfl)⟩
  have C_check_gate_row : Fd P w K mg bs 4 "check_gate_row" ["row", "earlier", "hours", "walkers", "paths"] (spV K SGateRow) := by
    obtain ⟨fd, F⟩ := c.dfn 9 (d := dd_S_check_gate_row) rfl
    exact ⟨_, fd, ok_gateRow Er F T C_check_known C_check_number, (He.glo_ok X G (fact_of hf 9)), F.kp, (FunD.bindsN F fun _ _ _ _ _ _ us hl => match us, hl with | [_, _, _, _, _], _ => rfl)⟩
  have C_check_sign_row : Fd P w K mg bs 6 "check_sign_row" ["row", "earlier", "walkers", "paths"] (spV K (SSignRow Er)) := by
    obtain ⟨fd, F⟩ := c.dfn 10 (d := dd_S_check_sign_row) rfl
    exact ⟨_, fd, ok_signRow Er F T C_check_some C_check_new, (He.glo_ok X G (fact_of hf 10)), F.kp, (FunD.bindsN F fun _ _ _ _ _ _ us hl => match us, hl with | [_, _, _, _], _ => rfl)⟩
  have C_checked_names : Fd P w K mg bs 4 "checked_names" ["names", "most"] (spV K (SNamesC Er)) := by
    obtain ⟨fd, F⟩ := c.dfn 11 (d := dd_S_checked_names) rfl
    exact ⟨_, fd, ok_namesC Er F T C_check_count C_check_new, (He.glo_ok X G (fact_of hf 11)), F.kp, (FunD.bindsN F fun _ _ _ _ _ _ us hl => match us, hl with | [_, _], _ => rfl)⟩
  have C_checked_paths : Fd P w K mg bs 5 "checked_paths" ["paths", "most", "places"] (spV K (SPathsC Er)) := by
    obtain ⟨fd, F⟩ := c.dfn 12 (d := dd_S_checked_paths) rfl
    exact ⟨_, fd, ok_pathsC Er F T C_check_count C_check_path_row, (He.glo_ok X G (fact_of hf 12)), F.kp, (FunD.bindsN F fun _ _ _ _ _ _ us hl => match us, hl with | [_, _, _], _ => rfl)⟩
  have C_checked_gates : Fd P w K mg bs 5 "checked_gates" ["gates", "hours", "walkers", "paths"] (spV K SGatesC) := by
    obtain ⟨fd, F⟩ := c.dfn 13 (d := dd_S_checked_gates) rfl
    exact ⟨_, fd, ok_gatesC F T C_check_gate_row, (He.glo_ok X G (fact_of hf 13)), F.kp, (FunD.bindsN F fun _ _ _ _ _ _ us hl => match us, hl with | [_, _, _, _], _ => rfl)⟩
  have C_checked_signs : Fd P w K mg bs 7 "checked_signs" ["signs", "most", "walkers", "paths"] (spV K (SSignsC Er)) := by
    obtain ⟨fd, F⟩ := c.dfn 14 (d := dd_S_checked_signs) rfl
    exact ⟨_, fd, ok_signsC Er F T C_check_count C_check_sign_row, (He.glo_ok X G (fact_of hf 14)), F.kp, (FunD.bindsN F fun _ _ _ _ _ _ us hl => match us, hl with | [_, _, _, _], _ => rfl)⟩
  have C_law_mixed : Fd P w K mg bs 1 "_law_mixed" ["seed", "k"] (spV K SMixed) := by
    obtain ⟨fd, F⟩ := c.dfn 16 (d := dd_S__law_mixed) rfl
    exact ⟨_, fd, ok_mixed F T, (He.glo_ok X G (fact_of hf 16)), F.kp, (FunD.bindsN F fun _ _ _ _ _ _ us hl => match us, hl with | [_, _], _ => rfl)⟩
  have C_law_draw : Fd P w K mg bs 2 "_law_draw" ["pool", "limit"] (spC K SDraw) := by
    obtain ⟨fd, F⟩ := c.dfn 17 (d := dd_S__law_draw) rfl
    exact ⟨_, fd, ok_draw F T C_law_mixed, (He.glo_ok X G (fact_of hf 17)), F.kp, (FunD.bindsN F fun _ _ _ _ _ _ us hl => match us, hl with | [_, _], _ => rfl)⟩
  have C_law_pool : Fd P w K mg bs 1 "_law_pool" ["script"] (spN K SPool) := by
    obtain ⟨fd, F⟩ := c.dfn 15 (d := dd_S__law_pool) rfl
    exact ⟨_, fd, ok_pool F T, (He.glo_ok X G (fact_of hf 15)), F.kp, (FunD.bindsN F fun _ _ _ _ _ _ us hl => match us, hl with | [_], _ => rfl)⟩
  have C_law_names : Fd P w K mg bs 3 "_law_names" ["pool", "many"] (spC K SNames) := by
    obtain ⟨fd, F⟩ := c.dfn 18 (d := dd_S__law_names) rfl
    exact ⟨_, fd, ok_names F T C_law_draw, (He.glo_ok X G (fact_of hf 18)), F.kp, (FunD.bindsN F fun _ _ _ _ _ _ us hl => match us, hl with | [_, _], _ => rfl)⟩
  have C_law_size : Fd P w K mg bs 3 "_law_size" ["pool", "least", "most"] (spC K SSize) := by
    obtain ⟨fd, F⟩ := c.dfn 19 (d := dd_S__law_size) rfl
    exact ⟨_, fd, ok_size F T C_law_draw, (He.glo_ok X G (fact_of hf 19)), F.kp, (FunD.bindsN F fun _ _ _ _ _ _ us hl => match us, hl with | [_, _, _], _ => rfl)⟩
  have C_law_some : Fd P w K mg bs 3 "_law_some" ["pool", "things"] (spC K SSome) := by
    obtain ⟨fd, F⟩ := c.dfn 20 (d := dd_S__law_some) rfl
    exact ⟨_, fd, ok_some F T C_law_draw, (He.glo_ok X G (fact_of hf 20)), F.kp, (FunD.bindsN F fun _ _ _ _ _ _ us hl => match us, hl with | [_, _], _ => rfl)⟩
  have C_law_posts : Fd P w K mg bs 4 "_law_posts" ["pool", "folk", "ways", "most"] (spC K SPosts) := by
    obtain ⟨fd, F⟩ := c.dfn 21 (d := dd_S__law_posts) rfl
    exact ⟨_, fd, ok_posts F T C_law_draw C_law_names C_law_size C_law_some, (He.glo_ok X G (fact_of hf 21)), F.kp, (FunD.bindsN F fun _ _ _ _ _ _ us hl => match us, hl with | [_, _, _, _], _ => rfl)⟩
  have C_law_field : Fd P w K mg bs 5 "_law_field" ["pool", "most"] (spC K SField) := by
    obtain ⟨fd, F⟩ := c.dfn 22 (d := dd_S__law_field) rfl
    exact ⟨_, fd, ok_field F T C_law_draw C_law_names C_law_size C_law_posts, (He.glo_ok X G (fact_of hf 22)), F.kp, (FunD.bindsN F fun _ _ _ _ _ _ us hl => match us, hl with | [_, _], _ => rfl)⟩
  have C_law_is_name : Fd P w K mg bs 1 "_law_is_name" ["word"] (spV K SIsName) := by
    obtain ⟨fd, F⟩ := c.dfn 25 (d := dd_S__law_is_name) rfl
    exact ⟨_, fd, ok_is_name F T, (He.glo_ok X G (fact_of hf 25)), F.kp, (FunD.bindsN F fun _ _ _ _ _ _ us hl => match us, hl with | [_], _ => rfl)⟩
  have C_law_shared : Fd P w K mg bs 1 "_law_shared" ["data"] (spV K SShared) := by
    obtain ⟨fd, F⟩ := c.dfn 26 (d := dd_S__law_shared) rfl
    exact ⟨_, fd, ok_shared F T, (He.glo_ok X G (fact_of hf 26)), F.kp, (FunD.bindsN F fun _ _ _ _ _ _ us hl => match us, hl with | [_], _ => rfl)⟩
  have C_law_odd : Fd P w K mg bs 4 "_law_odd" ["pool"] (spC K SOdd) := by
    obtain ⟨fd, F⟩ := c.dfn 27 (d := dd_S__law_odd) rfl
    exact ⟨_, fd, ok_odd F T C_law_draw C_law_names, (He.glo_ok X G (fact_of hf 27)), F.kp, (FunD.bindsN F fun _ _ _ _ _ _ us hl => match us, hl with | [_], _ => rfl)⟩
  have C_law_spoilt : Fd P w K mg bs 5 "_law_spoilt" ["pool", "data"] (spC K SSpoilt) := by
    obtain ⟨fd, F⟩ := c.dfn 28 (d := dd_S__law_spoilt) rfl
    exact ⟨_, fd, ok_spoilt F T C_law_draw C_law_odd, (He.glo_ok X G (fact_of hf 28)), F.kp, (FunD.bindsN F fun _ _ _ _ _ _ us hl => match us, hl with | [_, _], _ => rfl)⟩
  have C_law_first_fault : Fd P w K mg bs 2 "_law_first_fault" ["data"] (spV K SFault) := by
    obtain ⟨fd, F⟩ := c.dfn 29 (d := dd_S__law_first_fault) rfl
    exact ⟨_, fd, ok_first_fault F T C_law_is_name, (He.glo_ok X G (fact_of hf 29)), F.kp, (FunD.bindsN F fun _ _ _ _ _ _ us hl => match us, hl with | [_], _ => rfl)⟩
  have same : ∀ k, Fd P w K mg bs (k + 1) "_law_same" ["told", "due"] (spV K (SSame k)) := by
    obtain ⟨fd, F⟩ := c.dfn 24 (d := dd_S__law_same) rfl
    intro k
    induction k with
    | zero => exact ⟨_, fd, ok_same F T TP TS 0 (fun j e => nomatch e), (He.glo_ok X G (fact_of hf 24)), F.kp, (FunD.bindsN F fun _ _ _ _ _ _ us hl => match us, hl with | [_, _], _ => rfl)⟩
    | succ k ih => exact ⟨_, fd, ok_same F T TP TS (k + 1) (fun j e => by cases e; exact ih), (He.glo_ok X G (fact_of hf 24)), F.kp, (FunD.bindsN F fun _ _ _ _ _ _ us hl => match us, hl with | [_, _], _ => rfl)⟩
  have MA := ma_of hf
  have MN := mn_of X G hf hm
  have OK := old_of X G hf hm
  have M_watchers : Md P w K mg bs (He.ga K "Meadow") 1 "_watchers" ["self", "pair"] (spV K (SWatchers (He.ga K "Meadow"))) := by
    obtain ⟨fd, F⟩ := c.dfn 39 (d := dd_M_Meadow__watchers) rfl
    exact ⟨_, fd, He.meth_ok (fact_of hf 74), ok_watchers (He.ga K "Meadow") MA F T, (FunD.bindsN F fun _ _ _ _ _ _ us hl => match us, hl with | [_, _], _ => rfl)⟩
  have M_paths_to : Md P w K mg bs (He.ga K "Meadow") 1 "_paths_to" ["self", "place"] (spV K (SPathsTo (He.ga K "Meadow"))) := by
    obtain ⟨fd, F⟩ := c.dfn 40 (d := dd_M_Meadow__paths_to) rfl
    exact ⟨_, fd, He.meth_ok (fact_of hf 75), ok_pathsTo (He.ga K "Meadow") MA F T, (FunD.bindsN F fun _ _ _ _ _ _ us hl => match us, hl with | [_, _], _ => rfl)⟩
  have M_marks_of : Md P w K mg bs (He.ga K "Meadow") 1 "_marks_of" ["self", "row"] (spV K (SMarksOf (He.ga K "Meadow") P w)) := by
    obtain ⟨fd, F⟩ := c.dfn 41 (d := dd_M_Meadow__marks_of) rfl
    exact ⟨_, fd, He.meth_ok (fact_of hf 76), ok_marksOf (He.ga K "Meadow") MA OK F T, (FunD.bindsN F fun _ _ _ _ _ _ us hl => match us, hl with | [_, _], _ => rfl)⟩
  have IF : InitFd (P := P) (w := w) (base := bs) Er (He.ga K "Meadow") 8 := by
    obtain ⟨fd, F⟩ := c.dfn 42 (d := dd_M_Meadow___init__) rfl
    obtain ⟨mv, kb⟩ := FunD.kbinds0 (ps := psInit) F 5 ["gates", "signs"] [] (fun us _ ws => us ++ ws) (List.cons_ne_nil _ _) (fun _ m => nomatch m) (fun r1 _ r3 => r1.append r3) fun D doc pm an cdv ct us mv ws l1 l2 l3 => match us, ws, mv, l1, l3, l2 with
      | [_, _, _, _, _], [_, _], [], _, _, _ => rfl
    exact ⟨_, fd, _, _, He.mkr_ok (fact_of hf 62), ok_init Er (He.ga K "Meadow") MA MN ⟨M_watchers, M_paths_to, M_marks_of⟩ F T C_check_number C_checked_names C_checked_paths C_checked_gates C_checked_signs, (He.glo_ok X G (fact_of hf 40)), kb, fun _ _ _ => rfl⟩
  have GE : ErrK Er (He.ga K "GrassError") := ⟨(He.glo_ok X G (fact_of hf 39)), (fun tw => by cases tw; exact He.exm_ok (fact_of hf 77); exact He.exm_ok (fact_of hf 80)), (fun tw => by cases tw; exact He.exm_ok (fact_of hf 78); exact He.exm_ok (fact_of hf 81)), (fun tw => by cases tw; exact He.exm_ok (fact_of hf 79); exact He.exm_ok (fact_of hf 82)), (fun tw => by cases tw; exact excB_ok (all_of hm 6 _ rfl); exact excB_ok (all_of hm 7 _ rfl)), (fun tw => by cases tw; exact kitX_ok (all_of hm 15 _ rfl); exact kitX_ok (all_of hm 22 _ rfl)), (fun tw => by cases tw; exact kitX_ok (all_of hm 16 _ rfl); exact kitX_ok (all_of hm 23 _ rfl)), (fun tw => by cases tw; exact kitX_ok (all_of hm 18 _ rfl); exact kitX_ok (all_of hm 25 _ rfl)), (fun tw => by cases tw; exact kitX_ok (all_of hm 17 _ rfl); exact kitX_ok (all_of hm 24 _ rfl)), (fun tw => by cases tw; exact kitX_ok (all_of hm 19 _ rfl); exact kitX_ok (all_of hm 26 _ rfl)), (fun tw => by cases tw; exact kitX_ok (all_of hm 20 _ rfl); exact kitX_ok (all_of hm 27 _ rfl)), (fun tw => by cases tw; exact kitX_ok (all_of hm 21 _ rfl); exact kitX_ok (all_of hm 28 _ rfl))⟩
  have C_law_made : Fd P w K mg bs 10 "_law_made" ["data"] (spV K (SMade Er (He.ga K "Meadow"))) := by
    obtain ⟨fd, F⟩ := c.dfn 23 (d := dd_S__law_made) rfl
    exact ⟨_, fd, ok_made Er (He.ga K "Meadow") F T IF, (He.glo_ok X G (fact_of hf 23)), F.kp, (FunD.bindsN F fun _ _ _ _ _ _ us hl => match us, hl with | [_], _ => rfl)⟩
  have C_law_refusal : Fd P w K mg bs 11 "_law_refusal" ["data"] (spV K SRefusal) := by
    obtain ⟨fd, F⟩ := c.dfn 30 (d := dd_S__law_refusal) rfl
    exact ⟨_, fd, ok_refusal Er (He.ga K "Meadow") GE F C_law_made, (He.glo_ok X G (fact_of hf 30)), F.kp, (FunD.bindsN F fun _ _ _ _ _ _ us hl => match us, hl with | [_], _ => rfl)⟩
  have C_law_kinds : Fd P w K mg bs 11 "_law_kinds" ["data"] (spV K SKinds) := by
    obtain ⟨fd, F⟩ := c.dfn 31 (d := dd_S__law_kinds) rfl
    exact ⟨_, fd, ok_kinds Er (He.ga K "Meadow") GE T TS F C_law_made, (He.glo_ok X G (fact_of hf 31)), F.kp, (FunD.bindsN F fun _ _ _ _ _ _ us hl => match us, hl with | [_], _ => rfl)⟩
  exact ok_law Er (He.ga K "Meadow") (mk_of hf) T FL C_law_pool C_law_field C_law_draw C_law_shared C_law_spoilt C_law_first_fault (same 3) C_law_refusal C_law_kinds C_law_made
theorem reps_ints {M : Addr → Prop} {H : Hp} : ∀ {ns : List Int}, Reps K M H (ns.map D.int) (ns.map V.int)
  | [] => rfl
  | n :: ns => ⟨.int n, ns.map V.int, rfl, rfl, reps_ints⟩
theorem law_want {H : Hp} {a : Addr} {ns : List Int} (hl : ns.length ≤ 63) (only : Only H) (seq : SqL K H a (ns.map V.int)) : spV K SLaw [.ref a] H (fun v _ => v = .bl true) fun _ _ _ => False := by
  have at_ : (∃ o, H a = some (.frz o (.lst (ns.map V.int)))) ∨ ∀ G, SqL K G a (ns.map V.int) := by
    rcases seq with seq | seq
    · rcases seq with e | ⟨o, e⟩
      · rcases only a with n | ⟨o, xs, n⟩ <;> rw [n] at e <;> cases e
      · exact .inl ⟨o, e⟩
    · exact .inr fun G => .inr seq
  exact ⟨fun _ => False, [.rlst (ns.map D.int)], fun d => d = .bl true, fun _ _ => False, fun _ z => z.elim, ⟨.ref a, [], rfl, ⟨a, ns.map V.int, rfl, at_.imp (fun z => ⟨id, z⟩) id, reps_ints⟩, rfl⟩, ⟨ns, rfl, hl, rfl⟩, fun d v H' e _ r => by subst e; exact r, fun _ _ _ _ _ z => z.elim⟩
end
end K00
open PySem PySem.W PySem.Calls PyProof.Rows
namespace DH
/-- the law's end, its air the world's own -/
theorem walk_end {l : OpenLaw} {n k : Nat} {q : Program} {loose : List PySem.Str} {XP : (PySem.Str → Option Value) → Heap → Prop} {YP : World → Heap → Prop} {d : DefRec} {x : PySem.Str} (most : l.most = some n) (small : n ≤ sizeLine) (nodef : d.params.defaults = []) (room : L2.Room k callerA)
    (give : ∀ (w : World) (mg : PySem.Str → Option Value) (at_ : Addr) (h : Heap), YP w h → h.Ns mainGlobals mg → mg d.name = some (.ref at_) → ∃ (K : Frag) (fd : FuncData) (sp : L2.Sp), K.In h ∧ (∀ (s : Shared) (u : Value), BindsTo s fd ⟨[u], []⟩ [(x, u)]) ∧
      (∀ (H : L2.Hp) (a : Addr) (ns : List Int), ns.length ≤ n → L2.Only H → L2.SqL K H a (ns.map L2.V.int) → sp [.ref a] H (fun v _ => v = .bl true) fun _ _ _ => False) ∧ ∀ bs : Heap, K.In bs → bs.Ns mainGlobals mg → L2.FnOk l.prog w K mg bs (L2.CX l.prog w) k at_ fd [x] sp) :
    WalkO q loose XP YP l.row.toRowW d [] (fun f us => PySem.call f us) := by
  refine Att.attach_call most nodef fun w s0 s1 mg mb at_ o pm cd doc a vs ns G Y g1 g2 g3 g4 g5 g6 g7 g8 => ?_
  obtain ⟨K, fd, sp, kin, bind, want, run⟩ := give w mg at_ _ Y G.T.g g4
  refine L2.law_call kin G.T.g G.T.b G.T.builtins G.T.nolimit g8 g5 g6 (Nat.le_trans g7 small) room run bind (fun H only seq => want H a ns g7 only seq) ?_
  rintro H e s' ⟨_, _, _, _, _, _, _, _, _, _, _, _, no⟩
  exact no
end DH
theorem PySem.Challenge.cw_tallgrass_k00_meadow_names_holds : PySem.Challenge.rw_tallgrass_k00_meadow_names.Holds := by
  w_on; o_law
  refine HandSHeadRun.head_any (r := OpenLaw.row PySem.Challenge.rw_tallgrass_k00_meadow_names) (q := view (OpenLaw.row PySem.Challenge.rw_tallgrass_k00_meadow_names).prog [52]) (H := K00.hk) (ob := K00.ob) (M := 4000) (loose := K00.loose) (d := HandSHeadRun.topDef (OpenLaw.row PySem.Challenge.rw_tallgrass_k00_meadow_names).prog 52) (kwd := []) K00.ob_eq
    (by kernel_rfl) (fun s => by kernel_rfl) K00.run (by kernel_rfl) (by kernel_rfl) (by kernel_rfl) (by rfl) (by first | assumption | decide +kernel) (by decide +kernel) ⟨rfl, rfl, rfl, rfl, rfl, by decide +kernel⟩ ?hw ?hc
  case hw => w_witness2
  case hc =>
    refine DH.walk_end (l := PySem.Challenge.rw_tallgrass_k00_meadow_names) (n := 63) (k := 12) (x := "script") rfl (by decide) (by kernel_rfl) ⟨rfl, by decide, by decide⟩ ?give
    intro w mg at_ h Y G named
    obtain ⟨K, kin, says⟩ := Y
    have at_law : mg ("law" : PySem.Str) = some (.ref at_) := by
      rw [← show (HandSHeadRun.topDef (OpenLaw.row PySem.Challenge.rw_tallgrass_k00_meadow_names).prog 52).name = ("law" : PySem.Str) by kernel_rfl]
      exact named
    obtain ⟨hf, _⟩ := K00.more_all says.more
    have e := at_law.symm.trans (He.glo_ok kin G (K00.fact_of hf 32))
    cases e
    obtain ⟨fd, bind, run⟩ := K00.all_fd (PySem.Challenge.rw_tallgrass_k00_meadow_names).prog w kin G says
    exact ⟨K, fd, DL.spV K K00.SLaw, kin, bind, fun H a ns hl only seq => K00.law_want hl only seq, fun bs _ _ => run bs⟩
end
