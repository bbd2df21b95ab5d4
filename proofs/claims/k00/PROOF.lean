import PyProof.Rows.All
import Wide.All
import OpenK.AllK
import Wide.FinOn
import HandS.ForExc
import HandS.ExcInit
import HandS.Wide
import HandS.TupAny
import HandS.TupMul
import HandS.IsInst
import HandS.Gcd
import HandS.Flow
import HandS.ExcOwn
import HandS.TryOnly
import HandS.Zip
import HandS.Comp
import KE.KExcInit
import HandS.ExcField
import KE.KExcIs
import KE.KIsAll
import HandS.EndBits
import KE.RegKIsAll
import PySem.Challenge.RW_plainlock_k00_errors
set_option Elab.async false
set_option linter.all false
set_option maxRecDepth 100000
set_option maxHeartbeats 4000000
set_option autoImplicit false
/-! Mi: a shallow functional reading of defs over the hand layer: values PV, a store of lists that change, M (an expression's meaning), MS (a statement's); SE, SS tie them to the hand layer's readings. -/
namespace Mi
open PySem PySem.Spec PyProof.Rows L2

/-- a value: tuples and lists that nobody changes are what they hold; box n: the n-th list that may change -/
inductive PV where
  | non | bl (b : Bool) | int (i : Int) | str (x : Str) | tup (xs : List PV) | lst (xs : List PV) | fro (xs : List PV) | box (n : Nat) | ty (n : String) | obj (a : Addr) | exc (n : Str) (ns : List Str) (xs : List PV)

abbrev Sto := List (List PV)
abbrev Env := List (Option PV)

structure Exn where
  cls : Value
  flds : List (Str × PV)

inductive R (α : Type) where
  | ok (a : α) (s : Sto)
  | ex (e : Exn) (s : Sto)
  | bad

def R.bind {α β : Type} : R α → (α → Sto → R β) → R β
  | .ok a s, f => f a s
  | .ex e s, _ => .ex e s
  | .bad, _ => .bad

/-- the lists that may change, by their places; and what is reserved -/
structure Rh where
  bx : List Addr
  rs : List Addr
/-- a list that nobody changes; one that is only read; a tuple -/
def FzL (H : Hp) (ρ : Rh) (a : Addr) (ys : List V) : Prop := H a = some (.lst ys) ∧ a ∉ ρ.bx ∧ a ∉ ρ.rs
def FzF (K : PySem.W.Frag) (H : Hp) (ρ : Rh) (a : Addr) (ys : List V) : Prop := (Rd H a (.lst ys) ∧ a ∉ ρ.bx ∧ a ∉ ρ.rs) ∨ SqL K (fun _ => none) a ys
def FzT (K : PySem.W.Frag) (H : Hp) (ρ : Rh) (a : Addr) (ys : List V) : Prop := (H a = some (.tup ys) ∧ a ∉ ρ.bx ∧ a ∉ ρ.rs) ∨ SqT K (fun _ => none) a ys

/-- an exception in hand: its class, the names of its fields -/
def FzX (K : PySem.W.Frag) (H : Hp) (ρ : Rh) (a : Addr) (n : Str) (ns : List Str) (ys : List V) : Prop := a ∉ ρ.bx ∧ a ∉ ρ.rs ∧ ∃ C, PySem.W.nsIn K mainGlobals n = some (some (.ref C)) ∧ ((ns = [] ∧ H a = some (exo a C none)) ∨ ∃ dx, dx ∉ ρ.bx ∧ dx ∉ ρ.rs ∧ H a = some (exo a C (some dx)) ∧ H dx = some (exd dx (ns.zip ys)))

mutual
def RV (K : PySem.W.Frag) (H : Hp) (ρ : Rh) : PV → V → Prop
  | .non, v => v = .non
  | .bl b, v => v = .bl b
  | .int i, v => v = .int i
  | .str x, v => v = .str x
  | .ty n, v => v = .ty n
  | .obj a, v => v = .ref a
  | .box n, v => ∃ a, v = .ref a ∧ ρ.bx[n]? = some a
  | .tup xs, v => ∃ a ys, v = .ref a ∧ FzT K H ρ a ys ∧ RVs K H ρ xs ys
  | .lst xs, v => ∃ a ys, v = .ref a ∧ FzL H ρ a ys ∧ RVs K H ρ xs ys
  | .fro xs, v => ∃ a ys, v = .ref a ∧ FzF K H ρ a ys ∧ RVs K H ρ xs ys
  | .exc n ns xs, v => ∃ a ys, v = .ref a ∧ FzX K H ρ a n ns ys ∧ RVs K H ρ xs ys
def RVs (K : PySem.W.Frag) (H : Hp) (ρ : Rh) : List PV → List V → Prop
  | [], vs => vs = []
  | x :: xs, vs => ∃ v ws, vs = v :: ws ∧ RV K H ρ x v ∧ RVs K H ρ xs ws
end

/-- what a value's relation leans on is kept -/
structure ExtW (ρ : Rh) (H : Hp) (ρ' : Rh) (H' : Hp) : Prop where
  pre : ∃ r, ρ'.bx = ρ.bx ++ r ∧ ∀ a ∈ r, H a = none
  rs : (∀ a ∈ ρ.rs, a ∈ ρ'.rs) ∧ ∀ a ∈ ρ'.rs, a ∈ ρ.rs ∨ H a = none
  keep : ∀ a o, H a = some o → a ∉ ρ.bx → a ∉ ρ.rs → H' a = some o
  has : ∀ a, H a ≠ none → H' a ≠ none
structure Ext (ρ : Rh) (H : Hp) (ρ' : Rh) (H' : Hp) : Prop extends ExtW ρ H ρ' H' where
  rse : ρ'.rs = ρ.rs
  res : ∀ a, a ∈ ρ.rs → a ∉ ρ.bx → H' a = H a

section
variable {K : PySem.W.Frag} {H H1 H2 : Hp} {ρ ρ1 ρ2 : Rh} {a : Addr} {xs ys : List V}
theorem rs_refl {ρ : Rh} {H : Hp} : (∀ a ∈ ρ.rs, a ∈ ρ.rs) ∧ ∀ a ∈ ρ.rs, a ∈ ρ.rs ∨ H a = none := ⟨fun _ h => h, fun _ h => .inl h⟩
theorem Ext.refl : Ext ρ H ρ H := ⟨⟨⟨[], by simp, by simp⟩, rs_refl, fun _ _ h _ _ => h, fun _ h => h⟩, rfl, fun _ _ _ => rfl⟩
theorem ExtW.notin (e : ExtW ρ H ρ1 H1) (h : H a ≠ none) (n : a ∉ ρ.bx) : a ∉ ρ1.bx := by
  obtain ⟨r, hr, hn⟩ := e.pre
  intro hm
  rw [hr] at hm
  rcases List.mem_append.mp hm with h1 | h1
  · exact n h1
  · exact h (hn a h1)
theorem ExtW.nores (e : ExtW ρ H ρ1 H1) (h : H a ≠ none) (n : a ∉ ρ.rs) : a ∉ ρ1.rs := fun z => (e.rs.2 a z).elim n h
theorem sm {o : HO} (h : H a = some o) : H a ≠ none := by rw [h]; exact fun z => by cases z
theorem ExtW.trans (e : ExtW ρ H ρ1 H1) (f : ExtW ρ1 H1 ρ2 H2) : ExtW ρ H ρ2 H2 := by
  refine ⟨?_, ⟨fun a h => f.rs.1 a (e.rs.1 a h), fun a h => ?_⟩, fun a o h n m => f.keep a o (e.keep a o h n m) (e.notin (sm h) n) (e.nores (sm h) m), fun a h => f.has a (e.has a h)⟩
  rotate_left
  · rcases f.rs.2 a h with z | z
    · exact e.rs.2 a z
    · cases q : H a with
      | none => exact .inr rfl
      | some o => exact absurd z (e.has a (sm q))
  obtain ⟨r, hr, hn⟩ := e.pre
  obtain ⟨r2, hr2, hn2⟩ := f.pre
  refine ⟨r ++ r2, by rw [hr2, hr, List.append_assoc], fun a h => ?_⟩
  rcases List.mem_append.mp h with h1 | h1
  · exact hn a h1
  · have := hn2 a h1
    cases q : H a with
    | none => rfl
    | some o => exact absurd this (e.has a (sm q))
theorem Ext.trans (e : Ext ρ H ρ1 H1) (f : Ext ρ1 H1 ρ2 H2) (hh : ∀ a ∈ ρ.rs, H a ≠ none) : Ext ρ H ρ2 H2 :=
  ⟨e.toExtW.trans f.toExtW, f.rse.trans e.rse, fun a h n => (f.res a (by rw [e.rse]; exact h) (e.toExtW.notin (hh a h) n)).trans (e.res a h n)⟩
theorem FzL.mono (e : ExtW ρ H ρ1 H1) (h : FzL H ρ a xs) : FzL H1 ρ1 a xs := ⟨e.keep _ _ h.1 h.2.1 h.2.2, e.notin (sm h.1) h.2.1, e.nores (sm h.1) h.2.2⟩
theorem Rd.some' {u : HO} (h : Rd H a u) : H a ≠ none := by rcases h with h | ⟨_, h⟩ <;> exact sm h
theorem Rd.keep' (e : ExtW ρ H ρ1 H1) {u : HO} (h : Rd H a u) (n : a ∉ ρ.bx) (m : a ∉ ρ.rs) : Rd H1 a u := by
  rcases h with h | ⟨o, h⟩
  · exact .inl (e.keep _ _ h n m)
  · exact .inr ⟨o, e.keep _ _ h n m⟩
theorem FzF.mono (e : ExtW ρ H ρ1 H1) (h : FzF K H ρ a xs) : FzF K H1 ρ1 a xs := by
  rcases h with ⟨h, n, m⟩ | h
  · exact .inl ⟨Rd.keep' e h n m, e.notin (Rd.some' h) n, e.nores (Rd.some' h) m⟩
  · exact .inr h
theorem FzT.mono (e : ExtW ρ H ρ1 H1) (h : FzT K H ρ a xs) : FzT K H1 ρ1 a xs := by
  rcases h with ⟨h, n, m⟩ | h
  · exact .inl ⟨e.keep _ _ h n m, e.notin (sm h) n, e.nores (sm h) m⟩
  · exact .inr h
theorem FzX.mono {c : Str} {ns : List Str} (e : ExtW ρ H ρ1 H1) (h : FzX K H ρ a c ns xs) : FzX K H1 ρ1 a c ns xs := by
  obtain ⟨n, m, C, hc, h⟩ := h
  rcases h with ⟨q, h⟩ | ⟨dx, dn, dm, h, hd⟩
  · exact ⟨e.notin (sm h) n, e.nores (sm h) m, C, hc, .inl ⟨q, e.keep _ _ h n m⟩⟩
  · exact ⟨e.notin (sm h) n, e.nores (sm h) m, C, hc, .inr ⟨dx, e.notin (sm hd) dn, e.nores (sm hd) dm, e.keep _ _ h n m, e.keep _ _ hd dn dm⟩⟩
theorem FzL.sq (h : FzL H ρ a xs) : SqL K H a xs := .of h.1
theorem FzF.sq (h : FzF K H ρ a xs) : SqL K H a xs := by
  rcases h with ⟨h, _⟩ | h
  · exact .inl h
  · rcases h with h | h
    · rcases h with h | ⟨_, h⟩ <;> cases h
    · exact .inr h
theorem FzT.sq (h : FzT K H ρ a xs) : SqT K H a xs := by
  rcases h with ⟨h, _⟩ | h
  · exact .of h
  · rcases h with h | h
    · rcases h with h | ⟨_, h⟩ <;> cases h
    · exact .inr h
end

mutual
theorem RV.mono {K : PySem.W.Frag} {H H1 : Hp} {ρ ρ1 : Rh} (e : ExtW ρ H ρ1 H1) : ∀ {p : PV} {v : V}, RV K H ρ p v → RV K H1 ρ1 p v
  | .non, _, h => h
  | .bl _, _, h => h
  | .int _, _, h => h
  | .str _, _, h => h
  | .ty _, _, h => h
  | .obj _, _, h => h
  | .box n, _, h => by
    obtain ⟨a, h1, h2⟩ := h
    obtain ⟨r, hr, _⟩ := e.pre
    refine ⟨a, h1, ?_⟩
    rw [hr, List.getElem?_append_left (List.getElem?_eq_some_iff.mp h2).1]
    exact h2
  | .tup xs, _, h => by
    obtain ⟨a, ys, h1, h2, h3⟩ := h
    exact ⟨a, ys, h1, h2.mono e, RVs.mono e h3⟩
  | .lst xs, _, h => by
    obtain ⟨a, ys, h1, h2, h3⟩ := h
    exact ⟨a, ys, h1, h2.mono e, RVs.mono e h3⟩
  | .fro xs, _, h => by
    obtain ⟨a, ys, h1, h2, h3⟩ := h
    exact ⟨a, ys, h1, h2.mono e, RVs.mono e h3⟩
  | .exc C ns xs, _, h => by
    obtain ⟨a, ys, h1, h2, h3⟩ := h
    exact ⟨a, ys, h1, h2.mono e, RVs.mono e h3⟩
theorem RVs.mono {K : PySem.W.Frag} {H H1 : Hp} {ρ ρ1 : Rh} (e : ExtW ρ H ρ1 H1) : ∀ {p : List PV} {v : List V}, RVs K H ρ p v → RVs K H1 ρ1 p v
  | [], _, h => h
  | x :: xs, _, h => by
    obtain ⟨v, ws, h1, h2, h3⟩ := h
    exact ⟨v, ws, h1, RV.mono e h2, RVs.mono e h3⟩
end
/-! fewer reservations -/
mutual
theorem RV.unres {K : PySem.W.Frag} {H : Hp} {b r r' : List Addr} (e : ∀ a, a ∈ r' → a ∈ r) : ∀ {p : PV} {v : V}, RV K H ⟨b, r⟩ p v → RV K H ⟨b, r'⟩ p v
  | .non, _, h => h
  | .bl _, _, h => h
  | .int _, _, h => h
  | .str _, _, h => h
  | .ty _, _, h => h
  | .obj _, _, h => h
  | .box n, _, h => h
  | .tup xs, _, h => by
    obtain ⟨a, ys, h1, h2, h3⟩ := h
    exact ⟨a, ys, h1, h2.imp (fun q => ⟨q.1, q.2.1, fun z => q.2.2 (e _ z)⟩) id, RVs.unres e h3⟩
  | .lst xs, _, h => by
    obtain ⟨a, ys, h1, h2, h3⟩ := h
    exact ⟨a, ys, h1, ⟨h2.1, h2.2.1, fun z => h2.2.2 (e _ z)⟩, RVs.unres e h3⟩
  | .fro xs, _, h => by
    obtain ⟨a, ys, h1, h2, h3⟩ := h
    exact ⟨a, ys, h1, h2.imp (fun q => ⟨q.1, q.2.1, fun z => q.2.2 (e _ z)⟩) id, RVs.unres e h3⟩
  | .exc C ns xs, _, h => by
    obtain ⟨a, ys, h1, h2, h3⟩ := h
    obtain ⟨q1, q2, C, hc, q3⟩ := h2
    refine ⟨a, ys, h1, ⟨q1, fun z => q2 (e _ z), C, hc, ?_⟩, RVs.unres e h3⟩
    rcases q3 with h | ⟨dx, dn, dm, h⟩
    · exact .inl h
    · exact .inr ⟨dx, dn, fun z => dm (e _ z), h⟩
theorem RVs.unres {K : PySem.W.Frag} {H : Hp} {b r r' : List Addr} (e : ∀ a, a ∈ r' → a ∈ r) : ∀ {p : List PV} {v : List V}, RVs K H ⟨b, r⟩ p v → RVs K H ⟨b, r'⟩ p v
  | [], _, h => h
  | x :: xs, _, h => by
    obtain ⟨v, ws, h1, h2, h3⟩ := h
    exact ⟨v, ws, h1, RV.unres e h2, RVs.unres e h3⟩
end
section
variable {K : PySem.W.Frag} {H H1 H2 : Hp} {ρ ρ1 ρ2 : Rh}
theorem RVs.length : ∀ {p : List PV} {v : List V}, RVs K H ρ p v → p.length = v.length
  | [], _, h => by cases h; rfl
  | x :: xs, _, h => by
    obtain ⟨v, ws, rfl, _, h3⟩ := h
    simp [RVs.length h3]
theorem RVs.nil : RVs K H ρ [] [] := rfl
theorem RVs.cons {p : PV} {ps : List PV} {v : V} {vs : List V} (h : RV K H ρ p v) (t : RVs K H ρ ps vs) : RVs K H ρ (p :: ps) (v :: vs) := ⟨v, vs, rfl, h, t⟩
theorem RVs.append : ∀ {p q : List PV} {v w : List V}, RVs K H ρ p v → RVs K H ρ q w → RVs K H ρ (p ++ q) (v ++ w)
  | [], _, _, _, h, t => by cases h; exact t
  | x :: xs, _, _, _, h, t => by
    obtain ⟨v, ws, rfl, h2, h3⟩ := h
    exact ⟨v, ws ++ _, rfl, h2, RVs.append h3 t⟩
theorem RVs.get : ∀ {p : List PV} {v : List V} {i : Nat} {x : PV}, RVs K H ρ p v → p[i]? = some x → ∃ y, v[i]? = some y ∧ RV K H ρ x y
  | [], _, _, _, _, e => by simp at e
  | q :: qs, _, 0, _, h, e => by
    obtain ⟨v, ws, rfl, h2, h3⟩ := h
    simp at e; subst e
    exact ⟨v, rfl, h2⟩
  | q :: qs, _, i + 1, _, h, e => by
    obtain ⟨v, ws, rfl, h2, h3⟩ := h
    obtain ⟨y, e1, e2⟩ := RVs.get (i := i) h3 (by simpa using e)
    exact ⟨y, by simpa using e1, e2⟩
theorem RVs.get' : ∀ {p : List PV} {v : List V} {i : Nat} {y : V}, RVs K H ρ p v → v[i]? = some y → ∃ x, p[i]? = some x ∧ RV K H ρ x y
  | [], _, _, _, h, e => by cases h; simp at e
  | q :: qs, _, 0, _, h, e => by
    obtain ⟨v, ws, rfl, h2, h3⟩ := h
    simp at e; subst e
    exact ⟨q, rfl, h2⟩
  | q :: qs, _, i + 1, _, h, e => by
    obtain ⟨v, ws, rfl, h2, h3⟩ := h
    obtain ⟨y, e1, e2⟩ := RVs.get' (i := i) h3 (by simpa using e)
    exact ⟨y, by simpa using e1, e2⟩
theorem RVs.set {x : PV} {y : V} (r : RV K H ρ x y) : ∀ {p : List PV} {v : List V} (i : Nat), RVs K H ρ p v → RVs K H ρ (p.set i x) (v.set i y)
  | [], _, _, h => by cases h; exact rfl
  | q :: qs, _, 0, h => by
    obtain ⟨v, ws, rfl, h2, h3⟩ := h
    exact ⟨y, ws, rfl, r, h3⟩
  | q :: qs, _, i + 1, h => by
    obtain ⟨v, ws, rfl, h2, h3⟩ := h
    exact ⟨v, ws.set i y, rfl, h2, RVs.set r i h3⟩
theorem RVs.drop : ∀ {p : List PV} {v : List V} (n : Nat), RVs K H ρ p v → RVs K H ρ (p.drop n) (v.drop n)
  | _, _, 0, h => h
  | [], _, n + 1, h => by cases h; exact rfl
  | q :: qs, _, n + 1, h => by
    obtain ⟨v, ws, rfl, h2, h3⟩ := h
    exact RVs.drop n h3
theorem RVs.take : ∀ {p : List PV} {v : List V} (n : Nat), RVs K H ρ p v → RVs K H ρ (p.take n) (v.take n)
  | _, _, 0, h => rfl
  | [], _, n + 1, h => by cases h; exact rfl
  | q :: qs, _, n + 1, h => by
    obtain ⟨v, ws, rfl, h2, h3⟩ := h
    exact ⟨v, ws.take n, rfl, h2, RVs.take n h3⟩

/-- the store: the lists that may change, at unlike addresses -/
structure RSt (K : PySem.W.Frag) (H : Hp) (ρ : Rh) (sto : Sto) : Prop where
  nd : ρ.bx.Nodup
  len : ρ.bx.length = sto.length
  at_ : ∀ (n : Nat) (a : Addr) (xs : List PV), ρ.bx[n]? = some a → sto[n]? = some xs → ∃ ys, H a = some (.lst ys) ∧ RVs K H ρ xs ys
  rsv : ∀ a ∈ ρ.rs, H a ≠ none ∧ a ∉ ρ.bx

def REnv (K : PySem.W.Frag) (H : Hp) (ρ : Rh) (env : Env) (σ : L2.St) : Prop :=
  env.length = σ.length ∧ ∀ (i : Nat) (p : PV), env[i]? = some (some p) → ∃ v, σ[i]? = some (some v) ∧ RV K H ρ p v
theorem REnv.mono (e : ExtW ρ H ρ1 H1) {env : Env} {σ : L2.St} (h : REnv K H ρ env σ) : REnv K H1 ρ1 env σ :=
  ⟨h.1, fun i p q => let ⟨v, h1, h2⟩ := h.2 i p q; ⟨v, h1, h2.mono e⟩⟩
theorem REnv.set {env : Env} {σ : L2.St} {p : PV} {v : V} (h : REnv K H ρ env σ) (i : Nat) (r : RV K H ρ p v) : REnv K H ρ (env.set i (some p)) (σ.set i (some v)) := by
  refine ⟨by simp [h.1], fun j q e => ?_⟩
  by_cases hj : i = j
  · subst hj
    by_cases hl : i < env.length
    · rw [List.getElem?_set_self hl] at e
      cases e
      exact ⟨v, by rw [List.getElem?_set_self (h.1 ▸ hl)], r⟩
    · rw [List.getElem?_eq_none_iff.mpr (by simpa using hl)] at e; cases e
  · rw [List.getElem?_set_ne hj] at e
    obtain ⟨w, h1, h2⟩ := h.2 j q e
    exact ⟨w, by rw [List.getElem?_set_ne hj]; exact h1, h2⟩
/-- an exception: its class, its own dict -/
def RX (K : PySem.W.Frag) (H : Hp) (ρ : Rh) (e : Exn) (cls : Value) (d : Option Addr) : Prop :=
  cls = e.cls ∧ (match d with
    | none => e.flds = []
    | some d => ∃ fs, H d = some (.xd fs) ∧ d ∉ ρ.bx ∧ d ∉ ρ.rs ∧ e.flds.map (·.1) = fs.map (·.1) ∧ RVs K H ρ (e.flds.map (·.2)) (fs.map (·.2)))
theorem RX.mono (x : ExtW ρ H ρ1 H1) {e : Exn} {cls : Value} {d : Option Addr} (h : RX K H ρ e cls d) : RX K H1 ρ1 e cls d := by
  refine ⟨h.1, ?_⟩
  cases d with
  | none => exact h.2
  | some d =>
    obtain ⟨fs, h1, h2, h2', h3, h4⟩ := h.2
    exact ⟨fs, x.keep _ _ h1 h2 h2', x.notin (sm h1) h2, x.nores (sm h1) h2', h3, h4.mono x⟩
end

/-- what is wanted behind a meaning -/
def Post {α : Type} (K : PySem.W.Frag) (W : XK) (H : Hp) (ρ : Rh) (G : α → Sto → Hp → Rh → Prop) : R α → Prop
  | .ok v s => ∀ H' ρ', Ext ρ H ρ' H' → RSt K H' ρ' s → G v s H' ρ'
  | .ex e s => ∀ cls d H' ρ', Ext ρ H ρ' H' → RSt K H' ρ' s → RX K H' ρ' e cls d → W cls d H'
  | .bad => False
section
variable {α β : Type} {K : PySem.W.Frag} {W : XK} {H H1 : Hp} {ρ ρ1 : Rh} {G G' : α → Sto → Hp → Rh → Prop} {G2 : β → Sto → Hp → Rh → Prop}
theorem Post.shift (e : Ext ρ H ρ1 H1) (hh : ∀ a ∈ ρ.rs, H a ≠ none) : ∀ {r : R α}, Post K W H ρ G r → Post K W H1 ρ1 G r
  | .ok _ _, h => fun H' ρ' x y => h H' ρ' (e.trans x hh) y
  | .ex _ _, h => fun c d H' ρ' x y => h c d H' ρ' (e.trans x hh) y
  | .bad, h => h
theorem Post.imp (hG : ∀ v s H' ρ', Ext ρ H ρ' H' → RSt K H' ρ' s → G v s H' ρ' → G' v s H' ρ') : ∀ {r : R α}, Post K W H ρ G r → Post K W H ρ G' r
  | .ok _ _, h => fun H' ρ' x y => hG _ _ H' ρ' x y (h H' ρ' x y)
  | .ex _ _, h => h
  | .bad, h => h
theorem Post.bind {f : α → Sto → R β} {sto : Sto} (S : RSt K H ρ sto) : ∀ {r : R α}, Post K W H ρ G2 (r.bind f) → Post K W H ρ (fun v s H' ρ' => Post K W H' ρ' G2 (f v s)) r
  | .ok v s, h => fun H' ρ' x _ => Post.shift x (fun a ha => (S.rsv a ha).1) h
  | .ex _ _, h => h
  | .bad, h => h
end

abbrev M := Env → Sto → R PV
abbrev MA := Env → Sto → R (List PV)
abbrev MT := Env → Sto → R Bool
abbrev WK := WX

def GV (K : PySem.W.Frag) (Q : VK) : PV → Sto → Hp → Rh → Prop := fun v _ H' ρ' => ∀ x, RV K H' ρ' v x → Q x H'
def GA (K : PySem.W.Frag) (Q : List V → Hp → Prop) : List PV → Sto → Hp → Rh → Prop := fun v _ H' ρ' => ∀ x, RVs K H' ρ' v x → Q x H'
def GT (Q : Bool → Hp → Prop) : Bool → Sto → Hp → Rh → Prop := fun b _ H' _ => Q b H'

def SE (K : PySem.W.Frag) (W : WK) (t : TE) (m : M) : Prop := ∀ (σ : L2.St) (H : Hp) (ρ : Rh) (env : Env) (sto : Sto) (Q : VK),
  REnv K H ρ env σ → RSt K H ρ sto → Post K (fun c d h => W c d σ h) H ρ (GV K Q) (m env sto) → t σ H Q
def SA (K : PySem.W.Frag) (W : WK) (t : TA) (m : MA) : Prop := ∀ (σ : L2.St) (H : Hp) (ρ : Rh) (env : Env) (sto : Sto) (Q : List V → Hp → Prop),
  REnv K H ρ env σ → RSt K H ρ sto → Post K (fun c d h => W c d σ h) H ρ (GA K Q) (m env sto) → t σ H Q
def ST (K : PySem.W.Frag) (W : WK) (t : TT) (m : MT) : Prop := ∀ (σ : L2.St) (H : Hp) (ρ : Rh) (env : Env) (sto : Sto) (Q : Bool → Hp → Prop),
  REnv K H ρ env σ → RSt K H ρ sto → Post K (fun c d h => W c d σ h) H ρ (GT Q) (m env sto) → t σ H Q

/-- an expression means m -/
def ME (X : Cx) (W : WK) (e : Expr) (m : M) : Prop := ∃ t, PE X e t ∧ SE X.K W t m
def MEs (X : Cx) (W : WK) (es : List Expr) (m : MA) : Prop := ∃ t, PA X es t ∧ SA X.K W t m
def MTe (X : Cx) (W : WK) (e : Expr) (m : MT) : Prop := ∃ t, PT X e t ∧ ST X.K W t m

/-! ### names, constants, displays -/
def mVar (i : Nat) : M := fun env s => match env[i]? with
  | some (some v) => .ok v s
  | _ => .bad
def mC (v : PV) : M := fun _ s => .ok v s
def mNil : MA := fun _ s => .ok [] s
def mCons (m : M) (ms : MA) : MA := fun env s => (m env s).bind fun v s1 => (ms env s1).bind fun vs s2 => .ok (v :: vs) s2
def isFlat : PV → Bool
  | .non | .bl _ | .int _ | .str _ | .ty _ | .obj _ => true
  | _ => false
section
variable {X : Cx} {W : WK} {e a b c : Expr} {m ma mb mc : M} {pos : Pos}
theorem e_var {i : Nat} {x : Str} (hN : X.N[i]? = some x) (hv : Vis X.env.scope x) (hd : (x == ("__debug__" : Str)) = false := by decide) (hcd : (x == ("__classdict__" : Str)) = false := by decide) : ME X W (.Name x pos) (mVar i) := by
  refine ⟨_, pe_var hN hv hd hcd, fun σ H ρ env sto Q hE hS hP => ?_⟩
  unfold mVar at hP
  cases h : env[i]? with
  | none => rw [h] at hP; exact hP.elim
  | some o =>
    cases o with
    | none => rw [h] at hP; exact hP.elim
    | some p =>
      rw [h] at hP
      obtain ⟨v, h1, h2⟩ := hE.2 i p h
      exact ⟨v, h1, hP H ρ .refl hS v h2⟩
theorem e_int {i : Int} {j} : ME X W (.Constant (.int i) j pos) (mC (.int i)) := ⟨_, pe_int, fun _ H ρ _ _ _ _ hS hP => hP H ρ .refl hS _ rfl⟩
theorem e_bl {i : Bool} {j} : ME X W (.Constant (.bool i) j pos) (mC (.bl i)) := ⟨_, pe_bl, fun _ H ρ _ _ _ _ hS hP => hP H ρ .refl hS _ rfl⟩
theorem e_non {j} : ME X W (.Constant .none j pos) (mC .non) := ⟨_, pe_non, fun _ H ρ _ _ _ _ hS hP => hP H ρ .refl hS _ rfl⟩
theorem e_str {i : Str} {j} : ME X W (.Constant (.str i) j pos) (mC (.str i)) := ⟨_, pe_str, fun _ H ρ _ _ _ _ hS hP => hP H ρ .refl hS _ rfl⟩
/-- a class or def of the module's own, as a value -/
theorem e_obj {x : Str} {f : Addr} (hg : Gl X x) (hm : X.mg x = some (.ref f)) (hd : (x == ("__debug__" : Str)) = false := by decide) : ME X W (.Name x pos) (mC (.obj f)) :=
  ⟨_, pe_glob (v := .ref f) hg hm rfl hd, fun _ H ρ _ _ _ _ hS hP => hP H ρ .refl hS _ rfl⟩
theorem a_nil : MEs X W [] mNil := ⟨_, pa_nil, fun _ H ρ _ _ _ _ hS hP => hP H ρ .refl hS _ rfl⟩
theorem a_cons {es : List Expr} {ms : MA} (h1 : ME X W e m) (h2 : MEs X W es ms) (hs : starEach (e :: es) X.env = (false, eval e X.env) :: starEach es X.env := by rfl) : MEs X W (e :: es) (mCons m ms) := by
  obtain ⟨t, p, s⟩ := h1
  obtain ⟨u, q, r⟩ := h2
  refine ⟨_, pa_cons p q hs, fun σ H ρ env sto Q hE hS hP => ?_⟩
  refine s σ H ρ env sto _ hE hS ((hP.bind hS).imp fun v s1 H1 ρ1 x1 S1 P1 y hy => ?_)
  refine r σ H1 ρ1 env s1 _ (hE.mono x1.toExtW) S1 ((P1.bind S1).imp fun vs s2 H2 ρ2 x2 S2 P2 ys hys => ?_)
  exact P2 H2 ρ2 .refl S2 _ (.cons (hy.mono x2.toExtW) hys)
def mTup (ms : MA) : M := fun env s => (ms env s).bind fun vs s1 => bif Nat.ble vs.length sizeLine then .ok (.tup vs) s1 else .bad
def mLst (ms : MA) : M := fun env s => (ms env s).bind fun vs s1 => bif Nat.ble vs.length sizeLine then .ok (.lst vs) s1 else .bad
def mBox (ms : MA) : M := fun env s => (ms env s).bind fun vs s1 => bif Nat.ble vs.length sizeLine then .ok (.box s1.length) (s1 ++ [vs]) else .bad
section
variable {K : PySem.W.Frag} {H H1 : Hp} {ρ ρ1 : Rh} {sto : Sto} {p : Addr} {o : HO}
theorem RSt.fresh (h : RSt K H ρ sto) (hp : H p = none) : p ∉ ρ.bx := fun hm => by
  obtain ⟨n, hn, e⟩ := List.getElem_of_mem hm
  have hl : n < sto.length := h.len ▸ hn
  obtain ⟨ys, h1, _⟩ := h.at_ n p sto[n] (by rw [List.getElem?_eq_getElem hn, e]) (List.getElem?_eq_getElem hl)
  rw [hp] at h1; cases h1
theorem RSt.freshR (h : RSt K H ρ sto) (hp : H p = none) : p ∉ ρ.rs := fun hm => (h.rsv p hm).1 hp
theorem RSt.hh (h : RSt K H ρ sto) : ∀ a ∈ ρ.rs, H a ≠ none := fun a ha => (h.rsv a ha).1
theorem has_upd (a : Addr) (h : H a ≠ none) : (upd H p o) a ≠ none := by
  by_cases q : a = p
  · subst q; rw [upd_same]; exact fun z => by cases z
  · rw [upd_ne q]; exact h
theorem Ext.new (hp : H p = none) (hr : ∀ a ∈ ρ.rs, H a ≠ none) : Ext ρ H ρ (upd H p o) :=
  ⟨⟨⟨[], by simp, by simp⟩, rs_refl, fun a u h _ _ => by rw [upd_ne (ne_of_none h hp)]; exact h, fun a h => has_upd a h⟩, rfl, fun a ha _ => upd_ne fun q => hr a ha (q ▸ hp)⟩
theorem RSt.mono' (h : RSt K H ρ sto) (x : Ext ρ H ρ H1) (k : ∀ a ∈ ρ.bx, H1 a = H a) : RSt K H1 ρ sto :=
  ⟨h.nd, h.len, fun n a xs e1 e2 => let ⟨ys, h1, h2⟩ := h.at_ n a xs e1 e2; ⟨ys, by rw [k a (List.mem_of_getElem? e1)]; exact h1, h2.mono x.toExtW⟩, fun a ha => ⟨x.has a (h.rsv a ha).1, (h.rsv a ha).2⟩⟩
theorem RSt.ext (h : RSt K H ρ sto) (hp : H p = none) : Ext ρ H ρ (upd H p o) := .new hp h.hh
theorem RSt.new (h : RSt K H ρ sto) (hp : H p = none) : RSt K (upd H p o) ρ sto :=
  h.mono' (h.ext hp) fun a ha => upd_ne fun q => h.fresh hp (q ▸ ha)
theorem RSt.newBox (h : RSt K H ρ sto) {xs : List PV} {ys : List V} (hp : H p = none) (r : RVs K H ρ xs ys) : Ext ρ H ⟨ρ.bx ++ [p], ρ.rs⟩ (upd H p (.lst ys)) ∧ RSt K (upd H p (.lst ys)) ⟨ρ.bx ++ [p], ρ.rs⟩ (sto ++ [xs]) := by
  have hx : Ext ρ H ⟨ρ.bx ++ [p], ρ.rs⟩ (upd H p (.lst ys)) :=
    ⟨⟨⟨[p], rfl, fun a ha => by rw [List.mem_singleton.mp ha]; exact hp⟩, rs_refl, (h.ext (o := .lst ys) hp).keep, (h.ext (o := .lst ys) hp).has⟩, rfl, (h.ext (o := .lst ys) hp).res⟩
  refine ⟨hx, ⟨?_, by simp [h.len], fun n a zs e1 e2 => ?_, fun a ha => ⟨hx.has a (h.rsv a ha).1, fun hm => ?_⟩⟩⟩
  · refine List.nodup_append.mpr ⟨h.nd, by simp, fun a ha b hb => ?_⟩
    rw [List.mem_singleton.mp hb]
    exact fun q => h.fresh hp (q ▸ ha)
  · by_cases hn : n < ρ.bx.length
    · rw [List.getElem?_append_left hn] at e1
      rw [List.getElem?_append_left (h.len ▸ hn)] at e2
      obtain ⟨us, h1, h2⟩ := h.at_ n a zs e1 e2
      exact ⟨us, by rw [upd_ne (ne_of_none h1 hp)]; exact h1, h2.mono hx.toExtW⟩
    · have hn' : n = ρ.bx.length := by
        have := (List.getElem?_eq_some_iff.mp e1).1
        simp at this; omega
      subst hn'
      simp at e1
      rw [h.len] at e2
      simp at e2
      subst e1; subst e2
      exact ⟨ys, upd_same, r.mono hx.toExtW⟩
  · rcases List.mem_append.mp hm with z | z
    · exact (h.rsv a ha).2 z
    · exact h.freshR hp (by rw [← List.mem_singleton.mp z]; exact ha)
end
theorem e_tup {es : List Expr} {ms : MA} {x1} (h : MEs X W es ms) : ME X W (.Tuple es x1 pos) (mTup ms) := by
  obtain ⟨t, p, s⟩ := h
  refine ⟨_, pe_tup p, fun σ H ρ env sto Q hE hS hP => ?_⟩
  refine s σ H ρ env sto _ hE hS ((hP.bind hS).imp fun vs s1 H1 ρ1 x1 S1 P1 ys hys => ?_)
  cases q : Nat.ble vs.length sizeLine with
  | false => rw [q] at P1; exact P1.elim
  | true =>
    rw [q] at P1
    refine ⟨by rw [← hys.length]; exact Nat.le_of_ble_eq_true q, fun p hp => ?_⟩
    exact P1 _ ρ1 (S1.ext hp) (S1.new hp) _ ⟨p, ys, rfl, .inl ⟨upd_same, S1.fresh hp, S1.freshR hp⟩, hys.mono (S1.ext hp).toExtW⟩
theorem e_lst {es : List Expr} {ms : MA} (h : MEs X W es ms) : ME X W (.List es pos) (mLst ms) := by
  obtain ⟨t, p, s⟩ := h
  refine ⟨_, pe_lst p, fun σ H ρ env sto Q hE hS hP => ?_⟩
  refine s σ H ρ env sto _ hE hS ((hP.bind hS).imp fun vs s1 H1 ρ1 x1 S1 P1 ys hys => ?_)
  cases q : Nat.ble vs.length sizeLine with
  | false => rw [q] at P1; exact P1.elim
  | true =>
    rw [q] at P1
    refine ⟨by rw [← hys.length]; exact Nat.le_of_ble_eq_true q, fun p hp => ?_⟩
    exact P1 _ ρ1 (S1.ext hp) (S1.new hp) _ ⟨p, ys, rfl, ⟨upd_same, S1.fresh hp, S1.freshR hp⟩, hys.mono (S1.ext hp).toExtW⟩
theorem e_box {es : List Expr} {ms : MA} (h : MEs X W es ms) : ME X W (.List es pos) (mBox ms) := by
  obtain ⟨t, p, s⟩ := h
  refine ⟨_, pe_lst p, fun σ H ρ env sto Q hE hS hP => ?_⟩
  refine s σ H ρ env sto _ hE hS ((hP.bind hS).imp fun vs s1 H1 ρ1 x1 S1 P1 ys hys => ?_)
  cases q : Nat.ble vs.length sizeLine with
  | false => rw [q] at P1; exact P1.elim
  | true =>
    rw [q] at P1
    refine ⟨by rw [← hys.length]; exact Nat.le_of_ble_eq_true q, fun p hp => ?_⟩
    obtain ⟨x2, S2⟩ := S1.newBox hp hys
    exact P1 _ _ x2 S2 _ ⟨p, rfl, by rw [← S1.len]; simp⟩
end
end Mi

namespace Mi
open PySem PySem.Spec PyProof.Rows L2

/-! ### what a value holds -/
def getL (sto : Sto) : PV → Option (List PV)
  | .lst xs => some xs
  | .box n => sto[n]?
  | _ => none
def getF (sto : Sto) : PV → Option (List PV)
  | .lst xs => some xs
  | .fro xs => some xs
  | .box n => sto[n]?
  | _ => none
def getT : PV → Option (List PV)
  | .tup xs => some xs
  | _ => none
def getQ (sto : Sto) : PV → Option (List PV)
  | .tup xs => some xs
  | v => getF sto v
section
variable {K : PySem.W.Frag} {H : Hp} {ρ : Rh} {sto : Sto} {x : PV} {v : V} {xs : List PV}
theorem getL_ok (S : RSt K H ρ sto) (r : RV K H ρ x v) (h : getL sto x = some xs) : ∃ a ys, v = .ref a ∧ H a = some (.lst ys) ∧ RVs K H ρ xs ys := by
  cases x <;> simp only [getL] at h <;> try cases h
  · obtain ⟨a, ys, h1, h2, h3⟩ := r
    exact ⟨a, ys, h1, h2.1, h3⟩
  · obtain ⟨a, h1, h2⟩ := r
    obtain ⟨ys, h3, h4⟩ := S.at_ _ a xs h2 h
    exact ⟨a, ys, h1, h3, h4⟩
theorem getF_ok (S : RSt K H ρ sto) (r : RV K H ρ x v) (h : getF sto x = some xs) : ∃ a ys, v = .ref a ∧ SqL K H a ys ∧ RVs K H ρ xs ys := by
  cases x <;> simp only [getF] at h <;> try cases h
  · obtain ⟨a, ys, h1, h2, h3⟩ := r
    exact ⟨a, ys, h1, .of h2.1, h3⟩
  · obtain ⟨a, ys, h1, h2, h3⟩ := r
    exact ⟨a, ys, h1, h2.sq, h3⟩
  · obtain ⟨a, h1, h2⟩ := r
    obtain ⟨ys, h3, h4⟩ := S.at_ _ a xs h2 h
    exact ⟨a, ys, h1, .of h3, h4⟩
theorem getT_ok (r : RV K H ρ x v) (h : getT x = some xs) : ∃ a ys, v = .ref a ∧ SqT K H a ys ∧ RVs K H ρ xs ys := by
  cases x <;> simp only [getT] at h <;> try cases h
  obtain ⟨a, ys, h1, h2, h3⟩ := r
  exact ⟨a, ys, h1, h2.sq, h3⟩
theorem getQ_ok (S : RSt K H ρ sto) (r : RV K H ρ x v) (h : getQ sto x = some xs) : ∃ a ys, v = .ref a ∧ (SqL K H a ys ∨ SqT K H a ys) ∧ RVs K H ρ xs ys := by
  cases x with
  | tup zs =>
    obtain ⟨a, ys, h1, h2, h3⟩ := getT_ok r (show getT (.tup zs) = some xs from h)
    exact ⟨a, ys, h1, .inr h2, h3⟩
  | _ =>
    obtain ⟨a, ys, h1, h2, h3⟩ := getF_ok S r (show getF sto _ = some xs from h)
    exact ⟨a, ys, h1, .inl h2, h3⟩
end
def fresh (b : Bool) (xs : List PV) (s : Sto) : R PV := bif b then .ok (.box s.length) (s ++ [xs]) else .ok (.lst xs) s
section
variable {K : PySem.W.Frag} {H : Hp} {ρ : Rh} {sto : Sto} {WP : XK} {Q : VK}
theorem fresh_ok {b : Bool} {xs : List PV} {ys : List V} (S : RSt K H ρ sto) (r : RVs K H ρ xs ys) (P : Post K WP H ρ (GV K Q) (fresh b xs sto)) {p : Addr} (hp : H p = none) : Q (.ref p) (upd H p (.lst ys)) := by
  cases b with
  | false => exact P _ ρ (S.ext hp) (S.new hp) _ ⟨p, ys, rfl, ⟨upd_same, S.fresh hp, S.freshR hp⟩, r.mono (S.ext hp).toExtW⟩
  | true =>
    obtain ⟨x2, S2⟩ := S.newBox hp r
    exact P _ _ x2 S2 _ ⟨p, rfl, by rw [← S.len]; simp⟩
theorem tup_ok {xs : List PV} {ys : List V} {s : Sto} (S : RSt K H ρ s) (r : RVs K H ρ xs ys) (P : Post K WP H ρ (GV K Q) (.ok (.tup xs) s)) {p : Addr} (hp : H p = none) : Q (.ref p) (upd H p (.tup ys)) :=
  P _ ρ (S.ext hp) (S.new hp) _ ⟨p, ys, rfl, .inl ⟨upd_same, S.fresh hp, S.freshR hp⟩, r.mono (S.ext hp).toExtW⟩
theorem now {v : PV} {x : V} (S : RSt K H ρ sto) (P : Post K WP H ρ (GV K Q) (.ok v sto)) (r : RV K H ρ v x) : Q x H := P H ρ .refl S x r
end

/-! ### two-place operations -/
abbrev G2 := PV → PV → Sto → R PV
def mBin (g : G2) (ma mb : M) : M := fun env s => (ma env s).bind fun x s1 => (mb env s1).bind fun y s2 => g x y s2
def SR2 (K : PySem.W.Frag) (r : R2) (g : G2) : Prop := ∀ (WP : XK) (H : Hp) (ρ : Rh) (sto : Sto) (x y : PV) (v u : V) (Q : VK),
  RSt K H ρ sto → RV K H ρ x v → RV K H ρ y u → Post K WP H ρ (GV K Q) (g x y sto) → r v u H Q
def mUn (g : PV → Sto → R PV) (m : M) : M := fun env s => (m env s).bind g
def SR1 (K : PySem.W.Frag) (r : V → Hp → VK → Prop) (g : PV → Sto → R PV) : Prop := ∀ (WP : XK) (H : Hp) (ρ : Rh) (sto : Sto) (x : PV) (v : V) (Q : VK),
  RSt K H ρ sto → RV K H ρ x v → Post K WP H ρ (GV K Q) (g x sto) → r v H Q
section
variable {X : Cx} {W : WK} {a b c : Expr} {ma mb mc : M} {pos : Pos} {g : G2} {r : R2}
theorem se_bin {ta tb : TE} (sa : SE X.K W ta ma) (sb : SE X.K W tb mb) (hg : SR2 X.K r g) : SE X.K W (tOp r ta tb) (mBin g ma mb) := by
  intro σ H ρ env sto Q hE hS hP
  refine sa σ H ρ env sto _ hE hS ((hP.bind hS).imp fun v s1 H1 ρ1 x1 S1 P1 y hy => ?_)
  refine sb σ H1 ρ1 env s1 _ (hE.mono x1.toExtW) S1 ((P1.bind S1).imp fun u s2 H2 ρ2 x2 S2 P2 z hz => ?_)
  exact hg _ H2 ρ2 s2 v u y z Q S2 (hy.mono x2.toExtW) hz P2
theorem e_op {op : Operator} (ho : OpR X (binaryOp op) r) (hg : SR2 X.K r g) (ha : ME X W a ma) (hb : ME X W b mb) : ME X W (.BinOp a op b pos) (mBin g ma mb) := by
  obtain ⟨ta, pa, sa⟩ := ha
  obtain ⟨tb, pb, sb⟩ := hb
  exact ⟨_, pe_op ho pa pb, se_bin sa sb hg⟩
theorem e_cmp {op : CmpOp} (ho : OpR X (compareOp op) r) (hg : SR2 X.K r g) (ha : ME X W a ma) (hb : ME X W b mb) (hm : behindInMarks op b = false) : ME X W (.Compare a [op] [b] pos) (mBin g ma mb) := by
  obtain ⟨ta, pa, sa⟩ := ha
  obtain ⟨tb, pb, sb⟩ := hb
  exact ⟨_, pe_cmpR ho pa pb hm, se_bin sa sb hg⟩
theorem e_un {op : UnaryOp} {r : V → Hp → VK → Prop} {g : PV → Sto → R PV} (ho : UnR X (unaryOp op) r) (hg : SR1 X.K r g) (ha : ME X W a ma) : ME X W (.UnaryOp op a pos) (mUn g ma) := by
  obtain ⟨ta, pa, sa⟩ := ha
  refine ⟨_, pe_un ho pa, fun σ H ρ env sto Q hE hS hP => ?_⟩
  exact sa σ H ρ env sto _ hE hS ((hP.bind hS).imp fun v s1 H1 ρ1 x1 S1 P1 y hy => hg _ H1 ρ1 s1 v y Q S1 hy P1)
end
def gAdd (fr : Bool) : G2 := fun x y s => match x, y with
  | .int i, .int j => .ok (.int (i + j)) s
  | .int i, .bl k => .ok (.int (i + b2i k)) s
  | .tup xs, .tup ys => bif Nat.ble (xs.length + ys.length) sizeLine then .ok (.tup (xs ++ ys)) s else .bad
  | x, y => match getL s x, getL s y with
    | some xs, some ys => bif Nat.ble (xs.length + ys.length) sizeLine then fresh fr (xs ++ ys) s else .bad
    | _, _ => .bad
def rAdd' (K : PySem.W.Frag) : R2 := fun x y H Q => (((∃ i j, x = .int i ∧ y = .int j ∧ Q (.int (i + j)) H) ∨ (∃ i k, x = .int i ∧ y = .bl k ∧ Q (.int (i + b2i k)) H)) ∨ rCatA K x y H Q) ∨ rCat x y H Q
theorem op_add' {X : Cx} : OpR X (binaryOp .Add) (rAdd' X.K) := ((OpR.or op_add op_add_ib).or op_catA).or op_cat
theorem ble_of {a b : Nat} {α : Type} {r r' : α} {C : α → Prop} (h : C (bif Nat.ble a b then r else r')) (hn : ¬ C r') : a ≤ b ∧ C r := by
  cases q : Nat.ble a b with
  | false => rw [q] at h; exact absurd h hn
  | true => rw [q] at h; exact ⟨Nat.le_of_ble_eq_true q, h⟩
section
variable {K : PySem.W.Frag}
theorem cat_list {WP : XK} {H : Hp} {ρ : Rh} {sto : Sto} {x y : PV} {v u : V} {Q : VK} {fr : Bool} (S : RSt K H ρ sto) (rx : RV K H ρ x v) (ry : RV K H ρ y u)
    (P : Post K WP H ρ (GV K Q) (match getL sto x, getL sto y with
    | some xs, some ys => bif Nat.ble (xs.length + ys.length) sizeLine then fresh fr (xs ++ ys) sto else .bad
    | _, _ => .bad)) : rCat v u H Q := by
  cases e1 : getL sto x with
  | none => rw [e1] at P; exact P.elim
  | some xs =>
    cases e2 : getL sto y with
    | none => rw [e1, e2] at P; exact P.elim
    | some ys =>
      rw [e1, e2] at P
      obtain ⟨hz, P⟩ := ble_of (C := Post K WP H ρ (GV K Q)) P (fun z => z)
      obtain ⟨a, as, rfl, ha, ra⟩ := getL_ok S rx e1
      obtain ⟨b, bs, rfl, hb, rb⟩ := getL_ok S ry e2
      exact ⟨a, b, as, bs, rfl, rfl, ha, hb, by rw [← ra.length, ← rb.length]; exact hz, fun p hp => fresh_ok S (ra.append rb) P hp⟩
theorem g_add {fr : Bool} : SR2 K (rAdd' K) (gAdd fr) := by
  intro WP H ρ sto x y v u Q S rx ry P
  unfold gAdd at P
  split at P
  · cases rx; cases ry
    exact .inl (.inl (.inl ⟨_, _, rfl, rfl, now S P rfl⟩))
  · cases rx; cases ry
    exact .inl (.inl (.inr ⟨_, _, rfl, rfl, now S P rfl⟩))
  · rename_i xs ys
    obtain ⟨hz, P⟩ := ble_of (C := Post K WP H ρ (GV K Q)) P (fun z => z)
    obtain ⟨a, as, rfl, ha, ra⟩ := getT_ok rx rfl
    obtain ⟨b, bs, rfl, hb, rb⟩ := getT_ok ry rfl
    refine .inl (.inr ⟨a, b, as, bs, rfl, rfl, ha, hb, by rw [← ra.length, ← rb.length]; exact hz, fun e => ?_, fun _ e => ?_, fun _ _ p hp => tup_ok S (ra.append rb) P hp⟩)
    · subst e
      have : xs = [] := List.length_eq_zero_iff.mp ra.length
      subst this
      exact now S P ry
    · subst e
      have : ys = [] := List.length_eq_zero_iff.mp rb.length
      subst this
      rw [List.append_nil] at P
      exact now S P rx
  · exact .inr (cat_list S rx ry P)
end
def gI (C : Int → Int → Bool) (f : Int → Int → PV) : G2 := fun x y s => match x, y with
  | .int i, .int j => bif C i j then .ok (f i j) s else .bad
  | _, _ => .bad
theorem g_I {K : PySem.W.Frag} {C : Int → Int → Bool} {C' : Int → Int → Prop} {f : Int → Int → PV} {f' : Int → Int → V} (hC : ∀ i j, C i j = true → C' i j) (hf : ∀ H ρ i j, RV K H ρ (f i j) (f' i j)) : SR2 K (rI C' f') (gI C f) := by
  intro WP H ρ sto x y v u Q S rx ry P
  unfold gI at P
  split at P
  · rename_i i j
    cases rx; cases ry
    cases q : C i j with
    | false => rw [q] at P; exact P.elim
    | true =>
      rw [q] at P
      exact ⟨i, j, rfl, rfl, hC i j q, now S P (hf H ρ i j)⟩
  · exact P.elim
def gI0 (f : Int → Int → PV) : G2 := fun x y s => match x, y with
  | .int i, .int j => .ok (f i j) s
  | _, _ => .bad
theorem g_I0 {K : PySem.W.Frag} {f : Int → Int → PV} {f' : Int → Int → V} (hf : ∀ H ρ i j, RV K H ρ (f i j) (f' i j)) : SR2 K (rI0 f') (gI0 f) := by
  intro WP H ρ sto x y v u Q S rx ry P
  unfold gI0 at P
  split at P
  · rename_i i j
    cases rx; cases ry
    exact ⟨i, j, rfl, rfl, now S P (hf H ρ i j)⟩
  · exact P.elim
def cMul (i j : Int) : Bool := Nat.blt (i.natAbs.log2 + j.natAbs.log2) 1000000
def cDiv (_ j : Int) : Bool := match j with
  | .ofNat n => bif Nat.beq n 0 then false else Nat.blt n.log2 9000
  | .negSucc _ => false
def cMod (_ j : Int) : Bool := match j with
  | .ofNat n => bif Nat.beq n 0 then false else true
  | .negSucc _ => false
def cPow (i j : Int) : Bool := match j with
  | .ofNat n => Nat.ble n 1000000 && Nat.blt i.natAbs (2 ^ 64)
  | .negSucc _ => false
theorem beq_ne {n : Nat} (h : (bif Nat.beq n 0 then false else true) = true) : n ≠ 0 := by
  intro e; subst e; cases h
theorem cDiv_ok (i j : Int) (h : cDiv i j = true) : CDivW i j := by
  unfold cDiv at h
  split at h
  · rename_i n
    cases q : Nat.beq n 0 with
    | true => rw [q] at h; cases h
    | false =>
      rw [q] at h
      have hn : n ≠ 0 := fun e => by rw [e] at q; cases q
      refine ⟨by show (0 : Int) < (n : Int); omega, ?_⟩
      exact Nat.le_of_ble_eq_true h
  · cases h
theorem cMod_ok (i j : Int) (h : cMod i j = true) : 0 < j := by
  unfold cMod at h
  split at h
  · rename_i n
    have := beq_ne h
    show (0 : Int) < (n : Int); omega
  · cases h
theorem cPow_ok (i j : Int) (h : cPow i j = true) : CPow i j := by
  unfold cPow at h
  split at h
  · rename_i n
    rw [Bool.and_eq_true] at h
    have h1 := Nat.le_of_ble_eq_true h.1
    exact ⟨Int.natCast_nonneg n, by show (n : Int) ≤ 1000000; omega, Nat.le_of_ble_eq_true h.2⟩
  · cases h
def gSub : G2 := gI0 fun i j => .int (i - j)
def gDiv : G2 := gI cDiv fun i j => .int (i / j)
def gMod : G2 := gI cMod fun i j => .int (i % j)
def gPow : G2 := gI cPow fun i j => .int (i ^ j.toNat)
def rep (n : Nat) (xs : List PV) : List PV := (List.replicate n xs).flatten
theorem RVs.flat {K : PySem.W.Frag} {H : Hp} {ρ : Rh} {xs : List PV} {ys : List V} (r : RVs K H ρ xs ys) : ∀ n, RVs K H ρ (rep n xs) (List.replicate n ys).flatten
  | 0 => rfl
  | n + 1 => by
    unfold rep
    rw [List.replicate_succ, List.replicate_succ, List.flatten_cons, List.flatten_cons]
    exact r.append (RVs.flat r n)
def gMul (fr : Bool) : G2 := fun x y s => match x, y with
  | .int i, .int j => bif cMul i j then .ok (.int (i * j)) s else .bad
  | .tup xs, .int (.ofNat k) => bif Nat.ble 2 k && Nat.ble k 1000 && Nat.ble xs.length 1000 && Nat.ble 1 xs.length then .ok (.tup (rep k xs)) s else .bad
  | x, .int (.ofNat k) => match getL s x with
    | some xs => bif Nat.ble (xs.length * k) sizeLine && Nat.blt k (2 ^ 63) then fresh fr (rep k xs) s else .bad
    | none => .bad
  | _, _ => .bad
def rMul' (K : PySem.W.Frag) : R2 := fun x y H Q => (rI CMulW (fun i j => .int (i * j)) x y H Q ∨ rRepT K x y H Q) ∨ rRep x y H Q
theorem op_mul' {X : Cx} : OpR X (binaryOp .Mult) (rMul' X.K) := (OpR.or op_mulW op_repT).or op_rep
theorem and_of {p : Bool} {α : Type} {r r' : α} {C : α → Prop} (h : C (bif p then r else r')) (hn : ¬ C r') : p = true ∧ C r := by
  cases p with
  | false => exact absurd h hn
  | true => exact ⟨rfl, h⟩
theorem g_mul {K : PySem.W.Frag} {fr : Bool} : SR2 K (rMul' K) (gMul fr) := by
  intro WP H ρ sto x y v u Q S rx ry P
  unfold gMul at P
  split at P
  · rename_i i j
    cases rx; cases ry
    obtain ⟨hc, P⟩ := and_of (C := Post K WP H ρ (GV K Q)) P (fun z => z)
    exact .inl (.inl ⟨i, j, rfl, rfl, Nat.le_of_ble_eq_true hc, now S P rfl⟩)
  · rename_i xs k
    cases ry
    obtain ⟨hc, P⟩ := and_of (C := Post K WP H ρ (GV K Q)) P (fun z => z)
    simp only [Bool.and_eq_true] at hc
    obtain ⟨⟨⟨h1, h2⟩, h3⟩, h4⟩ := hc
    have h1 := Nat.le_of_ble_eq_true h1
    have h2 := Nat.le_of_ble_eq_true h2
    have h3 := Nat.le_of_ble_eq_true h3
    have h4 := Nat.le_of_ble_eq_true h4
    obtain ⟨a, as, rfl, ha, ra⟩ := getT_ok rx rfl
    refine .inl (.inr ⟨a, (k : Int), as, rfl, rfl, ha, fun e => ?_, by omega, by omega, by rw [← ra.length]; exact h3, fun p hp => ?_⟩)
    · subst e
      have := ra.length
      simp at this; subst this; simp at h4
    · exact tup_ok S (ra.flat k) P hp
  · rename_i k _ _
    cases ry
    cases e1 : getL sto x with
    | none => rw [e1] at P; exact P.elim
    | some xs =>
      rw [e1] at P
      obtain ⟨hc, P⟩ := and_of (C := Post K WP H ρ (GV K Q)) P (fun z => z)
      simp only [Bool.and_eq_true] at hc
      have h1 := Nat.le_of_ble_eq_true hc.1
      have h2 : k < 2 ^ 63 := Nat.le_of_ble_eq_true hc.2
      obtain ⟨a, as, rfl, ha, ra⟩ := getL_ok S rx e1
      exact .inr ⟨a, (k : Int), as, rfl, rfl, ha, by omega, by omega, by rw [← ra.length]; exact h1, fun p hp => fresh_ok S (ra.flat k) P hp⟩
  · exact P.elim
def gNeg : PV → Sto → R PV := fun x s => match x with
  | .int i => .ok (.int (-i)) s
  | _ => .bad
theorem g_neg {K : PySem.W.Frag} : SR1 K (rU fun i => .int (-i)) gNeg := by
  intro WP H ρ sto x v Q S rx P
  unfold gNeg at P
  split at P
  · cases rx
    exact ⟨_, rfl, now S P rfl⟩
  · exact P.elim

/-! ### comparisons -/
mutual
def toD (sto : Sto) : PV → Option PyData
  | .non => some .none
  | .bl b => some (.bool b)
  | .int i => some (.int i)
  | .str x => some (.str x)
  | .tup xs => (toDs sto xs).map .tuple
  | .lst xs => (toDs sto xs).map .list
  | .fro xs => (toDs sto xs).map .list
  | .box n => none
  | .ty _ => none
  | .obj _ => none
  | .exc _ _ _ => none
def toDs (sto : Sto) : List PV → Option (List PyData)
  | [] => some []
  | x :: xs => match toD sto x with
    | some d => match toDs sto xs with
      | some ds => some (d :: ds)
      | none => none
    | none => none
end
mutual
theorem toD_ok {K : PySem.W.Frag} {H : Hp} {ρ : Rh} {sto : Sto} : ∀ {x : PV} {v : V} {d : PyData}, RV K H ρ x v → toD sto x = some d → Dp K H v d
  | .non, _, _, r, h => by cases r; cases h; exact .non
  | .bl b, _, _, r, h => by cases r; cases h; exact .bl b
  | .int b, _, _, r, h => by cases r; cases h; exact .int b
  | .str b, _, _, r, h => by cases r; cases h; exact .str b
  | .tup xs, _, _, r, h => by
    obtain ⟨a, ys, rfl, h2, h3⟩ := r
    unfold toD at h
    cases e : toDs sto xs with
    | none => rw [e] at h; cases h
    | some ds => rw [e] at h; cases h; exact .tup h2.sq (toDs_ok h3 e)
  | .lst xs, _, _, r, h => by
    obtain ⟨a, ys, rfl, h2, h3⟩ := r
    unfold toD at h
    cases e : toDs sto xs with
    | none => rw [e] at h; cases h
    | some ds => rw [e] at h; cases h; exact .lst h2.sq (toDs_ok h3 e)
  | .fro xs, _, _, r, h => by
    obtain ⟨a, ys, rfl, h2, h3⟩ := r
    unfold toD at h
    cases e : toDs sto xs with
    | none => rw [e] at h; cases h
    | some ds => rw [e] at h; cases h; exact .lst h2.sq (toDs_ok h3 e)
  | .box _, _, _, _, h => by cases h
  | .ty _, _, _, _, h => by cases h
  | .obj _, _, _, _, h => by cases h
  | .exc _ _ _, _, _, _, h => by cases h
theorem toDs_ok {K : PySem.W.Frag} {H : Hp} {ρ : Rh} {sto : Sto} : ∀ {xs : List PV} {vs : List V} {ds : List PyData}, RVs K H ρ xs vs → toDs sto xs = some ds → DpAll K H vs ds
  | [], _, _, r, h => by cases r; cases h; exact .nil
  | x :: xs, _, _, r, h => by
    obtain ⟨v, ws, rfl, h2, h3⟩ := r
    unfold toDs at h
    cases e1 : toD sto x with
    | none => rw [e1] at h; cases h
    | some d =>
      cases e2 : toDs sto xs with
      | none => rw [e1, e2] at h; cases h
      | some ds => rw [e1, e2] at h; cases h; exact .cons (toD_ok h2 e1) (toDs_ok h3 e2)
end
def gEqD (f : Bool → Bool) : G2 := fun x y s => match toD s x, toD s y with
  | some d, some e => bif SeqAt.shaped d && SeqAt.shaped e then .ok (.bl (f (PyData.eqv d e))) s else .bad
  | _, _ => .bad
/-- == of flat values first -/
def gEq : G2 := fun x y s => match x, y with
  | .int i, .int j => .ok (.bl (decide (i = j))) s
  | .bl i, .bl j => .ok (.bl (decide (i = j))) s
  | .str i, .str j => .ok (.bl (decide (i = j))) s
  | .non, .non => .ok (.bl true) s
  | x, y => gEqD id x y s
def gNe : G2 := fun x y s => match x, y with
  | .int i, .int j => .ok (.bl (!decide (i = j))) s
  | .bl i, .bl j => .ok (.bl (!decide (i = j))) s
  | .str i, .str j => .ok (.bl (!decide (i = j))) s
  | .non, .non => .ok (.bl false) s
  | x, y => gEqD not x y s
theorem g_eqD {K : PySem.W.Frag} : SR2 K (rEqD K) (gEqD id) := by
  intro WP H ρ sto x y v u Q S rx ry P
  unfold gEqD at P
  split at P
  · rename_i d e h1 h2
    obtain ⟨hc, P⟩ := and_of (C := Post K WP H ρ (GV K Q)) P (fun z => z)
    rw [Bool.and_eq_true] at hc
    exact ⟨d, e, toD_ok rx h1, toD_ok ry h2, hc.1, hc.2, now S P rfl⟩
  · exact P.elim
theorem g_neD {K : PySem.W.Frag} : SR2 K (rNeD K) (gEqD not) := by
  intro WP H ρ sto x y v u Q S rx ry P
  unfold gEqD at P
  split at P
  · rename_i d e h1 h2
    obtain ⟨hc, P⟩ := and_of (C := Post K WP H ρ (GV K Q)) P (fun z => z)
    rw [Bool.and_eq_true] at hc
    exact ⟨d, e, toD_ok rx h1, toD_ok ry h2, hc.1, hc.2, now S P rfl⟩
  · exact P.elim
theorem vint {i j : Int} : decide (V.int i = V.int j) = decide (i = j) := by simp
theorem vbl {i j : Bool} : decide (V.bl i = V.bl j) = decide (i = j) := by simp
theorem vstr {i j : Str} : decide (V.str i = V.str j) = decide (i = j) := by simp
theorem g_eq {K : PySem.W.Frag} : SR2 K (fun x y H Q => rEq x y H Q ∨ rEqD K x y H Q) gEq := by
  intro WP H ρ sto x y v u Q S rx ry P
  unfold gEq at P
  split at P
  · cases rx; cases ry; exact .inl ⟨rfl, now S P (by rw [vint]; rfl)⟩
  · cases rx; cases ry; exact .inl ⟨rfl, now S P (by rw [vbl]; rfl)⟩
  · cases rx; cases ry; exact .inl ⟨rfl, now S P (by rw [vstr]; rfl)⟩
  · cases rx; cases ry; exact .inl ⟨rfl, now S P rfl⟩
  · exact .inr (g_eqD WP H ρ sto _ _ v u Q S rx ry P)
theorem g_ne {K : PySem.W.Frag} : SR2 K (fun x y H Q => rNe x y H Q ∨ rNeD K x y H Q) gNe := by
  intro WP H ρ sto x y v u Q S rx ry P
  unfold gNe at P
  split at P
  · cases rx; cases ry; exact .inl ⟨rfl, now S P (by rw [vint]; rfl)⟩
  · cases rx; cases ry; exact .inl ⟨rfl, now S P (by rw [vbl]; rfl)⟩
  · cases rx; cases ry; exact .inl ⟨rfl, now S P (by rw [vstr]; rfl)⟩
  · cases rx; cases ry; exact .inl ⟨rfl, now S P rfl⟩
  · exact .inr (g_neD WP H ρ sto _ _ v u Q S rx ry P)
theorem op_eq' {X : Cx} (hu : X.A.units + 64 < cLine) : OpR X (compareOp .Eq) (fun x y H Q => rEq x y H Q ∨ rEqD X.K x y H Q) := .or op_eq (op_eqD hu)
theorem op_ne' {X : Cx} (hu : X.A.units + 64 < cLine) : OpR X (compareOp .NotEq) (fun x y H Q => rNe x y H Q ∨ rNeD X.K x y H Q) := .or op_ne (op_neD hu)
def gLt : G2 := gI0 fun i j => .bl (decide (i < j))
def gLe : G2 := gI0 fun i j => .bl (decide (i ≤ j))
def gGt : G2 := gI0 fun i j => .bl (decide (j < i))
def gGe : G2 := gI0 fun i j => .bl (decide (j ≤ i))
def isNon : PV → Bool
  | .non => true
  | _ => false
theorem isNon_ok {K : PySem.W.Frag} {H : Hp} {ρ : Rh} : ∀ {x : PV} {v : V}, RV K H ρ x v → decide (v = .non) = isNon x
  | .non, _, r => by cases r; rfl
  | .bl _, _, r => by cases r; rfl
  | .int _, _, r => by cases r; rfl
  | .str _, _, r => by cases r; rfl
  | .ty _, _, r => by cases r; rfl
  | .obj _, _, r => by cases r; rfl
  | .box _, _, r => by obtain ⟨a, rfl, _⟩ := r; rfl
  | .tup _, _, r => by obtain ⟨a, _, rfl, _⟩ := r; rfl
  | .lst _, _, r => by obtain ⟨a, _, rfl, _⟩ := r; rfl
  | .fro _, _, r => by obtain ⟨a, _, rfl, _⟩ := r; rfl
  | .exc _ _ _, _, r => by obtain ⟨a, _, rfl, _⟩ := r; rfl
def gIs (f : Bool → Bool) : G2 := fun x y s => match y with
  | .non => .ok (.bl (f (isNon x))) s
  | _ => .bad
theorem g_is {K : PySem.W.Frag} : SR2 K (fun x y H Q => y = .non ∧ Q (.bl (decide (x = .non))) H) (gIs id) := by
  intro WP H ρ sto x y v u Q S rx ry P
  unfold gIs at P
  split at P
  · cases ry; exact ⟨rfl, now S P (by rw [isNon_ok rx]; rfl)⟩
  · exact P.elim
theorem g_isnot {K : PySem.W.Frag} : SR2 K (fun x y H Q => y = .non ∧ Q (.bl (!decide (x = .non))) H) (gIs not) := by
  intro WP H ρ sto x y v u Q S rx ry P
  unfold gIs at P
  split at P
  · cases ry; exact ⟨rfl, now S P (by rw [isNon_ok rx]; rfl)⟩
  · exact P.elim
section
variable {X : Cx} {W : WK} {a b : Expr} {ma mb : M} {pos : Pos}
theorem e_add {fr : Bool} (ha : ME X W a ma) (hb : ME X W b mb) : ME X W (.BinOp a .Add b pos) (mBin (gAdd fr) ma mb) := e_op op_add' g_add ha hb
theorem e_sub (ha : ME X W a ma) (hb : ME X W b mb) : ME X W (.BinOp a .Sub b pos) (mBin gSub ma mb) := e_op op_sub (g_I0 fun _ _ _ _ => rfl) ha hb
theorem e_mul {fr : Bool} (ha : ME X W a ma) (hb : ME X W b mb) : ME X W (.BinOp a .Mult b pos) (mBin (gMul fr) ma mb) := e_op op_mul' g_mul ha hb
theorem e_div (ha : ME X W a ma) (hb : ME X W b mb) : ME X W (.BinOp a .FloorDiv b pos) (mBin gDiv ma mb) := e_op op_fdivW (g_I cDiv_ok fun _ _ _ _ => rfl) ha hb
theorem e_mod (ha : ME X W a ma) (hb : ME X W b mb) : ME X W (.BinOp a .Mod b pos) (mBin gMod ma mb) := e_op op_mod (g_I cMod_ok fun _ _ _ _ => rfl) ha hb
theorem e_pow (ha : ME X W a ma) (hb : ME X W b mb) : ME X W (.BinOp a .Pow b pos) (mBin gPow ma mb) := e_op op_pow (g_I cPow_ok fun _ _ _ _ => rfl) ha hb
theorem e_neg (ha : ME X W a ma) : ME X W (.UnaryOp .USub a pos) (mUn gNeg ma) := e_un un_neg g_neg ha
theorem e_eq (hu : X.A.units + 64 < cLine) (ha : ME X W a ma) (hb : ME X W b mb) : ME X W (.Compare a [.Eq] [b] pos) (mBin gEq ma mb) := e_cmp (op_eq' hu) g_eq ha hb (nomark _)
theorem e_ne (hu : X.A.units + 64 < cLine) (ha : ME X W a ma) (hb : ME X W b mb) : ME X W (.Compare a [.NotEq] [b] pos) (mBin gNe ma mb) := e_cmp (op_ne' hu) g_ne ha hb (nomark _)
theorem e_lt (ha : ME X W a ma) (hb : ME X W b mb) : ME X W (.Compare a [.Lt] [b] pos) (mBin gLt ma mb) := e_cmp op_lt (g_I0 fun _ _ _ _ => rfl) ha hb (nomark _)
theorem e_le (ha : ME X W a ma) (hb : ME X W b mb) : ME X W (.Compare a [.LtE] [b] pos) (mBin gLe ma mb) := e_cmp op_le (g_I0 fun _ _ _ _ => rfl) ha hb (nomark _)
theorem e_gt (ha : ME X W a ma) (hb : ME X W b mb) : ME X W (.Compare a [.Gt] [b] pos) (mBin gGt ma mb) := e_cmp op_gt (g_I0 fun _ _ _ _ => rfl) ha hb (nomark _)
theorem e_ge (ha : ME X W a ma) (hb : ME X W b mb) : ME X W (.Compare a [.GtE] [b] pos) (mBin gGe ma mb) := e_cmp op_ge (g_I0 fun _ _ _ _ => rfl) ha hb (nomark _)
theorem e_is (ha : ME X W a ma) (hb : ME X W b mb) : ME X W (.Compare a [.Is] [b] pos) (mBin (gIs id) ma mb) := e_cmp op_isN g_is ha hb (nomark _)
theorem e_isnot (ha : ME X W a ma) (hb : ME X W b mb) : ME X W (.Compare a [.IsNot] [b] pos) (mBin (gIs not) ma mb) := e_cmp op_notN g_isnot ha hb (nomark _)
end
end Mi

namespace Mi
open PySem PySem.Spec PyProof.Rows L2

/-! ### tests -/
def vB : PV → Sto → R Bool := fun v s => match v with
  | .bl b => .ok b s
  | _ => .bad
def mT (m : M) : MT := fun env s => (m env s).bind vB
def mAndT (a b : MT) : MT := fun env s => (a env s).bind fun c s1 => bif c then b env s1 else .ok false s1
def mOrT (a b : MT) : MT := fun env s => (a env s).bind fun c s1 => bif c then .ok true s1 else b env s1
def mNotT (a : MT) : MT := fun env s => (a env s).bind fun c s1 => .ok (!c) s1
def mIf (t : MT) (a b : M) : M := fun env s => (t env s).bind fun c s1 => bif c then a env s1 else b env s1
def mAnd (a b : M) : M := fun env s => (a env s).bind fun v s1 => match v with
  | .bl c => bif c then b env s1 else .ok (.bl false) s1
  | _ => .bad
def mOr (a b : M) : M := fun env s => (a env s).bind fun v s1 => match v with
  | .bl c => bif c then .ok (.bl true) s1 else b env s1
  | _ => .bad
def mNot (a : M) : M := fun env s => (a env s).bind fun v s1 => match v with
  | .bl c => .ok (.bl (!c)) s1
  | _ => .bad
def tru (s : Sto) : PV → Option Bool
  | .non => some false
  | .bl b => some b
  | .int i => some (i != 0)
  | .tup xs => some (!xs.isEmpty)
  | .lst xs => some (!xs.isEmpty)
  | .fro xs => some (!xs.isEmpty)
  | .box n => (s[n]?).map fun xs => !xs.isEmpty
  | _ => none
def mOrV (a b : M) : M := fun env s => (a env s).bind fun v s1 => match tru s1 v with
  | some c => bif c then .ok v s1 else b env s1
  | none => .bad
def mAndV (a b : M) : M := fun env s => (a env s).bind fun v s1 => match tru s1 v with
  | some c => bif c then b env s1 else .ok v s1
  | none => .bad
def mTru (m : M) : MT := fun env s => (m env s).bind fun v s1 => match tru s1 v with
  | some c => .ok c s1
  | none => .bad
section
variable {K : PySem.W.Frag} {W : WK} {H : Hp} {ρ : Rh} {sto : Sto}
theorem RVs.isEmpty {xs : List PV} {ys : List V} (r : RVs K H ρ xs ys) : xs.isEmpty = ys.isEmpty := by
  cases xs with
  | nil => cases r; rfl
  | cons x xs => obtain ⟨v, ws, rfl, _⟩ := r; rfl
theorem tru_ok' (S : RSt K H ρ sto) : ∀ {x : PV} {v : V} {c : Bool}, RV K H ρ x v → tru sto x = some c → TruV K v H c
  | .non, _, _, r, h => by cases r; cases h; exact rfl
  | .bl _, _, _, r, h => by cases r; cases h; exact rfl
  | .int _, _, _, r, h => by cases r; cases h; exact rfl
  | .tup xs, _, _, r, h => by
    obtain ⟨a, ys, rfl, h2, h3⟩ := r
    cases h
    exact .inr (.inl ⟨ys, h2.sq, by rw [h3.isEmpty]⟩)
  | .lst xs, _, _, r, h => by
    obtain ⟨a, ys, rfl, h2, h3⟩ := r
    cases h
    exact .inl ⟨ys, h2.sq, by rw [h3.isEmpty]⟩
  | .fro xs, _, _, r, h => by
    obtain ⟨a, ys, rfl, h2, h3⟩ := r
    cases h
    exact .inl ⟨ys, h2.sq, by rw [h3.isEmpty]⟩
  | .box n, _, _, r, h => by
    obtain ⟨a, rfl, h2⟩ := r
    have h : (sto[n]?).map (fun xs => !xs.isEmpty) = some _ := h
    cases e : sto[n]? with
    | none => rw [e] at h; cases h
    | some xs =>
      rw [e] at h
      cases h
      obtain ⟨ys, h3, h4⟩ := S.at_ n a xs h2 e
      exact .inl ⟨ys, .of h3, by show (!xs.isEmpty) = _; rw [h4.isEmpty]⟩
theorem st_test {t : TE} {m : M} (h : SE K W t m) : ST K W (fun σ H Q => t σ H fun x H' => ∃ k, x = .bl k ∧ Q k H') (mT m) := by
  intro σ H ρ env sto Q hE hS hP
  refine h σ H ρ env sto _ hE hS ((hP.bind hS).imp fun v s1 H1 ρ1 x1 S1 P1 y hy => ?_)
  unfold vB at P1
  split at P1
  · cases hy
    exact ⟨_, rfl, P1 H1 ρ1 .refl S1⟩
  · exact P1.elim
end
section
variable {X : Cx} {W : WK} {a b c e : Expr} {rest : List Expr} {m ma mb : M} {pos : Pos} {ta tb tc : MT}
def MW (X : Cx) (W : WK) (e : Expr) (m : MT) : Prop := ∃ t, PW X e t ∧ ST X.K W t m
theorem MW.t (h : MW X W e tc) : MTe X W e tc := let ⟨t, p, s⟩ := h; ⟨t, p.pt, s⟩
theorem t_cmp {op : CmpOp} {r : R2} {g : G2} (ho : OpR X (compareOp op) r) (hg : SR2 X.K r g) (ha : ME X W a ma) (hb : ME X W b mb) (hm : behindInMarks op b = false) : MTe X W (.Compare a [op] [b] pos) (mT (mBin g ma mb)) := by
  obtain ⟨ta, pa, sa⟩ := ha
  obtain ⟨tb, pb, sb⟩ := hb
  exact ⟨_, pt_cmpR ho pa pb hm, st_test (se_bin sa sb hg)⟩
theorem t_val (h : ME X W e m) (he : ∀ whole, isTrue e X.env whole = (do let v ← whole; standAt e.pos; holding [v] (truthy v)) := by intro _; rfl) : MTe X W e (mT m) := by
  obtain ⟨t, p, s⟩ := h
  exact ⟨_, pt_val p he, st_test s⟩
theorem t_tru (h : ME X W e m) (he : ∀ whole, isTrue e X.env whole = (do let v ← whole; standAt e.pos; holding [v] (truthy v)) := by intro _; rfl) : MTe X W e (mTru m) := by
  obtain ⟨t, p, s⟩ := h
  refine ⟨_, pt_truth p he, fun σ H ρ env sto Q hE hS hP => ?_⟩
  refine s σ H ρ env sto _ hE hS ((hP.bind hS).imp fun v s1 H1 ρ1 x1 S1 P1 y hy => ?_)
  cases q : tru s1 v with
  | none => rw [q] at P1; exact P1.elim
  | some c => rw [q] at P1; exact ⟨c, tru_ok' S1 hy q, P1 H1 ρ1 .refl S1⟩
theorem t_eq (hu : X.A.units + 64 < cLine) (ha : ME X W a ma) (hb : ME X W b mb) : MTe X W (.Compare a [.Eq] [b] pos) (mT (mBin gEq ma mb)) := t_cmp (op_eq' hu) g_eq ha hb (nomark _)
theorem t_ne (hu : X.A.units + 64 < cLine) (ha : ME X W a ma) (hb : ME X W b mb) : MTe X W (.Compare a [.NotEq] [b] pos) (mT (mBin gNe ma mb)) := t_cmp (op_ne' hu) g_ne ha hb (nomark _)
theorem t_lt (ha : ME X W a ma) (hb : ME X W b mb) : MTe X W (.Compare a [.Lt] [b] pos) (mT (mBin gLt ma mb)) := t_cmp op_lt (g_I0 fun _ _ _ _ => rfl) ha hb (nomark _)
theorem t_le (ha : ME X W a ma) (hb : ME X W b mb) : MTe X W (.Compare a [.LtE] [b] pos) (mT (mBin gLe ma mb)) := t_cmp op_le (g_I0 fun _ _ _ _ => rfl) ha hb (nomark _)
theorem t_gt (ha : ME X W a ma) (hb : ME X W b mb) : MTe X W (.Compare a [.Gt] [b] pos) (mT (mBin gGt ma mb)) := t_cmp op_gt (g_I0 fun _ _ _ _ => rfl) ha hb (nomark _)
theorem t_ge (ha : ME X W a ma) (hb : ME X W b mb) : MTe X W (.Compare a [.GtE] [b] pos) (mT (mBin gGe ma mb)) := t_cmp op_ge (g_I0 fun _ _ _ _ => rfl) ha hb (nomark _)
theorem t_is (ha : ME X W a ma) (hb : ME X W b mb) : MTe X W (.Compare a [.Is] [b] pos) (mT (mBin (gIs id) ma mb)) := t_cmp op_isN g_is ha hb (nomark _)
theorem t_isnot (ha : ME X W a ma) (hb : ME X W b mb) : MTe X W (.Compare a [.IsNot] [b] pos) (mT (mBin (gIs not) ma mb)) := t_cmp op_notN g_isnot ha hb (nomark _)
theorem w_and1 (h : MTe X W a ta) : MW X W (.BoolOp .And [a] pos) ta := let ⟨t, p, s⟩ := h; ⟨t, pw_and1 p, s⟩
theorem w_or1 (h : MTe X W a ta) : MW X W (.BoolOp .Or [a] pos) ta := let ⟨t, p, s⟩ := h; ⟨t, pw_or1 p, s⟩
theorem w_and (ha : MTe X W a ta) (hb : MW X W (.BoolOp .And (b :: rest) pos) tb) : MW X W (.BoolOp .And (a :: b :: rest) pos) (mAndT ta tb) := by
  obtain ⟨t, p, s⟩ := ha
  obtain ⟨u, q, r⟩ := hb
  refine ⟨_, pw_and p q, fun σ H ρ env sto Q hE hS hP => ?_⟩
  refine s σ H ρ env sto _ hE hS ((hP.bind hS).imp fun c s1 H1 ρ1 x1 S1 P1 => ?_)
  cases c with
  | true => exact r σ H1 ρ1 env s1 Q (hE.mono x1.toExtW) S1 P1
  | false => exact P1 H1 ρ1 .refl S1
theorem w_or (ha : MTe X W a ta) (hb : MW X W (.BoolOp .Or (b :: rest) pos) tb) : MW X W (.BoolOp .Or (a :: b :: rest) pos) (mOrT ta tb) := by
  obtain ⟨t, p, s⟩ := ha
  obtain ⟨u, q, r⟩ := hb
  refine ⟨_, pw_or p q, fun σ H ρ env sto Q hE hS hP => ?_⟩
  refine s σ H ρ env sto _ hE hS ((hP.bind hS).imp fun c s1 H1 ρ1 x1 S1 P1 => ?_)
  cases c with
  | false => exact r σ H1 ρ1 env s1 Q (hE.mono x1.toExtW) S1 P1
  | true => exact P1 H1 ρ1 .refl S1
theorem t_not (ha : MTe X W a ta) : MTe X W (.UnaryOp .Not a pos) (mNotT ta) := by
  obtain ⟨t, p, s⟩ := ha
  refine ⟨_, pt_not p, fun σ H ρ env sto Q hE hS hP => ?_⟩
  exact s σ H ρ env sto _ hE hS ((hP.bind hS).imp fun c s1 H1 ρ1 x1 S1 P1 => P1 H1 ρ1 .refl S1)
theorem e_ifx (hc : MTe X W c tc) (ha : ME X W a ma) (hb : ME X W b mb) : ME X W (.IfExp c a b pos) (mIf tc ma mb) := by
  obtain ⟨t, p, s⟩ := hc
  obtain ⟨ua, qa, ra⟩ := ha
  obtain ⟨ub, qb, rb⟩ := hb
  refine ⟨_, pe_ifExp p qa qb, fun σ H ρ env sto Q hE hS hP => ?_⟩
  refine s σ H ρ env sto _ hE hS ((hP.bind hS).imp fun c s1 H1 ρ1 x1 S1 P1 => ?_)
  cases c with
  | true => exact ra σ H1 ρ1 env s1 Q (hE.mono x1.toExtW) S1 P1
  | false => exact rb σ H1 ρ1 env s1 Q (hE.mono x1.toExtW) S1 P1
theorem e_one {op} (h : ME X W a ma) : ME X W (.BoolOp op [a] pos) ma := let ⟨t, p, s⟩ := h; ⟨t, pe_one p, s⟩
theorem e_and (ha : ME X W a ma) (hb : ME X W (.BoolOp .And (b :: rest) pos) mb) : ME X W (.BoolOp .And (a :: b :: rest) pos) (mAnd ma mb) := by
  obtain ⟨t, p, s⟩ := ha
  obtain ⟨u, q, r⟩ := hb
  refine ⟨_, pe_and p q, fun σ H ρ env sto Q hE hS hP => ?_⟩
  refine s σ H ρ env sto _ hE hS ((hP.bind hS).imp fun v s1 H1 ρ1 x1 S1 P1 y hy => ?_)
  split at P1
  · rename_i c
    cases hy
    refine ⟨c, rfl, ?_⟩
    cases c with
    | true => exact r σ H1 ρ1 env s1 Q (hE.mono x1.toExtW) S1 P1
    | false => exact P1 H1 ρ1 .refl S1 _ rfl
  · exact P1.elim
theorem e_or (ha : ME X W a ma) (hb : ME X W (.BoolOp .Or (b :: rest) pos) mb) : ME X W (.BoolOp .Or (a :: b :: rest) pos) (mOr ma mb) := by
  obtain ⟨t, p, s⟩ := ha
  obtain ⟨u, q, r⟩ := hb
  refine ⟨_, pe_or p q, fun σ H ρ env sto Q hE hS hP => ?_⟩
  refine s σ H ρ env sto _ hE hS ((hP.bind hS).imp fun v s1 H1 ρ1 x1 S1 P1 y hy => ?_)
  split at P1
  · rename_i c
    cases hy
    refine ⟨c, rfl, ?_⟩
    cases c with
    | false => exact r σ H1 ρ1 env s1 Q (hE.mono x1.toExtW) S1 P1
    | true => exact P1 H1 ρ1 .refl S1 _ rfl
  · exact P1.elim
theorem e_not (ha : ME X W a ma) : ME X W (.UnaryOp .Not a pos) (mNot ma) := by
  obtain ⟨t, p, s⟩ := ha
  refine ⟨_, pe_not p, fun σ H ρ env sto Q hE hS hP => ?_⟩
  refine s σ H ρ env sto _ hE hS ((hP.bind hS).imp fun v s1 H1 ρ1 x1 S1 P1 y hy => ?_)
  split at P1
  · cases hy
    exact ⟨_, rfl, P1 H1 ρ1 .refl S1 _ rfl⟩
  · exact P1.elim
theorem e_orV (ha : ME X W a ma) (hb : ME X W (.BoolOp .Or (b :: rest) pos) mb) : ME X W (.BoolOp .Or (a :: b :: rest) pos) (mOrV ma mb) := by
  obtain ⟨t, p, s⟩ := ha
  obtain ⟨u, q, r⟩ := hb
  refine ⟨_, pe_orT p q, fun σ H ρ env sto Q hE hS hP => ?_⟩
  refine s σ H ρ env sto _ hE hS ((hP.bind hS).imp fun v s1 H1 ρ1 x1 S1 P1 y hy => ?_)
  cases k : tru s1 v with
  | none => rw [k] at P1; exact P1.elim
  | some c =>
    rw [k] at P1
    refine ⟨c, tru_ok' S1 hy k, ?_⟩
    cases c with
    | false => exact r σ H1 ρ1 env s1 Q (hE.mono x1.toExtW) S1 P1
    | true => exact P1 H1 ρ1 .refl S1 _ hy

/-! ### calls of built-ins -/
abbrev GC := List PV → Sto → R PV
def mCall (g : GC) (ms : MA) : M := fun env s => (ms env s).bind g
def SRc (K : PySem.W.Frag) (r : List V → Hp → VK → Prop) (g : GC) : Prop := ∀ (WP : XK) (H : Hp) (ρ : Rh) (sto : Sto) (xs : List PV) (vs : List V) (Q : VK),
  RSt K H ρ sto → RVs K H ρ xs vs → Post K WP H ρ (GV K Q) (g xs sto) → r vs H Q
theorem se_call {r : List V → Hp → VK → Prop} {g : GC} {ms : MA} {t : TA} (s : SA X.K W t ms) (hg : SRc X.K r g) : SE X.K W (tCB r t) (mCall g ms) := by
  intro σ H ρ env sto Q hE hS hP
  exact s σ H ρ env sto _ hE hS ((hP.bind hS).imp fun v s1 H1 ρ1 x1 S1 P1 y hy => hg _ H1 ρ1 s1 v y Q S1 hy P1)
variable {x : Str} {id T : String} {p : Pos} {es : List Expr} {r : List V → Hp → VK → Prop} {g : GC} {ms : MA}
theorem e_callB (hc : CallR X (.builtin id) r) (hg : SRc X.K r g) (gl : Gl X x) (hm : X.mg x = none) (hv : bootBuiltins x = some (.builtin id)) (ha : MEs X W (e :: es) ms) (hn : x ≠ "__name__" := by decide) (hdb : (x == ("__debug__" : Str)) = false := by decide)
    (he : starEach (e :: es) X.env = (false, eval e X.env) :: starEach es X.env := by rfl) (hpl : (backTo pos (starEach es X.env)).any (·.1) = false := by rfl) : ME X W (.Call (.Name x p) (e :: es) [] pos) (mCall g ms) := by
  obtain ⟨t, q, s⟩ := ha
  exact ⟨_, pe_callB hc gl hm hv q hn hdb he hpl, se_call s hg⟩
theorem e_callTy (hc : CallR X (.type T) r) (hg : SRc X.K r g) (gl : Gl X x) (hm : X.mg x = none) (hv : bootBuiltins x = some (.type T)) (ha : MEs X W (e :: es) ms) (hn : x ≠ "__name__" := by decide) (hdb : (x == ("__debug__" : Str)) = false := by decide)
    (he : starEach (e :: es) X.env = (false, eval e X.env) :: starEach es X.env := by rfl) (hpl : (backTo pos (starEach es X.env)).any (·.1) = false := by rfl) : ME X W (.Call (.Name x p) (e :: es) [] pos) (mCall g ms) := by
  obtain ⟨t, q, s⟩ := ha
  exact ⟨_, pe_callTy hc gl hm hv q hn hdb he hpl, se_call s hg⟩
theorem e_callBf (hc : CallR X (.builtin id) r) (hg : SRc X.K r g) (gl : Gl X x) (hm : X.mg x = some (.builtin id)) (ha : MEs X W (e :: es) ms) (hdb : (x == ("__debug__" : Str)) = false := by decide)
    (he : starEach (e :: es) X.env = (false, eval e X.env) :: starEach es X.env := by rfl) (hpl : (backTo pos (starEach es X.env)).any (·.1) = false := by rfl) : ME X W (.Call (.Name x p) (e :: es) [] pos) (mCall g ms) := by
  obtain ⟨t, q, s⟩ := ha
  exact ⟨_, pe_callBfun hc gl hm q hdb he hpl, se_call s hg⟩
end
def gLen : GC := fun xs s => match xs with
  | [x] => match getQ s x with
    | some ys => .ok (.int ys.length) s
    | none => .bad
  | _ => .bad
def gAbs : GC := fun xs s => match xs with
  | [.int i] => .ok (.int (if i < 0 then -i else i)) s
  | _ => .bad
def gInt : GC := fun xs s => match xs with
  | [.int i] => .ok (.int i) s
  | [.bl b] => .ok (.int (if b then 1 else 0)) s
  | _ => .bad
def gList (fr : Bool) : GC := fun xs s => match xs with
  | [x] => match getQ s x with
    | some ys => fresh fr ys s
    | none => .bad
  | _ => .bad
def gTuple : GC := fun xs s => match xs with
  | [.tup ys] => .ok (.tup ys) s
  | [x] => match getF s x with
    | some ys => .ok (.tup ys) s
    | none => .bad
  | _ => .bad
def gGcd : GC := fun xs s => match xs with
  | [.int a, .int b] => .ok (.int ((Nat.gcd a.natAbs b.natAbs : Nat) : Int)) s
  | _ => .bad
def intsOf : List PV → Option (List Int)
  | [] => some []
  | .int i :: r => match intsOf r with
    | some is => some (i :: is)
    | none => none
  | _ => none
def boolsOf : List PV → Option (List Bool)
  | [] => some []
  | .bl i :: r => match boolsOf r with
    | some is => some (i :: is)
    | none => none
  | _ => none
section
variable {K : PySem.W.Frag} {H : Hp} {ρ : Rh} {sto : Sto}
theorem RVs.one {x : PV} {vs : List V} (r : RVs K H ρ [x] vs) : ∃ v, vs = [v] ∧ RV K H ρ x v := by
  obtain ⟨v, ws, rfl, h, t⟩ := r
  cases t
  exact ⟨v, rfl, h⟩
theorem RVs.two {x y : PV} {vs : List V} (r : RVs K H ρ [x, y] vs) : ∃ v u, vs = [v, u] ∧ RV K H ρ x v ∧ RV K H ρ y u := by
  obtain ⟨v, ws, rfl, h, t⟩ := r
  obtain ⟨u, rfl, h2⟩ := RVs.one t
  exact ⟨v, u, rfl, h, h2⟩
theorem intsOf_ok : ∀ (xs : List PV) {vs : List V} {is : List Int}, RVs K H ρ xs vs → intsOf xs = some is → vs = is.map V.int
  | [], _, _, r, h => by cases r; cases h; rfl
  | x :: xs, vs, is, r, h => by
    obtain ⟨v, ws, rfl, h2, h3⟩ := r
    cases x with
    | int i =>
      have h : (match intsOf xs with | some is => some (i :: is) | none => none) = some is := h
      cases e : intsOf xs with
      | none => rw [e] at h; cases h
      | some js => rw [e] at h; cases h; rw [intsOf_ok xs h3 e]; cases h2; rfl
    | _ => exact nomatch (show (none : Option (List Int)) = some is from h)
theorem boolsOf_ok : ∀ (xs : List PV) {vs : List V} {is : List Bool}, RVs K H ρ xs vs → boolsOf xs = some is → vs = is.map V.bl
  | [], _, _, r, h => by cases r; cases h; rfl
  | x :: xs, vs, is, r, h => by
    obtain ⟨v, ws, rfl, h2, h3⟩ := r
    cases x with
    | bl i =>
      have h : (match boolsOf xs with | some is => some (i :: is) | none => none) = some is := h
      cases e : boolsOf xs with
      | none => rw [e] at h; cases h
      | some js => rw [e] at h; cases h; rw [boolsOf_ok xs h3 e]; cases h2; rfl
    | _ => exact nomatch (show (none : Option (List Bool)) = some is from h)
theorem g_len : SRc K (fun xs H Q => ∃ p ys, xs = [.ref p] ∧ (SqL K H p ys ∨ SqT K H p ys) ∧ Q (.int ys.length) H) gLen := by
  intro WP H ρ sto xs vs Q S r P
  unfold gLen at P
  split at P
  · obtain ⟨v, rfl, rv⟩ := r.one
    split at P
    · rename_i ys e
      obtain ⟨a, zs, rfl, h1, h2⟩ := getQ_ok S rv e
      exact ⟨a, zs, rfl, h1, by rw [← h2.length]; exact now S P rfl⟩
    · exact P.elim
  · exact P.elim
theorem g_abs : SRc K (fun xs H Q => ∃ i, xs = [.int i] ∧ Q (.int (if i < 0 then -i else i)) H) gAbs := by
  intro WP H ρ sto xs vs Q S r P
  unfold gAbs at P
  split at P
  · obtain ⟨v, rfl, rv⟩ := r.one
    cases rv
    exact ⟨_, rfl, now S P rfl⟩
  · exact P.elim
theorem g_int : SRc K (fun xs H Q => (∃ i, xs = [.int i] ∧ Q (.int i) H) ∨ ∃ k, xs = [.bl k] ∧ Q (.int (if k then 1 else 0)) H) gInt := by
  intro WP H ρ sto xs vs Q S r P
  unfold gInt at P
  split at P
  · obtain ⟨v, rfl, rv⟩ := r.one
    cases rv
    exact .inl ⟨_, rfl, now S P rfl⟩
  · obtain ⟨v, rfl, rv⟩ := r.one
    cases rv
    exact .inr ⟨_, rfl, now S P rfl⟩
  · exact P.elim
theorem g_list {fr : Bool} : SRc K (fun xs H Q => ∃ p ys, xs = [.ref p] ∧ (SqL K H p ys ∨ SqT K H p ys) ∧ ∀ l, H l = none → Q (.ref l) (upd H l (.lst ys))) (gList fr) := by
  intro WP H ρ sto xs vs Q S r P
  unfold gList at P
  split at P
  · obtain ⟨v, rfl, rv⟩ := r.one
    split at P
    · rename_i ys e
      obtain ⟨a, zs, rfl, h1, h2⟩ := getQ_ok S rv e
      exact ⟨a, zs, rfl, h1, fun l hl => fresh_ok S h2 P hl⟩
    · exact P.elim
  · exact P.elim
theorem g_tuple : SRc K (fun xs H Q => ∃ p ys, xs = [.ref p] ∧ ((SqL K H p ys ∧ ∀ l, H l = none → Q (.ref l) (upd H l (.tup ys))) ∨ (SqT K H p ys ∧ Q (.ref p) H))) gTuple := by
  intro WP H ρ sto xs vs Q S r P
  unfold gTuple at P
  split at P
  · obtain ⟨v, rfl, rv⟩ := r.one
    obtain ⟨a, zs, rfl, h1, h2⟩ := getT_ok rv rfl
    exact ⟨a, zs, rfl, .inr ⟨h1, now S P rv⟩⟩
  · obtain ⟨v, rfl, rv⟩ := r.one
    split at P
    · rename_i ys e
      obtain ⟨a, zs, rfl, h1, h2⟩ := getF_ok S rv e
      exact ⟨a, zs, rfl, .inl ⟨h1, fun l hl => tup_ok S h2 P hl⟩⟩
    · exact P.elim
  · exact P.elim
theorem g_gcd : SRc K rGcd gGcd := by
  intro WP H ρ sto xs vs Q S r P
  unfold gGcd at P
  split at P
  · obtain ⟨v, u, rfl, h1, h2⟩ := r.two
    cases h1; cases h2
    exact ⟨_, _, rfl, now S P rfl⟩
  · exact P.elim
end
def gSum : GC := fun xs s => match xs with
  | [x] => match getF s x with
    | some ys => match intsOf ys with
      | some is => .ok (.int is.sum) s
      | none => .bad
    | none => .bad
  | _ => .bad
def gAll : GC := fun xs s => match xs with
  | [x] => match getF s x with
    | some ys => match boolsOf ys with
      | some is => .ok (.bl (is.all id)) s
      | none => .bad
    | none => .bad
  | _ => .bad
def gAny : GC := fun xs s => match xs with
  | [x] => match getF s x with
    | some ys => match boolsOf ys with
      | some is => .ok (.bl (is.any id)) s
      | none => .bad
    | none => .bad
  | _ => .bad
def imax : Int → List Int → Int
  | m, [] => m
  | m, x :: r => imax (if m < x then x else m) r
def imin : Int → List Int → Int
  | m, [] => m
  | m, x :: r => imin (if x < m then x else m) r
theorem imax_ok : ∀ (r : List Int) (m : Int), (imax m r = m ∨ imax m r ∈ r) ∧ m ≤ imax m r ∧ ∀ y ∈ r, y ≤ imax m r
  | [], m => ⟨.inl rfl, Int.le_refl m, fun _ h => by cases h⟩
  | x :: r, m => by
    obtain ⟨h1, h2, h3⟩ := imax_ok r (if m < x then x else m)
    unfold imax
    by_cases q : m < x
    · rw [if_pos q] at h1 h2 h3 ⊢
      refine ⟨.inr ?_, by omega, fun y hy => ?_⟩
      · rcases h1 with e | e
        · rw [e]; exact List.mem_cons_self
        · exact List.mem_cons_of_mem _ e
      · rcases List.mem_cons.mp hy with rfl | hy
        · exact h2
        · exact h3 y hy
    · rw [if_neg q] at h1 h2 h3 ⊢
      refine ⟨?_, h2, fun y hy => ?_⟩
      · rcases h1 with e | e
        · exact .inl e
        · exact .inr (List.mem_cons_of_mem _ e)
      · rcases List.mem_cons.mp hy with rfl | hy
        · omega
        · exact h3 y hy
theorem imin_ok : ∀ (r : List Int) (m : Int), (imin m r = m ∨ imin m r ∈ r) ∧ imin m r ≤ m ∧ ∀ y ∈ r, imin m r ≤ y
  | [], m => ⟨.inl rfl, Int.le_refl m, fun _ h => by cases h⟩
  | x :: r, m => by
    obtain ⟨h1, h2, h3⟩ := imin_ok r (if x < m then x else m)
    unfold imin
    by_cases q : x < m
    · rw [if_pos q] at h1 h2 h3 ⊢
      refine ⟨.inr ?_, by omega, fun y hy => ?_⟩
      · rcases h1 with e | e
        · rw [e]; exact List.mem_cons_self
        · exact List.mem_cons_of_mem _ e
      · rcases List.mem_cons.mp hy with rfl | hy
        · exact h2
        · exact h3 y hy
    · rw [if_neg q] at h1 h2 h3 ⊢
      refine ⟨?_, h2, fun y hy => ?_⟩
      · rcases h1 with e | e
        · exact .inl e
        · exact .inr (List.mem_cons_of_mem _ e)
      · rcases List.mem_cons.mp hy with rfl | hy
        · omega
        · exact h3 y hy
def gMax : GC := fun xs s => match xs with
  | [.int i, .int j] => .ok (.int (if j > i then j else i)) s
  | [x] => match getF s x with
    | some ys => match intsOf ys with
      | some (i :: is) => .ok (.int (imax i is)) s
      | _ => .bad
    | none => .bad
  | _ => .bad
def gMin : GC := fun xs s => match xs with
  | [.int i, .int j] => .ok (.int (if j < i then j else i)) s
  | [x] => match getF s x with
    | some ys => match intsOf ys with
      | some (i :: is) => .ok (.int (imin i is)) s
      | _ => .bad
    | none => .bad
  | _ => .bad
theorem CallR.or {X : Cx} {f : Value} {r r' : List V → Hp → VK → Prop} (h : CallR X f r) (h' : CallR X f r') : CallR X f (fun vs H Q => r vs H Q ∨ r' vs H Q) := by
  intro pins s σ H xs us Q I rv q
  rcases q with q | q
  · exact h pins s σ H xs us Q I rv q
  · exact h' pins s σ H xs us Q I rv q
section
variable {K : PySem.W.Frag}
theorem g_sum : SRc K (rSum K) gSum := by
  intro WP H ρ sto xs vs Q S r P
  unfold gSum at P
  split at P
  · obtain ⟨v, rfl, rv⟩ := r.one
    split at P
    · rename_i ys e
      obtain ⟨a, zs, rfl, h1, h2⟩ := getF_ok S rv e
      split at P
      · rename_i is e2
        exact ⟨a, is, rfl, by rw [← intsOf_ok _ h2 e2]; exact h1, now S P rfl⟩
      · exact P.elim
    · exact P.elim
  · exact P.elim
theorem g_all : SRc K (rAll K) gAll := by
  intro WP H ρ sto xs vs Q S r P
  unfold gAll at P
  split at P
  · obtain ⟨v, rfl, rv⟩ := r.one
    split at P
    · rename_i ys e
      obtain ⟨a, zs, rfl, h1, h2⟩ := getF_ok S rv e
      split at P
      · rename_i is e2
        exact ⟨a, is, rfl, by rw [← boolsOf_ok _ h2 e2]; exact h1, now S P rfl⟩
      · exact P.elim
    · exact P.elim
  · exact P.elim
theorem g_any : SRc K (rAny K) gAny := by
  intro WP H ρ sto xs vs Q S r P
  unfold gAny at P
  split at P
  · obtain ⟨v, rfl, rv⟩ := r.one
    split at P
    · rename_i ys e
      obtain ⟨a, zs, rfl, h1, h2⟩ := getF_ok S rv e
      split at P
      · rename_i is e2
        exact ⟨a, is, rfl, by rw [← boolsOf_ok _ h2 e2]; exact h1, now S P rfl⟩
      · exact P.elim
    · exact P.elim
  · exact P.elim
theorem g_max : SRc K (fun xs H Q => (∃ i j, xs = [.int i, .int j] ∧ Q (.int (if j > i then j else i)) H) ∨ rMax K xs H Q) gMax := by
  intro WP H ρ sto xs vs Q S r P
  unfold gMax at P
  split at P
  · obtain ⟨v, u, rfl, h1, h2⟩ := r.two
    cases h1; cases h2
    exact .inl ⟨_, _, rfl, now S P rfl⟩
  · obtain ⟨v, rfl, rv⟩ := r.one
    split at P
    · rename_i ys e
      obtain ⟨a, zs, rfl, h1, h2⟩ := getF_ok S rv e
      split at P
      · rename_i i is e2
        refine .inr ⟨a, i :: is, rfl, by rw [← intsOf_ok _ h2 e2]; exact h1, by simp, fun m hm hy => ?_⟩
        obtain ⟨k1, k2, k3⟩ := imax_ok is i
        have : m = imax i is := by
          have a1 : imax i is ≤ m := by
            rcases k1 with k | k
            · rw [k]; exact hy i List.mem_cons_self
            · exact hy _ (List.mem_cons_of_mem _ k)
          have a2 : m ≤ imax i is := by
            rcases List.mem_cons.mp hm with rfl | hm
            · exact k2
            · exact k3 m hm
          omega
        rw [this]
        exact now S P rfl
      · exact P.elim
    · exact P.elim
  · exact P.elim
theorem g_min : SRc K (fun xs H Q => (∃ i j, xs = [.int i, .int j] ∧ Q (.int (if j < i then j else i)) H) ∨ rMin K xs H Q) gMin := by
  intro WP H ρ sto xs vs Q S r P
  unfold gMin at P
  split at P
  · obtain ⟨v, u, rfl, h1, h2⟩ := r.two
    cases h1; cases h2
    exact .inl ⟨_, _, rfl, now S P rfl⟩
  · obtain ⟨v, rfl, rv⟩ := r.one
    split at P
    · rename_i ys e
      obtain ⟨a, zs, rfl, h1, h2⟩ := getF_ok S rv e
      split at P
      · rename_i i is e2
        refine .inr ⟨a, i :: is, rfl, by rw [← intsOf_ok _ h2 e2]; exact h1, by simp, fun m hm hy => ?_⟩
        obtain ⟨k1, k2, k3⟩ := imin_ok is i
        have : m = imin i is := by
          have a1 : m ≤ imin i is := by
            rcases k1 with k | k
            · rw [k]; exact hy i List.mem_cons_self
            · exact hy _ (List.mem_cons_of_mem _ k)
          have a2 : imin i is ≤ m := by
            rcases List.mem_cons.mp hm with rfl | hm
            · exact k2
            · exact k3 m hm
          omega
        rw [this]
        exact now S P rfl
      · exact P.elim
    · exact P.elim
  · exact P.elim
end
section
variable {X : Cx} {W : WK} {a b c e : Expr} {pos : Pos} {p : Pos} {es : List Expr} {ms : MA}
theorem e_len (gl : Gl X "len") (hm : X.mg "len" = none) (ha : MEs X W (e :: es) ms) (he : starEach (e :: es) X.env = (false, eval e X.env) :: starEach es X.env := by rfl) (hpl : (backTo pos (starEach es X.env)).any (·.1) = false := by rfl) :
    ME X W (.Call (.Name "len" p) (e :: es) [] pos) (mCall gLen ms) := e_callB call_len_seq g_len gl hm PySem.boot_len ha (by decide) (by decide) he hpl
theorem e_abs (gl : Gl X "abs") (hm : X.mg "abs" = none) (ha : MEs X W (e :: es) ms) (he : starEach (e :: es) X.env = (false, eval e X.env) :: starEach es X.env := by rfl) (hpl : (backTo pos (starEach es X.env)).any (·.1) = false := by rfl) :
    ME X W (.Call (.Name "abs" p) (e :: es) [] pos) (mCall gAbs ms) := e_callB call_abs g_abs gl hm (by decide +kernel) ha (by decide) (by decide) he hpl
theorem e_sum (hc : X.calm = true) (gl : Gl X "sum") (hm : X.mg "sum" = none) (ha : MEs X W (e :: es) ms) (he : starEach (e :: es) X.env = (false, eval e X.env) :: starEach es X.env := by rfl) (hpl : (backTo pos (starEach es X.env)).any (·.1) = false := by rfl) :
    ME X W (.Call (.Name "sum" p) (e :: es) [] pos) (mCall gSum ms) := e_callB (cr_sum hc) g_sum gl hm (by decide +kernel) ha (by decide) (by decide) he hpl
theorem e_all (hc : X.calm = true) (gl : Gl X "all") (hm : X.mg "all" = none) (ha : MEs X W (e :: es) ms) (he : starEach (e :: es) X.env = (false, eval e X.env) :: starEach es X.env := by rfl) (hpl : (backTo pos (starEach es X.env)).any (·.1) = false := by rfl) :
    ME X W (.Call (.Name "all" p) (e :: es) [] pos) (mCall gAll ms) := e_callB (cr_all hc) g_all gl hm (by decide +kernel) ha (by decide) (by decide) he hpl
theorem e_any (hc : X.calm = true) (gl : Gl X "any") (hm : X.mg "any" = none) (ha : MEs X W (e :: es) ms) (he : starEach (e :: es) X.env = (false, eval e X.env) :: starEach es X.env := by rfl) (hpl : (backTo pos (starEach es X.env)).any (·.1) = false := by rfl) :
    ME X W (.Call (.Name "any" p) (e :: es) [] pos) (mCall gAny ms) := e_callB (cr_any hc) g_any gl hm (by decide +kernel) ha (by decide) (by decide) he hpl
theorem e_max (hc : X.calm = true) (gl : Gl X "max") (hm : X.mg "max" = none) (ha : MEs X W (e :: es) ms) (he : starEach (e :: es) X.env = (false, eval e X.env) :: starEach es X.env := by rfl) (hpl : (backTo pos (starEach es X.env)).any (·.1) = false := by rfl) :
    ME X W (.Call (.Name "max" p) (e :: es) [] pos) (mCall gMax ms) := e_callB (.or (call_max2 hc) (cr_max hc)) g_max gl hm (by decide +kernel) ha (by decide) (by decide) he hpl
theorem e_min (hc : X.calm = true) (gl : Gl X "min") (hm : X.mg "min" = none) (ha : MEs X W (e :: es) ms) (he : starEach (e :: es) X.env = (false, eval e X.env) :: starEach es X.env := by rfl) (hpl : (backTo pos (starEach es X.env)).any (·.1) = false := by rfl) :
    ME X W (.Call (.Name "min" p) (e :: es) [] pos) (mCall gMin ms) := e_callB (.or (call_min2 hc) (cr_min hc)) g_min gl hm (by decide +kernel) ha (by decide) (by decide) he hpl
theorem e_intc (gl : Gl X "int") (hm : X.mg "int" = none) (ha : MEs X W (e :: es) ms) (he : starEach (e :: es) X.env = (false, eval e X.env) :: starEach es X.env := by rfl) (hpl : (backTo pos (starEach es X.env)).any (·.1) = false := by rfl) :
    ME X W (.Call (.Name "int" p) (e :: es) [] pos) (mCall gInt ms) := e_callTy call_int1 g_int gl hm (by decide +kernel) ha (by decide) (by decide) he hpl
theorem e_list {fr : Bool} (gl : Gl X "list") (hm : X.mg "list" = none) (ha : MEs X W (e :: es) ms) (he : starEach (e :: es) X.env = (false, eval e X.env) :: starEach es X.env := by rfl) (hpl : (backTo pos (starEach es X.env)).any (·.1) = false := by rfl) :
    ME X W (.Call (.Name "list" p) (e :: es) [] pos) (mCall (gList fr) ms) := e_callTy call_list_of g_list gl hm (by decide +kernel) ha (by decide) (by decide) he hpl
theorem e_tuple (gl : Gl X "tuple") (hm : X.mg "tuple" = none) (ha : MEs X W (e :: es) ms) (he : starEach (e :: es) X.env = (false, eval e X.env) :: starEach es X.env := by rfl) (hpl : (backTo pos (starEach es X.env)).any (·.1) = false := by rfl) :
    ME X W (.Call (.Name "tuple" p) (e :: es) [] pos) (mCall gTuple ms) := e_callTy call_tuple_of g_tuple gl hm (by decide +kernel) ha (by decide) (by decide) he hpl
theorem e_gcd (gl : Gl X "gcd") (hm : X.mg "gcd" = some (.builtin "math.gcd")) (ha : MEs X W (e :: es) ms) (he : starEach (e :: es) X.env = (false, eval e X.env) :: starEach es X.env := by rfl) (hpl : (backTo pos (starEach es X.env)).any (·.1) = false := by rfl) :
    ME X W (.Call (.Name "gcd" p) (e :: es) [] pos) (mCall gGcd ms) := e_callBf cr_gcd g_gcd gl hm ha (by decide) he hpl
end
end Mi

namespace Mi
open PySem PySem.Spec PyProof.Rows L2

/-! ### isinstance of built-in types -/
inductive Ty where
  | non | bool | int | str | tuple | list
  deriving DecidableEq
def Ty.nm : Ty → String
  | .non => "NoneType" | .bool => "bool" | .int => "int" | .str => "str" | .tuple => "tuple" | .list => "list"
def tyOf : PV → Option Ty
  | .non => some .non | .bl _ => some .bool | .int _ => some .int | .str _ => some .str | .tup _ => some .tuple
  | .lst _ => some .list | .fro _ => some .list | .box _ => some .list
  | _ => none
def subT : Ty → Ty → Bool
  | .non, .non => true | .bool, .bool => true | .bool, .int => true | .int, .int => true | .str, .str => true | .tuple, .tuple => true | .list, .list => true
  | _, _ => false
theorem subT_ok {K : PySem.W.Frag} (a c : Ty) (hc : c ≠ .non) : PySem.W.kitOne K (.type a.nm) (.type c.nm) = some (subT a c) := by
  cases a <;> cases c <;> first | exact absurd rfl hc | exact kit_ty (by decide +kernel)
def anyT (a : Ty) : List Ty → Bool
  | [] => false
  | c :: cs => bif subT a c then true else anyT a cs
theorem anyT_ok {K : PySem.W.Frag} (a : Ty) : ∀ (cs : List Ty), (∀ c ∈ cs, c ≠ .non) → PySem.W.kitAny K (.type a.nm) (cs.map fun c => Value.type c.nm) = some (anyT a cs)
  | [], _ => rfl
  | c :: cs, h => by
    refine kitAny_cons (subT_ok a c (h c List.mem_cons_self)) (fun e => ?_) fun e => ?_
    · unfold anyT; rw [e]; exact anyT_ok a cs fun d hd => h d (List.mem_cons_of_mem _ hd)
    · unfold anyT; rw [e]; rfl
theorem tyOf_ok {K : PySem.W.Frag} {H : Hp} {ρ : Rh} {sto : Sto} (S : RSt K H ρ sto) : ∀ {x : PV} {v : V} {t : Ty}, RV K H ρ x v → tyOf x = some t → TyX K H v (.type t.nm)
  | .non, _, _, r, h => by cases r; cases h; exact .base .non
  | .bl b, _, _, r, h => by cases r; cases h; exact .base (.bl b)
  | .int b, _, _, r, h => by cases r; cases h; exact .base (.int b)
  | .str b, _, _, r, h => by cases r; cases h; exact .base (.str b)
  | .tup xs, _, _, r, h => by
    obtain ⟨a, ys, rfl, h2, h3⟩ := r
    cases h
    rcases h2 with ⟨h2, _⟩ | h2
    · exact .base (.tup h2)
    · rcases h2 with h2 | ⟨o, its, n, hk, hc, _⟩
      · rcases h2 with h2 | ⟨_, h2⟩ <;> cases h2
      · exact .kTuple hk hc
  | .lst xs, _, _, r, h => by
    obtain ⟨a, ys, rfl, h2, h3⟩ := r
    cases h
    exact .base (.lst h2.1)
  | .fro xs, _, _, r, h => by
    obtain ⟨a, ys, rfl, h2, h3⟩ := r
    cases h
    rcases h2 with ⟨h2, _⟩ | h2
    · rcases h2 with h2 | ⟨o, h2⟩
      · exact .base (.lst h2)
      · exact .base (.frz h2)
    · rcases h2 with h2 | ⟨o, its, n, hk, hc, _⟩
      · rcases h2 with h2 | ⟨_, h2⟩ <;> cases h2
      · exact .kList hk hc
  | .box n, _, _, r, h => by
    obtain ⟨a, rfl, h2⟩ := r
    cases h
    have hl : n < sto.length := S.len ▸ (List.getElem?_eq_some_iff.mp h2).1
    obtain ⟨ys, h3, _⟩ := S.at_ n a sto[n] h2 (List.getElem?_eq_getElem hl)
    exact .base (.lst h3)
  | .ty _, _, _, _, h => by cases h
  | .obj _, _, _, _, h => by cases h
  | .exc _ _ _, _, _, _, h => by cases h
def mIsi (cs : List Ty) (m : M) : M := fun env s => (m env s).bind fun v s1 => match tyOf v with
  | some t => .ok (.bl (anyT t cs)) s1
  | none => .bad
section
variable {X : Cx} {W : WK} {a b c e : Expr} {m ma mb : M} {pos p p2 p3 : Pos}
theorem nonT (T : Ty) (h : T ≠ .non) : ∀ c ∈ [T], c ≠ Ty.non := fun c hc => by rw [List.mem_singleton.mp hc]; exact h
/-- isinstance(e, T) -/
theorem e_isi {y : Str} (T : Ty) (hT : T ≠ .non) (gl : Gl X "isinstance") (hm : X.mg "isinstance" = none) (gy : Gl X y) (my : X.mg y = none) (by_ : bootBuiltins y = some (.type T.nm)) (ha : ME X W e m)
    (hn : y ≠ "__name__" := by decide) (hd : (y == ("__debug__" : Str)) = false := by decide)
    (he : starEach [e, .Name y p2] X.env = (false, eval e X.env) :: starEach [.Name y p2] X.env := by rfl) (he2 : starEach [.Name y p2] X.env = (false, eval (.Name y p2) X.env) :: starEach [] X.env := by rfl) (hpl : (backTo pos (starEach [.Name y p2] X.env)).any (·.1) = false := by rfl) :
    ME X W (.Call (.Name "isinstance" p) [e, .Name y p2] [] pos) (mIsi [T] m) := by
  obtain ⟨t, q, s⟩ := ha
  refine ⟨_, pe_callB call_isi gl hm (by decide +kernel) (pa_cons q (pa_cons (pe_bltn (v := .ty T.nm) gy my by_ rfl hn hd) pa_nil he2) he) (by decide) (by decide) he hpl, fun σ H ρ env sto Q hE hS hP => ?_⟩
  refine s σ H ρ env sto _ hE hS ((hP.bind hS).imp fun v s1 H1 ρ1 x1 S1 P1 y hy => ?_)
  cases k : tyOf v with
  | none => rw [k] at P1; exact P1.elim
  | some t =>
    rw [k] at P1
    refine ⟨y, .ty T.nm, _, _, anyT t [T], rfl, .ty _, tyOf_ok S1 hy k, ?_, P1 H1 ρ1 .refl S1 _ rfl⟩
    rw [subT_ok t T hT]
    unfold anyT anyT
    cases subT t T <;> rfl
/-- isinstance(e, (T, U)) -/
theorem e_isi2 {y z : Str} {x1 : Nat} {p4 : Pos} (T U : Ty) (hT : T ≠ .non) (hU : U ≠ .non) (gl : Gl X "isinstance") (hm : X.mg "isinstance" = none) (gy : Gl X y) (my : X.mg y = none) (by_ : bootBuiltins y = some (.type T.nm))
    (gz : Gl X z) (mz : X.mg z = none) (bz : bootBuiltins z = some (.type U.nm)) (ha : ME X W e m)
    (hn : y ≠ "__name__" := by decide) (hd : (y == ("__debug__" : Str)) = false := by decide) (hn2 : z ≠ "__name__" := by decide) (hd2 : (z == ("__debug__" : Str)) = false := by decide)
    (he : starEach [e, .Tuple [.Name y p2, .Name z p3] x1 p4] X.env = (false, eval e X.env) :: starEach [.Tuple [.Name y p2, .Name z p3] x1 p4] X.env := by rfl)
    (he2 : starEach [.Tuple [.Name y p2, .Name z p3] x1 p4] X.env = (false, eval (.Tuple [.Name y p2, .Name z p3] x1 p4) X.env) :: starEach [] X.env := by rfl) (hpl : (backTo pos (starEach [.Tuple [.Name y p2, .Name z p3] x1 p4] X.env)).any (·.1) = false := by rfl)
    (h1 : starEach [.Name y p2, .Name z p3] X.env = (false, eval (.Name y p2) X.env) :: starEach [.Name z p3] X.env := by rfl) (h2 : starEach [.Name z p3] X.env = (false, eval (.Name z p3) X.env) :: starEach [] X.env := by rfl) :
    ME X W (.Call (.Name "isinstance" p) [e, .Tuple [.Name y p2, .Name z p3] x1 p4] [] pos) (mIsi [T, U] m) := by
  obtain ⟨t, q, s⟩ := ha
  refine ⟨_, pe_callB call_isiT gl hm (by decide +kernel) (pa_cons q (pa_cons (pe_tup (pa_cons (pe_bltn (v := .ty T.nm) gy my by_ rfl hn hd) (pa_cons (pe_bltn (v := .ty U.nm) gz mz bz rfl hn2 hd2) pa_nil h2) h1)) pa_nil he2) he) (by decide) (by decide) he hpl, fun σ H ρ env sto Q hE hS hP => ?_⟩
  refine s σ H ρ env sto _ hE hS ((hP.bind hS).imp fun v s1 H1 ρ1 x1 S1 P1 y hy => ?_)
  refine ⟨by show 2 ≤ sizeLine; decide, fun tp htp => ?_⟩
  cases k : tyOf v with
  | none => rw [k] at P1; exact P1.elim
  | some t =>
    rw [k] at P1
    have hx := S1.ext (o := .tup [.ty T.nm, .ty U.nm]) htp
    refine ⟨y, tp, _, _, [.type T.nm, .type U.nm], anyT t [T, U], rfl, upd_same, .cons (.ty _) (.cons (.ty _) .nil), tyOf_ok (S1.new htp) (hy.mono hx.toExtW) k, anyT_ok t [T, U] fun c hc => ?_, P1 _ ρ1 hx (S1.new htp) _ rfl⟩
    rcases List.mem_cons.mp hc with rfl | hc
    · exact hT
    · rw [List.mem_singleton.mp hc]; exact hU
end

/-! ### subscripts -/
def gIx : G2 := fun x y s => match y with
  | .int i => match getQ s x with
    | some xs => match atI xs i with
      | some v => .ok v s
      | none => .bad
    | none => .bad
  | _ => .bad
theorem IxR.or {X : Cx} {r r' : R2} (h : IxR X r) (h' : IxR X r') : IxR X (fun x y H Q => r x y H Q ∨ r' x y H Q) := by
  intro value slice pins s σ H x y v u Q I rx ry q e
  rcases q with q | q
  · exact h value slice pins s σ H x y v u Q I rx ry q e
  · exact h' value slice pins s σ H x y v u Q I rx ry q e
section
variable {K : PySem.W.Frag} {H : Hp} {ρ : Rh} {sto : Sto}
theorem atI_ok {xs : List PV} {ys : List V} {i : Int} {x : PV} (r : RVs K H ρ xs ys) (h : atI xs i = some x) : ∃ y, atI ys i = some y ∧ RV K H ρ x y := by
  unfold atI at h ⊢
  rw [← r.length]
  cases e : ixN xs.length i with
  | none => rw [e] at h; cases h
  | some j =>
    rw [e] at h
    exact r.get h
theorem g_ix : SR2 K (fun x y H Q => rIxL K x y H Q ∨ rIxT K x y H Q) gIx := by
  intro WP H ρ sto x y v u Q S rx ry P
  unfold gIx at P
  split at P
  · rename_i i
    cases ry
    split at P
    · rename_i xs e
      split at P
      · rename_i z e2
        obtain ⟨a, ys, rfl, h1, h2⟩ := getQ_ok S rx e
        obtain ⟨w, h3, h4⟩ := atI_ok h2 e2
        rcases h1 with h1 | h1
        · exact .inl ⟨a, ys, i, w, rfl, rfl, h1, h3, now S P h4⟩
        · exact .inr ⟨a, ys, i, w, rfl, rfl, h1, h3, now S P h4⟩
      · exact P.elim
    · exact P.elim
  · exact P.elim
end
def cutP (xs : List PV) (lo hi : Option Int) : List PV := (xs.drop (HT.sIx xs.length 0 lo)).take (HT.sIx xs.length xs.length hi - HT.sIx xs.length 0 lo)
abbrev MP := Env → Sto → R (Option Int)
def mPN : MP := fun _ s => .ok none s
def mPS (m : M) : MP := fun env s => (m env s).bind fun v s1 => match v with
  | .int i => .ok (some i) s1
  | _ => .bad
def mSl (fr : Bool) (m : M) (lo hi : MP) : M := fun env s => (m env s).bind fun x s1 => (lo env s1).bind fun l s2 => (hi env s2).bind fun u s3 => match x with
  | .tup xs => .ok (.tup (cutP xs l u)) s3
  | x => match getF s3 x with
    | some xs => fresh fr (cutP xs l u) s3
    | none => .bad
def SP' (K : PySem.W.Frag) (W : WK) (t : TO) (m : MP) : Prop := ∀ (σ : L2.St) (H : Hp) (ρ : Rh) (env : Env) (sto : Sto) (Q : Option Int → Hp → Prop),
  REnv K H ρ env σ → RSt K H ρ sto → Post K (fun c d h => W c d σ h) H ρ (fun v _ H' _ => Q v H') (m env sto) → t σ H Q
def MPo (X : Cx) (W : WK) (e : Option Expr) (m : MP) : Prop := ∃ t, PO X e t ∧ SP' X.K W t m
section
variable {K : PySem.W.Frag} {H : Hp} {ρ : Rh} {sto : Sto}
theorem cut_ok {xs : List PV} {ys : List V} (r : RVs K H ρ xs ys) (lo hi : Option Int) : RVs K H ρ (cutP xs lo hi) (cutV ys lo hi) := by
  unfold cutP cutV
  rw [← r.length]
  exact (r.drop _).take _
end
section
variable {X : Cx} {W : WK} {a b c e : Expr} {m ma mb : M} {pos p p2 p3 : Pos}
theorem e_ix (ha : ME X W a ma) (hb : ME X W b mb) (hs : PlainIx b := by exact fun _ _ => rfl) : ME X W (.Subscript a b pos) (mBin gIx ma mb) := by
  obtain ⟨ta, pa, sa⟩ := ha
  obtain ⟨tb, pb, sb⟩ := hb
  exact ⟨_, pe_ix (.or ix_list ix_tup) pa pb hs, se_bin sa sb g_ix⟩
theorem p_none : MPo X W none mPN := ⟨_, po_none, fun _ H ρ _ _ _ _ hS hP => hP H ρ .refl hS⟩
theorem p_some (h : ME X W e m) : MPo X W (some e) (mPS m) := by
  obtain ⟨t, q, s⟩ := h
  refine ⟨_, po_some q, fun σ H ρ env sto Q hE hS hP => ?_⟩
  refine s σ H ρ env sto _ hE hS ((hP.bind hS).imp fun v s1 H1 ρ1 x1 S1 P1 y hy => ?_)
  split at P1
  · cases hy
    exact ⟨_, rfl, P1 H1 ρ1 .refl S1⟩
  · exact P1.elim
theorem e_sl {fr : Bool} {lo hi : Option Expr} {ml mh : MP} (h : ME X W e m) (hl : MPo X W lo ml) (hh : MPo X W hi mh) : ME X W (.Subscript e (.Slice lo hi none p2) pos) (mSl fr m ml mh) := by
  obtain ⟨t, q, s⟩ := h
  obtain ⟨tl, ql, sl⟩ := hl
  obtain ⟨th, qh, sh⟩ := hh
  refine ⟨_, pe_slice (SlR.or sl_list sl_tupA) q ql qh, fun σ H ρ env sto Q hE hS hP => ?_⟩
  refine s σ H ρ env sto _ hE hS ((hP.bind hS).imp fun v s1 H1 ρ1 x1 S1 P1 y hy => ?_)
  refine sl σ H1 ρ1 env s1 _ (hE.mono x1.toExtW) S1 ((P1.bind S1).imp fun l s2 H2 ρ2 x2 S2 P2 => ?_)
  refine sh σ H2 ρ2 env s2 _ ((hE.mono x1.toExtW).mono x2.toExtW) S2 ((P2.bind S2).imp fun u s3 H3 ρ3 x3 S3 P3 => ?_)
  have hy3 := (hy.mono x2.toExtW).mono x3.toExtW
  split at P3
  · rename_i xs
    obtain ⟨a, ys, rfl, h1, h2⟩ := getT_ok hy3 rfl
    refine .inr ⟨a, ys, rfl, h1, fun hw => ?_, fun _ p hp => tup_ok S3 (cut_ok h2 l u) P3 hp⟩
    have e : cutP xs l u = xs := by
      unfold cutP
      rw [h2.length, hw.1, hw.2]
      rw [← h2.length]
      simp
    rw [e] at P3
    exact now S3 P3 hy3
  · split at P3
    · rename_i xs e1
      obtain ⟨a, ys, rfl, h1, h2⟩ := getF_ok S3 hy3 e1
      exact .inl ⟨a, ys, rfl, h1, fun p hp => fresh_ok S3 (cut_ok h2 l u) P3 hp⟩
    · exact P3.elim
end

/-! ### a list that changes -/
section
variable {K : PySem.W.Frag} {H : Hp} {ρ : Rh} {sto : Sto} {n : Nat} {a : Addr} {xs : List PV} {ys : List V}
theorem RSt.put (S : RSt K H ρ sto) (ha : ρ.bx[n]? = some a) (hn : n < sto.length) (r : RVs K H ρ xs ys) : Ext ρ H ρ (upd H a (.lst ys)) ∧ RSt K (upd H a (.lst ys)) ρ (sto.set n xs) := by
  have hx : Ext ρ H ρ (upd H a (.lst ys)) := by
    refine ⟨⟨⟨[], by simp, by simp⟩, rs_refl, fun b u h nb _ => ?_, fun b h => has_upd b h⟩, rfl, fun b hb nb => upd_ne fun q => ?_⟩
    · rw [upd_ne fun q => nb (by rw [q]; exact List.mem_of_getElem? ha)]; exact h
    · exact nb (by rw [q]; exact List.mem_of_getElem? ha)
  refine ⟨hx, ⟨S.nd, by rw [List.length_set]; exact S.len, fun k b zs e1 e2 => ?_, fun b hb => ⟨hx.has b (S.rsv b hb).1, (S.rsv b hb).2⟩⟩⟩
  by_cases hk : n = k
  · subst hk
    rw [ha] at e1; cases e1
    rw [List.getElem?_set_self hn] at e2
    cases e2
    exact ⟨ys, upd_same, r.mono hx.toExtW⟩
  · rw [List.getElem?_set_ne hk] at e2
    obtain ⟨us, h1, h2⟩ := S.at_ k b zs e1 e2
    have : b ≠ a := fun q => by
      subst q
      have h3 := (List.getElem?_eq_some_iff.mp ha)
      have h4 := (List.getElem?_eq_some_iff.mp e1)
      exact hk ((List.getElem_inj S.nd).mp (h3.2.trans h4.2.symm))
    exact ⟨us, by rw [upd_ne this]; exact h1, h2.mono hx.toExtW⟩
theorem RSt.lt (S : RSt K H ρ sto) (ha : ρ.bx[n]? = some a) : n < sto.length := S.len ▸ (List.getElem?_eq_some_iff.mp ha).1
end
def mApp (mo m : M) : M := fun env s => (mo env s).bind fun o s1 => match o with
  | .box n => (m env s1).bind fun v s2 => match s2[n]? with
    | some xs => bif Nat.blt xs.length sizeLine then .ok .non (s2.set n (xs ++ [v])) else .bad
    | none => .bad
  | _ => .bad
section
variable {X : Cx} {W : WK} {o e : Expr} {m mo : M} {pos p p2 p3 : Pos}
theorem e_app (ho : ME X W o mo) (he : ME X W e m) (hbase : attributeBase o "append" X.env (eval o X.env) = eval o X.env := by rfl)
    (hfew : ((backTo pos (starEach [e] X.env)).all (fun x => !x.1) && (backToKw pos (keywordEach [] X.env)).all (fun x => x.1.isSome)
      && decide (([e] : List Expr).length + ([] : List Keyword).length + (if ([] : List Keyword).isEmpty then 0 else 1) < 30)) = true := by rfl)
    (hline : (p.endLine == pos.line) = true := by rfl) (hs : starEach [e] X.env = (false, eval e X.env) :: starEach [] X.env := by rfl) (hplain : (backTo pos (starEach [] X.env)).any (·.1) = false := by rfl) :
    ME X W (.Call (.Attribute o "append" p) [e] [] pos) (mApp mo m) := by
  obtain ⟨t, q, s⟩ := ho
  obtain ⟨u, r, z⟩ := he
  refine ⟨_, pe_bm PySem.F.plainAttrs_list PySem.F.slot_list_append PySem.F.type_list_append mt_append q (pa_cons r pa_nil hs) hbase hfew hline hs hplain, fun σ H ρ env sto Q hE hS hP => ?_⟩
  refine s σ H ρ env sto _ hE hS ((hP.bind hS).imp fun v s1 H1 ρ1 x1 S1 P1 y hy => ?_)
  split at P1
  · rename_i n
    obtain ⟨a, rfl, ha⟩ := hy
    obtain ⟨ys0, h30, _⟩ := S1.at_ n a _ ha (List.getElem?_eq_getElem (S1.lt ha))
    refine ⟨.inl ⟨rfl, ys0, .of h30⟩, z σ H1 ρ1 env s1 _ (hE.mono x1.toExtW) S1 ((P1.bind S1).imp fun w s2 H2 ρ2 x2 S2 P2 y2 hy2 => ?_)⟩
    split at P2
    · rename_i xs e1
      obtain ⟨hz, P2⟩ := and_of (C := Post X.K _ H2 ρ2 (GV X.K Q)) P2 (fun z => z)
      have ha2 : ρ2.bx[n]? = some a := by
        obtain ⟨r, hr, _⟩ := x2.pre
        rw [hr, List.getElem?_append_left (List.getElem?_eq_some_iff.mp ha).1]
        exact ha
      obtain ⟨ys, h3, h4⟩ := S2.at_ n a xs ha2 e1
      obtain ⟨x3, S3⟩ := S2.put ha2 (S2.lt ha2) (h4.append (.cons hy2 .nil))
      exact ⟨a, ys, y2, rfl, rfl, h3, by rw [← h4.length]; exact Nat.le_of_ble_eq_true hz, P2 _ ρ2 x3 S3 _ rfl⟩
    · exact P2.elim
  · exact P1.elim
end
end Mi

namespace Mi
open PySem PySem.Spec PyProof.Rows L2 RZ

/-! ### the readings in one form: what a meaning wants -/
def cE (K : PySem.W.Frag) (W : WK) (m : M) : TE := fun σ H Q => ∃ ρ env sto, REnv K H ρ env σ ∧ RSt K H ρ sto ∧ Post K (fun c d h => W c d σ h) H ρ (GV K Q) (m env sto)
def cT (K : PySem.W.Frag) (W : WK) (m : MT) : TT := fun σ H Q => ∃ ρ env sto, REnv K H ρ env σ ∧ RSt K H ρ sto ∧ Post K (fun c d h => W c d σ h) H ρ (GT Q) (m env sto)
section
variable {X : Cx} {W : WK} {e : Expr}
theorem ME.can {m : M} (h : ME X W e m) : PE X e (cE X.K W m) := by
  obtain ⟨t, p, s⟩ := h
  exact ⟨fun pins st σ H Q I ⟨ρ, env, sto, h1, h2, h3⟩ => p.run pins st σ H Q I (s σ H ρ env sto Q h1 h2 h3)⟩
theorem MTe.can {m : MT} (h : MTe X W e m) : PT X e (cT X.K W m) := by
  obtain ⟨t, p, s⟩ := h
  exact ⟨fun pins st σ H Q I ⟨ρ, env, sto, h1, h2, h3⟩ => p.run pins st σ H Q I (s σ H ρ env sto Q h1 h2 h3)⟩
theorem se_can {K : PySem.W.Frag} {m : M} : SE K W (cE K W m) m := fun σ H ρ env sto Q h1 h2 h3 => ⟨ρ, env, sto, h1, h2, h3⟩
theorem st_can {K : PySem.W.Frag} {m : MT} : ST K W (cT K W m) m := fun σ H ρ env sto Q h1 h2 h3 => ⟨ρ, env, sto, h1, h2, h3⟩
end

/-! ### statements -/
inductive Fl where
  | nx (env : Env) (s : Sto)
  | rt (v : PV) (s : Sto)
  | bk (env : Env) (s : Sto)
  | ct (env : Env) (s : Sto)
  | ex (e : Exn) (env : Env) (s : Sto)
  | bad
def R.fl {α : Type} (env : Env) : R α → (α → Sto → Fl) → Fl
  | .ok a s, f => f a s
  | .ex e s, _ => .ex e env s
  | .bad, _ => .bad
def FPost (K : PySem.W.Frag) (W : WK) (D : Ends) (H : Hp) (ρ : Rh) : Fl → Prop
  | .nx env s => ∀ σ' H' ρ', Ext ρ H ρ' H' → RSt K H' ρ' s → REnv K H' ρ' env σ' → D.nx σ' H'
  | .rt v s => ∀ x H' ρ', Ext ρ H ρ' H' → RSt K H' ρ' s → RV K H' ρ' v x → D.rt x H'
  | .bk env s => ∀ σ' H' ρ', Ext ρ H ρ' H' → RSt K H' ρ' s → REnv K H' ρ' env σ' → D.bk σ' H'
  | .ct env s => ∀ σ' H' ρ', Ext ρ H ρ' H' → RSt K H' ρ' s → REnv K H' ρ' env σ' → D.ct σ' H'
  | .ex e env s => ∀ cls d σ' H' ρ', Ext ρ H ρ' H' → RSt K H' ρ' s → REnv K H' ρ' env σ' → RX K H' ρ' e cls d → W cls d σ' H'
  | .bad => False
abbrev MS := Env → Sto → Fl
def SS (K : PySem.W.Frag) (W : WK) (t : TS) (m : MS) : Prop := ∀ (D : Ends) (σ : L2.St) (H : Hp) (ρ : Rh) (env : Env) (sto : Sto),
  REnv K H ρ env σ → RSt K H ρ sto → FPost K W D H ρ (m env sto) → t D σ H
def MSt (X : Cx) (W : WK) (st : Stmt) (m : MS) : Prop := ∃ t, PS X st t ∧ SS X.K W t m
def MSs (X : Cx) (W : WK) (st : List Stmt) (m : MS) : Prop := ∃ t, PSs X st t ∧ SS X.K W t m
def cS (K : PySem.W.Frag) (W : WK) (m : MS) : TS := fun D σ H => ∃ ρ env sto, REnv K H ρ env σ ∧ RSt K H ρ sto ∧ FPost K W D H ρ (m env sto)
theorem MSs.can {X : Cx} {W : WK} {st : List Stmt} {m : MS} (h : MSs X W st m) : PSs X st (cS X.K W m) := by
  obtain ⟨t, p, s⟩ := h
  exact ⟨fun pins st σ H D I ⟨ρ, env, sto, h1, h2, h3⟩ => p.run pins st σ H D I (s D σ H ρ env sto h1 h2 h3)⟩
theorem ss_can {K : PySem.W.Frag} {W : WK} {m : MS} : SS K W (cS K W m) m := fun D σ H ρ env sto h1 h2 h3 => ⟨ρ, env, sto, h1, h2, h3⟩
section
variable {α : Type} {K : PySem.W.Frag} {W : WK} {D : Ends} {H H1 : Hp} {ρ ρ1 : Rh} {sto : Sto}
theorem FPost.shift (e : Ext ρ H ρ1 H1) (hh : ∀ a ∈ ρ.rs, H a ≠ none) : ∀ {f : Fl}, FPost K W D H ρ f → FPost K W D H1 ρ1 f
  | .nx _ _, h => fun σ H' ρ' x y z => h σ H' ρ' (e.trans x hh) y z
  | .rt _ _, h => fun σ H' ρ' x y z => h σ H' ρ' (e.trans x hh) y z
  | .bk _ _, h => fun σ H' ρ' x y z => h σ H' ρ' (e.trans x hh) y z
  | .ct _ _, h => fun σ H' ρ' x y z => h σ H' ρ' (e.trans x hh) y z
  | .ex _ _ _, h => fun c d σ H' ρ' x y z w => h c d σ H' ρ' (e.trans x hh) y z w
  | .bad, h => h
theorem FPost.bind {f : α → Sto → Fl} {env : Env} {σ : L2.St} (E : REnv K H ρ env σ) (S : RSt K H ρ sto) : ∀ {r : R α}, FPost K W D H ρ (r.fl env f) → Post K (fun c d h => W c d σ h) H ρ (fun v s H' ρ' => FPost K W D H' ρ' (f v s)) r
  | .ok _ _, h => fun _ _ x _ => FPost.shift x S.hh h
  | .ex _ _, h => fun c d H' ρ' x y z => h c d σ H' ρ' x y (E.mono x.toExtW) z
  | .bad, h => h
end
def sSeq (m n : MS) : MS := fun env s => match m env s with
  | .nx e s1 => n e s1
  | r => r
def sNil : MS := fun env s => .nx env s
def sExp (m : M) : MS := fun env s => (m env s).fl env fun _ s1 => .nx env s1
def sRet (m : M) : MS := fun env s => (m env s).fl env fun v s1 => .rt v s1
def sRetN : MS := fun _ s => .rt .non s
def sIf (t : MT) (a b : MS) : MS := fun env s => (t env s).fl env fun c s1 => bif c then a env s1 else b env s1
def sBk : MS := fun env s => .bk env s
def sCt : MS := fun env s => .ct env s
/-- the slots but those of sl stand -/
def Only (sl : List Nat) (σ σ' : L2.St) : Prop := σ'.length = σ.length ∧ ∀ j, j ∉ sl → σ'[j]? = σ[j]?
abbrev MG := PV → Env → Sto → R Env
abbrev MGs := List PV → Env → Sto → R Env
def gNm (i : Nat) : MG := fun v env s => .ok (env.set i (some v)) s
def gN0 : MGs := fun vs env s => match vs with
  | [] => .ok env s
  | _ => .bad
def gC (g : MG) (h : MGs) : MGs := fun vs env s => match vs with
  | v :: r => (g v env s).bind fun env1 s1 => h r env1 s1
  | [] => .bad
def gTp (n : Nat) (h : MGs) : MG := fun v env s => match v with
  | .tup xs => bif Nat.beq xs.length n then h xs env s else .bad
  | _ => .bad
def sAsg (m : M) (g : MG) : MS := fun env s => (m env s).fl env fun v s1 => (g v env s1).fl env fun env1 s2 => .nx env1 s2
def SG (K : PySem.W.Frag) (W : WK) (g : TG) (m : MG) (sl : List Nat) : Prop := ∀ (v : PV) (x : V) (σ : L2.St) (H : Hp) (ρ : Rh) (env : Env) (sto : Sto) (Q : L2.St → Hp → Prop),
  REnv K H ρ env σ → RSt K H ρ sto → RV K H ρ v x → Post K (fun _ _ _ => False) H ρ (fun env1 _ H' ρ' => ∀ σ', REnv K H' ρ' env1 σ' → Only sl σ σ' → Q σ' H') (m v env sto) → g x σ H Q
def SGs (K : PySem.W.Frag) (W : WK) (g : TGs) (m : MGs) (sl : List Nat) : Prop := ∀ (v : List PV) (x : List V) (σ : L2.St) (H : Hp) (ρ : Rh) (env : Env) (sto : Sto) (Q : L2.St → Hp → Prop),
  REnv K H ρ env σ → RSt K H ρ sto → RVs K H ρ v x → Post K (fun _ _ _ => False) H ρ (fun env1 _ H' ρ' => ∀ σ', REnv K H' ρ' env1 σ' → Only sl σ σ' → Q σ' H') (m v env sto) → g x σ H Q
def MGt (X : Cx) (W : WK) (e : Expr) (m : MG) (sl : List Nat) : Prop := ∃ g, PG X e g ∧ SG X.K W g m sl
def MGts (X : Cx) (W : WK) (e : List Expr) (m : MGs) (sl : List Nat) : Prop := ∃ g, PGs X e g ∧ SGs X.K W g m sl
def R.noex {α : Type} : R α → R α
  | .ex _ _ => .bad
  | r => r
/-- o[i] = v -/
def gSb (mo mi : M) : MG := fun v env s => ((mo env s).noex).bind fun o s1 => ((mi env s1).noex).bind fun i s2 => match o, i with
  | .box n, .int k => match s2[n]? with
    | some xs => match ixN xs.length k with
      | some j => .ok env (s2.set n (xs.set j v))
      | none => .bad
    | none => .bad
  | _, _ => .bad
section
variable {X : Cx} {W : WK} {st : Stmt} {sts : List Stmt} {e o c tg : Expr} {a b : List Stmt} {m mo mi : M} {n k ma mb : MS} {g : MG} {gs : MGs} {tc : MT} {pos : Pos}
theorem s_nil : MSs X W [] sNil := ⟨_, pss_nil, fun D σ H ρ env sto h1 h2 h3 => h3 σ H ρ .refl h2 h1⟩
theorem s_one (h : MSt X W st n) : MSs X W [st] n := let ⟨t, p, s⟩ := h; ⟨t, pss_one p, s⟩
theorem s_cons (h : MSt X W st n) (r : MSs X W sts k) : MSs X W (st :: sts) (sSeq n k) := by
  obtain ⟨t, p, s⟩ := h
  obtain ⟨u, q, z⟩ := r
  refine ⟨_, pss_cons p q, fun D σ H ρ env sto h1 h2 h3 => s _ σ H ρ env sto h1 h2 ?_⟩
  unfold sSeq at h3
  cases e : n env sto with
  | nx env1 s1 =>
    rw [e] at h3
    exact fun σ' H' ρ' x S E => z D σ' H' ρ' env1 s1 E S (FPost.shift x h2.hh h3)
  | rt v s => rw [e] at h3; exact h3
  | bk env s => rw [e] at h3; exact h3
  | ct env s => rw [e] at h3; exact h3
  | ex e' env s => rw [e] at h3; exact h3
  | bad => rw [e] at h3; exact h3
theorem s_exp (h : ME X W e m) (hs : swapsWith e none pos.line X.env = pure false := by rfl) : MSt X W (.Expr e pos) (sExp m) := by
  obtain ⟨t, p, s⟩ := h
  refine ⟨_, ps_expr p hs, fun D σ H ρ env sto h1 h2 h3 => ?_⟩
  exact s σ H ρ env sto _ h1 h2 ((FPost.bind h1 h2 h3).imp fun v s1 H1 ρ1 x1 S1 P1 y _ => P1 σ H1 ρ1 .refl S1 (h1.mono x1.toExtW))
theorem s_ret (h : ME X W e m) : MSt X W (.Return (some e) pos) (sRet m) := by
  obtain ⟨t, p, s⟩ := h
  refine ⟨_, ps_ret p, fun D σ H ρ env sto h1 h2 h3 => ?_⟩
  exact s σ H ρ env sto _ h1 h2 ((FPost.bind h1 h2 h3).imp fun v s1 H1 ρ1 x1 S1 P1 y hy => P1 y H1 ρ1 .refl S1 hy)
theorem s_retN : MSt X W (.Return none pos) sRetN := ⟨_, ps_retN, fun D σ H ρ env sto h1 h2 h3 => h3 _ H ρ .refl h2 rfl⟩
theorem s_pass : MSt X W (.Pass pos) sNil := ⟨_, ps_pass, fun D σ H ρ env sto h1 h2 h3 => h3 σ H ρ .refl h2 h1⟩
theorem s_bk : MSt X W (.Break pos) sBk := ⟨_, ps_break, fun D σ H ρ env sto h1 h2 h3 => h3 σ H ρ .refl h2 h1⟩
theorem s_ct : MSt X W (.Continue pos) sCt := ⟨_, ps_continue, fun D σ H ρ env sto h1 h2 h3 => h3 σ H ρ .refl h2 h1⟩
theorem s_if (hc : MTe X W c tc) (ha : MSs X W a ma) (hb : MSs X W b mb) : MSt X W (.If c a b pos) (sIf tc ma mb) := by
  obtain ⟨t, p, s⟩ := hc
  obtain ⟨ua, qa, ra⟩ := ha
  obtain ⟨ub, qb, rb⟩ := hb
  refine ⟨_, ps_if p qa qb, fun D σ H ρ env sto h1 h2 h3 => ?_⟩
  refine s σ H ρ env sto _ h1 h2 ((FPost.bind h1 h2 h3).imp fun c s1 H1 ρ1 x1 S1 P1 => ?_)
  cases c with
  | true => exact ra D σ H1 ρ1 env s1 (h1.mono x1.toExtW) S1 P1
  | false => exact rb D σ H1 ρ1 env s1 (h1.mono x1.toExtW) S1 P1
/-! targets -/
theorem g_nm {i : Nat} {x : Str} (hN : X.N.Nodup) (hi : X.N[i]? = some x) (hx : Loc X.env.scope x) (hf : X.fn x = true ∨ X.env.scope.names.lookup x = some .local := by first | exact .inl rfl | exact .inr rfl | assumption) : MGt X W (.Name x pos) (gNm i) [i] :=
  ⟨_, pg_name hN hi hx hf, fun v x σ H ρ env sto Q h1 h2 h3 h4 => h4 H ρ .refl h2 _ (h1.set i h3) ⟨by simp, fun j hj => List.getElem?_set_ne fun q => hj (by rw [q]; exact List.mem_singleton.mpr rfl)⟩⟩
theorem g_n0 : MGts X W [] gN0 [] := by
  refine ⟨_, pgs_nil, fun v x σ H ρ env sto Q h1 h2 h3 h4 => ?_⟩
  cases v with
  | nil => cases h3; exact ⟨rfl, h4 H ρ .refl h2 _ h1 ⟨rfl, fun _ _ => rfl⟩⟩
  | cons _ _ => exact h4.elim
theorem g_c {es : List Expr} {sl sl' : List Nat} (ha : MGt X W e g sl) (hb : MGts X W es gs sl') (hs : (assignEach (e :: es) X.env).map (·.2) = assign e X.env :: (assignEach es X.env).map (·.2) := by rfl) : MGts X W (e :: es) (gC g gs) (sl ++ sl') := by
  obtain ⟨ta, pa, sa⟩ := ha
  obtain ⟨tb, pb, sb⟩ := hb
  refine ⟨_, pgs_cons pa pb hs, fun v x σ H ρ env sto Q h1 h2 h3 h4 => ?_⟩
  cases v with
  | nil => exact h4.elim
  | cons v r =>
    obtain ⟨y, ys, rfl, hy, hys⟩ := h3
    refine ⟨y, ys, rfl, sa v y σ H ρ env sto _ h1 h2 hy ((Post.bind h2 h4).imp fun env1 s1 H1 ρ1 x1 S1 P1 σ1 E1 O1 => ?_)⟩
    exact sb r ys σ1 H1 ρ1 env1 s1 Q E1 S1 (hys.mono x1.toExtW) (P1.imp fun _ _ _ _ _ _ k σ2 E2 O2 => k σ2 E2 ⟨O2.1.trans O1.1, fun j hj => (O2.2 j fun z => hj (List.mem_append_right _ z)).trans (O1.2 j fun z => hj (List.mem_append_left _ z))⟩)
theorem g_tp {es : List Expr} {kk n : Nat} {sl : List Nat} (hc : X.calm = true) (h : MGts X W es gs sl) (hn : (assignEach es X.env).length = n := by rfl) (hst : (assignEach es X.env).findIdx? (·.1) = none := by rfl) : MGt X W (.Tuple es kk pos) (gTp n gs) sl := by
  obtain ⟨t, p, s⟩ := h
  refine ⟨_, pg_tup hc p hn hst, fun v x σ H ρ env sto Q h1 h2 h3 h4 => ?_⟩
  unfold gTp at h4
  split at h4
  · rename_i xs
    obtain ⟨hq, h4⟩ := and_of (C := Post X.K _ H ρ _) h4 (fun z => z)
    obtain ⟨a, ys, rfl, k1, k2⟩ := getT_ok h3 rfl
    exact ⟨a, ys, rfl, k1, by rw [← k2.length]; exact Nat.eq_of_beq_eq_true hq, s xs ys σ H ρ env sto Q h1 h2 k2 h4⟩
  · exact h4.elim
theorem Post.unex {α : Type} {K : PySem.W.Frag} {WP WP' : XK} {H : Hp} {ρ : Rh} {G : α → Sto → Hp → Rh → Prop} : ∀ {r : R α}, Post K WP H ρ G r.noex → Post K WP' H ρ G r
  | .ok _ _, h => h
  | .ex _ _, h => h.elim
  | .bad, h => h
theorem g_sb (ho : ME X W o mo) (hi : ME X W e mi)
    (ha : ∀ v, assign (.Subscript o e pos) X.env v = (do
      let ov ← holding [v] (eval o X.env)
      let iv ← holding [v, ov] (eval e X.env)
      standAt pos
      holding [v, ov, iv] (setItem ov iv v)
      release [v, ov, iv] []) := by exact fun _ => rfl) : MGt X W (.Subscript o e pos) (gSb mo mi) [] := by
  obtain ⟨to, po, so⟩ := ho
  obtain ⟨ti, pi, si⟩ := hi
  refine ⟨_, pg_sub po pi set_list ha, fun v x σ H ρ env sto Q h1 h2 h3 h4 => ?_⟩
  refine so σ H ρ env sto _ h1 h2 (Post.unex ((Post.bind h2 h4).imp fun ov s1 H1 ρ1 x1 S1 P1 y hy => ?_))
  refine si σ H1 ρ1 env s1 _ (h1.mono x1.toExtW) S1 (Post.unex ((Post.bind S1 P1).imp fun iv s2 H2 ρ2 x2 S2 P2 z hz => ?_))
  have hy2 := hy.mono x2.toExtW
  split at P2
  · rename_i nn kk
    obtain ⟨a, rfl, haa⟩ := hy2
    cases hz
    split at P2
    · rename_i xs e1
      split at P2
      · rename_i j e2
        obtain ⟨ys, k1, k2⟩ := S2.at_ nn a xs haa e1
        have hv := (h3.mono x1.toExtW).mono x2.toExtW
        obtain ⟨x3, S3⟩ := S2.put haa (S2.lt haa) (RVs.set hv j k2)
        exact ⟨a, ys, kk, j, rfl, rfl, k1, by rw [← k2.length]; exact e2, P2 _ ρ2 x3 S3 _ (((h1.mono x1.toExtW).mono x2.toExtW).mono x3.toExtW) ⟨rfl, fun _ _ => rfl⟩⟩
      · exact P2.elim
    · exact P2.elim
  · exact P2.elim
theorem fl_noex {D : Ends} {H : Hp} {ρ : Rh} {K : PySem.W.Frag} {r : R Env} {W : WK} {env : Env} {sl : List Nat} {σ : L2.St} (h : FPost K W D H ρ (r.fl env fun e s => .nx e s)) (hx : ∀ e s, r ≠ .ex e s) : Post K (fun _ _ _ => False) H ρ (fun env1 _ H' ρ' => ∀ σ', REnv K H' ρ' env1 σ' → Only sl σ σ' → D.nx σ' H') r := by
  cases r with
  | ok a s => exact fun H' ρ' x S σ' E _ => h σ' H' ρ' x S E
  | ex e s => exact absurd rfl (hx e s)
  | bad => exact h
/-- a target that raises nothing by itself -/
def Calm (g : MG) : Prop := ∀ v env s e t, g v env s ≠ .ex e t
def CalmS (g : MGs) : Prop := ∀ v env s e t, g v env s ≠ .ex e t
theorem calm_nm {i : Nat} : Calm (gNm i) := fun _ _ _ _ _ h => by cases h
theorem calm_n0 : CalmS gN0 := fun v _ _ _ _ h => by cases v <;> cases h
theorem calm_c (h1 : Calm g) (h2 : CalmS gs) : CalmS (gC g gs) := fun v env s e t h => by
  cases v with
  | nil => cases h
  | cons v r =>
    have h : (g v env s).bind (fun env1 s1 => gs r env1 s1) = .ex e t := h
    cases q : g v env s with
    | ok a s1 => rw [q] at h; exact h2 _ _ _ _ _ h
    | ex e' s' => exact h1 _ _ _ _ _ q
    | bad => rw [q] at h; cases h
theorem calm_tp {n : Nat} (h : CalmS gs) : Calm (gTp n gs) := fun v env s e t q => by
  unfold gTp at q
  split at q
  · rename_i xs
    cases k : Nat.beq xs.length n with
    | true => rw [k] at q; exact h _ _ _ _ _ q
    | false => rw [k] at q; cases q
  · cases q
theorem noex_ne {α : Type} {r : R α} {e : Exn} {s : Sto} : r.noex ≠ .ex e s := by cases r <;> exact fun h => by cases h
theorem calm_sb : Calm (gSb mo mi) := fun v env s e t q => by
  unfold gSb at q
  cases k : (mo env s).noex with
  | ex e' s' => exact noex_ne k
  | bad => rw [k] at q; cases q
  | ok o s1 =>
    rw [k] at q
    have q : ((mi env s1).noex).bind _ = .ex e t := q
    cases k2 : (mi env s1).noex with
    | ex e' s' => exact noex_ne k2
    | bad => rw [k2] at q; cases q
    | ok i s2 =>
      rw [k2] at q
      simp only [R.bind] at q
      split at q
      · split at q
        · split at q <;> cases q
        · cases q
      · cases q
theorem s_asg {sl : List Nat} (he : ME X W e m) (hg : MGt X W tg g sl) (hk : Calm g) (hs : swapsWithSole [tg] e pos.line X.env = pure false := by rfl) (hw : swappedStores [tg] e X.env = pure none := by rfl)
    (h1 : (assignEach [tg] X.env).map (·.2) = [assign tg X.env] := by rfl) : MSt X W (.Assign [tg] e pos) (sAsg m g) := by
  obtain ⟨t, p, s⟩ := he
  obtain ⟨u, q, z⟩ := hg
  refine ⟨_, ps_asg p q hs hw h1, fun D σ H ρ env sto h1 h2 h3 => ?_⟩
  refine s σ H ρ env sto _ h1 h2 ((FPost.bind h1 h2 h3).imp fun v s1 H1 ρ1 x1 S1 P1 y hy => ?_)
  exact z v y σ H1 ρ1 env s1 _ (h1.mono x1.toExtW) S1 hy (fl_noex P1 (hk v env s1))
/-- a, b = e1, e2 (two plain locals) -/
def sPar (i j : Nat) (ms : MA) : MS := fun env s => (ms env s).fl env fun vs s1 => match vs with
  | [v, w] => .nx ((env.set i (some v)).set j (some w)) s1
  | _ => .bad
theorem s_par {i j : Nat} {x y : Str} {a b : Expr} {ms : MA} {px py pt : Pos} {kt k2 pt2} (hc : X.calm = true) (hN : X.N.Nodup) (hi : X.N[i]? = some x) (hj : X.N[j]? = some y) (hij : i ≠ j)
    (hx : X.env.scope.names.lookup x = some .local) (hy : X.env.scope.names.lookup y = some .local) (ha : MEs X W [a, b] ms)
    (hw : swappedStores [.Tuple [.Name x px, .Name y py] kt pt] (.Tuple [a, b] k2 pt2) X.env = pure (some [x, y]))
    (hs : swapsWithSole [.Tuple [.Name x px, .Name y py] kt pt] (.Tuple [a, b] k2 pt2) pos.line X.env = pure false := by rfl) :
    MSt X W (.Assign [.Tuple [.Name x px, .Name y py] kt pt] (.Tuple [a, b] k2 pt2) pos) (sPar i j ms) := by
  obtain ⟨t, p, s⟩ := ha
  refine ⟨_, ps_par hc hN hi hj hij hx hy p hw hs, fun D σ H ρ env sto h1 h2 h3 => ?_⟩
  refine s σ H ρ env sto _ h1 h2 ((FPost.bind h1 h2 h3).imp fun vs s1 H1 ρ1 x1 S1 P1 ys hys => ?_)
  split at P1
  · obtain ⟨v, u, rfl, r1, r2⟩ := hys.two
    exact ⟨v, u, rfl, P1 _ H1 ρ1 .refl S1 (((h1.mono x1.toExtW).set i r1).set j r2)⟩
  · exact P1.elim
end

/-! ### loops -/
abbrev MIt := Nat → Sto → Option PV
def ItOk (K : PySem.W.Frag) (H0 : Hp) (ρ0 : Rh) (Jh : It) (J : MIt) : Prop := ∀ (i : Nat) (H : Hp) (ρ : Rh) (sto : Sto), ExtW ρ0 H0 ρ H → RSt K H ρ sto → match J i sto with
  | some v => Jh.go i H ∧ ∀ x H', Jh.yld i H x H' → Ext ρ H ρ H' ∧ RSt K H' ρ sto ∧ RV K H' ρ v x
  | none => Jh.stop i H
abbrev MI := Env → Sto → R MIt
def SI (K : PySem.W.Frag) (W : WK) (t : TI) (m : MI) : Prop := ∀ (σ : L2.St) (H : Hp) (ρ : Rh) (env : Env) (sto : Sto) (Rk : It → Hp → Prop),
  REnv K H ρ env σ → RSt K H ρ sto → Post K (fun c d h => W c d σ h) H ρ (fun J _ H' ρ' => ∀ Jh, ItOk K H' ρ' Jh J → Rk Jh H') (m env sto) → t σ H Rk
def MIr (X : Cx) (W : WK) (tg it : Expr) (m : MI) : Prop := ∃ t, PI X tg it t ∧ SI X.K W t m
def itOf (s : Sto) : PV → Option MIt
  | .lst xs => some fun i _ => xs[i]?
  | .fro xs => some fun i _ => xs[i]?
  | .box n => some fun i s => match s[n]? with
    | some xs => xs[i]?
    | none => none
  | _ => none
def iLst (m : M) : MI := fun env s => (m env s).bind fun v s1 => match itOf s1 v with
  | some J => .ok J s1
  | none => .bad
def iTup (m : M) : MI := fun env s => (m env s).bind fun v s1 => match v with
  | .tup xs => .ok (fun i _ => xs[i]?) s1
  | _ => .bad
def irng (lo : Int) (n : Nat) : MIt := fun i _ => bif Nat.blt i n then some (.int (lo + i)) else none
def okR (i j : Int) : Bool := decide (-(2 ^ 62) ≤ i ∧ i < 2 ^ 62 ∧ -(2 ^ 62) ≤ j ∧ j < 2 ^ 62)
def iR1 (ms : MA) : MI := fun env s => (ms env s).bind fun vs s1 => match vs with
  | [.int j] => bif okR 0 j then .ok (irng 0 j.toNat) s1 else .bad
  | _ => .bad
def iR2 (ms : MA) : MI := fun env s => (ms env s).bind fun vs s1 => match vs with
  | [.int i, .int j] => bif okR i j then .ok (irng i (j - i).toNat) s1 else .bad
  | _ => .bad
def enuI (J : MIt) : MIt := fun i s => match J i s with
  | some v => some (.tup [.int (i : Nat), v])
  | none => none
def iEnu (ms : MA) : MI := fun env s => (ms env s).bind fun vs s1 => match vs with
  | [v] => match itOf s1 v with
    | some J => .ok (enuI J) s1
    | none => .bad
  | _ => .bad
def zipI (J L : MIt) : MIt := fun i s => match J i s with
  | some v => match L i s with
    | some w => some (.tup [v, w])
    | none => none
  | none => none
def iZp (ms : MA) : MI := fun env s => (ms env s).bind fun vs s1 => match vs with
  | [.tup xs, .tup ys] => .ok (zipI (fun i _ => xs[i]?) (fun i _ => ys[i]?)) s1
  | [v, w] => match itOf s1 v, itOf s1 w with
    | some J, some L => .ok (zipI J L) s1
    | _, _ => .bad
  | _ => .bad
section
variable {K : PySem.W.Frag} {H0 : Hp} {ρ0 : Rh} {s0 : Sto} {a : Addr}
/-- what a list's iterator holds: the list as it stands -/
def ListIt (K : PySem.W.Frag) (H0 : Hp) (ρ0 : Rh) (a : Addr) (J : MIt) : Prop := ∀ (i : Nat) (H : Hp) (ρ : Rh) (sto : Sto), ExtW ρ0 H0 ρ H → RSt K H ρ sto → ∃ ys : List V, SqL K H a ys ∧ match J i sto with
  | some v => ∃ y, ys[i]? = some y ∧ RV K H ρ v y
  | none => ys.length ≤ i
theorem get_none {xs : List PV} {ys : List V} {H : Hp} {ρ : Rh} (r : RVs K H ρ xs ys) (i : Nat) : match xs[i]? with
  | some v => ∃ y, ys[i]? = some y ∧ RV K H ρ v y
  | none => ys.length ≤ i := by
  cases e : xs[i]? with
  | some v => exact r.get e
  | none => rw [← r.length]; exact List.getElem?_eq_none_iff.mp e
theorem itOf_ok (S0 : RSt K H0 ρ0 s0) {v : PV} {x : V} {J : MIt} (r : RV K H0 ρ0 v x) (h : itOf s0 v = some J) : ∃ a ys, x = .ref a ∧ SqL K H0 a ys ∧ ListIt K H0 ρ0 a J := by
  cases v with
  | lst xs =>
    cases h
    obtain ⟨a, ys, rfl, h2, h3⟩ := r
    exact ⟨a, ys, rfl, h2.sq, fun i H ρ sto x S => ⟨ys, (h2.mono x).sq, get_none (h3.mono x) i⟩⟩
  | fro xs =>
    cases h
    obtain ⟨a, ys, rfl, h2, h3⟩ := r
    exact ⟨a, ys, rfl, h2.sq, fun i H ρ sto x S => ⟨ys, (h2.mono x).sq, get_none (h3.mono x) i⟩⟩
  | box n =>
    cases h
    obtain ⟨a, rfl, h2⟩ := r
    obtain ⟨zs, k1, k2⟩ := S0.at_ n a _ h2 (List.getElem?_eq_getElem (S0.lt h2))
    refine ⟨a, zs, rfl, .of k1, fun i H ρ sto x S => ?_⟩
    have ha : ρ.bx[n]? = some a := by
      obtain ⟨r, hr, _⟩ := x.pre
      rw [hr, List.getElem?_append_left (List.getElem?_eq_some_iff.mp h2).1]
      exact h2
    obtain ⟨ys, h3, h4⟩ := S.at_ n a _ ha (List.getElem?_eq_getElem (S.lt ha))
    refine ⟨ys, .of h3, ?_⟩
    show (match (match sto[n]? with | some xs => xs[i]? | none => none) with
      | some v => ∃ y, ys[i]? = some y ∧ RV K H ρ v y
      | none => ys.length ≤ i)
    rw [List.getElem?_eq_getElem (S.lt ha)]
    exact get_none h4 i
  | _ => cases h
theorem itl_ok {J : MIt} (h : ListIt K H0 ρ0 a J) : ItOk K H0 ρ0 (Itl K a) J := by
  intro i H ρ sto x S
  obtain ⟨ys, h1, h2⟩ := h i H ρ sto x S
  split at h2
  · rename_i v e
    obtain ⟨y, k1, k2⟩ := h2
    refine ⟨⟨ys, y, h1, k1⟩, fun z H' hz => ?_⟩
    obtain ⟨rfl, hz⟩ := hz
    have : some z = some y := (hz ys h1).symm.trans k1
    cases this
    exact ⟨.refl, S, k2⟩
  · rename_i e
    exact ⟨ys, h1, h2⟩
theorem itt_ok {xs : List PV} {ys : List V} (h : FzT K H0 ρ0 a ys) (r : RVs K H0 ρ0 xs ys) : ItOk K H0 ρ0 (Itt K a) (fun i _ => xs[i]?) := by
  intro i H ρ sto x S
  have h1 := (h.mono x).sq
  have r1 := r.mono x
  have g := get_none r1 i
  show (match xs[i]? with
    | some v => _
    | none => _)
  split at g
  · rename_i v e
    obtain ⟨y, k1, k2⟩ := g
    refine ⟨⟨ys, y, h1, k1⟩, fun z H' hz => ?_⟩
    obtain ⟨rfl, hz⟩ := hz
    have : some z = some y := (hz ys h1).symm.trans k1
    cases this
    exact ⟨.refl, S, k2⟩
  · exact ⟨ys, h1, g⟩
theorem irng_ok {lo : Int} {n : Nat} : ItOk K H0 ρ0 (Itr lo n) (irng lo n) := by
  intro i H ρ sto x S
  unfold irng
  cases q : Nat.blt i n with
  | true =>
    refine ⟨Nat.le_of_ble_eq_true q, fun z H' hz => ?_⟩
    obtain ⟨rfl, rfl⟩ := hz
    exact ⟨.refl, S, rfl⟩
  | false =>
    show n ≤ i
    apply Nat.le_of_not_lt
    intro h
    have : Nat.blt i n = true := Nat.ble_eq_true_of_le h
    rw [this] at q; cases q
theorem newPair {H : Hp} {ρ : Rh} {sto : Sto} {v w : PV} {x y : V} {T : Addr} (S : RSt K H ρ sto) (hT : H T = none) (r1 : RV K H ρ v x) (r2 : RV K H ρ w y) : Ext ρ H ρ (upd H T (.tup [x, y])) ∧ RSt K (upd H T (.tup [x, y])) ρ sto ∧ RV K (upd H T (.tup [x, y])) ρ (.tup [v, w]) (.ref T) := by
  have hx := S.ext (o := .tup [x, y]) hT
  exact ⟨hx, S.new hT, T, [x, y], rfl, .inl ⟨upd_same, S.fresh hT, S.freshR hT⟩, .cons (r1.mono hx.toExtW) (.cons (r2.mono hx.toExtW) .nil)⟩
theorem ite_ok {J : MIt} (h : ListIt K H0 ρ0 a J) : ItOk K H0 ρ0 (Ite K a) (enuI J) := by
  intro i H ρ sto x S
  obtain ⟨ys, h1, h2⟩ := h i H ρ sto x S
  unfold enuI
  cases e : J i sto with
  | some v =>
    rw [e] at h2
    obtain ⟨y, k1, k2⟩ := h2
    refine ⟨⟨ys, y, h1, k1⟩, fun z H' hz => ?_⟩
    obtain ⟨T, w, rfl, hT, rfl, hw⟩ := hz
    have : some w = some y := (hw ys h1).symm.trans k1
    cases this
    exact newPair S hT rfl k2
  | none =>
    rw [e] at h2
    exact ⟨ys, h1, h2⟩
theorem itz_ok {b : Addr} {J L : MIt} (h : ListIt K H0 ρ0 a J) (h' : ListIt K H0 ρ0 b L) : ItOk K H0 ρ0 (Itz K a b) (zipI J L) := by
  intro i H ρ sto x S
  obtain ⟨ys, h1, h2⟩ := h i H ρ sto x S
  obtain ⟨zs, h3, h4⟩ := h' i H ρ sto x S
  unfold zipI
  cases e : J i sto with
  | some v =>
    rw [e] at h2
    obtain ⟨y, k1, k2⟩ := h2
    cases e' : L i sto with
    | some w =>
      rw [e'] at h4
      obtain ⟨u, k3, k4⟩ := h4
      refine ⟨⟨ys, zs, y, u, h1, h3, k1, k3⟩, fun z H' hz => ?_⟩
      obtain ⟨T, p, q, rfl, hT, rfl, hp, hq⟩ := hz
      have : some p = some y := (hp ys h1).symm.trans k1
      cases this
      have : some q = some u := (hq zs h3).symm.trans k3
      cases this
      exact newPair S hT k2 k4
    | none =>
      rw [e'] at h4
      exact ⟨ys, zs, h1, h3, .inr h4⟩
  | none =>
    rw [e] at h2
    exact ⟨ys, zs, h1, h3, .inl h2⟩
theorem itzT_ok {b : Addr} {xs zs : List PV} {ys us : List V} (h : FzT K H0 ρ0 a ys) (r : RVs K H0 ρ0 xs ys) (h' : FzT K H0 ρ0 b us) (r' : RVs K H0 ρ0 zs us) : ItOk K H0 ρ0 (ItzT K a b) (zipI (fun i _ => xs[i]?) (fun i _ => zs[i]?)) := by
  intro i H ρ sto x S
  have g := get_none (r.mono x) i
  have g' := get_none (r'.mono x) i
  have q1 := (h.mono x).sq
  have q2 := (h'.mono x).sq
  unfold zipI
  dsimp only
  cases e : xs[i]? with
  | some v =>
    rw [e] at g
    obtain ⟨y, k1, k2⟩ := g
    cases e' : zs[i]? with
    | some w =>
      rw [e'] at g'
      obtain ⟨u, k3, k4⟩ := g'
      refine ⟨⟨ys, us, y, u, q1, q2, k1, k3⟩, fun z H' hz => ?_⟩
      obtain ⟨T, p, q, rfl, hT, rfl, hp, hq⟩ := hz
      have : some p = some y := (hp ys q1).symm.trans k1
      cases this
      have : some q = some u := (hq us q2).symm.trans k3
      cases this
      exact newPair S hT k2 k4
    | none =>
      rw [e'] at g'
      exact ⟨ys, us, q1, q2, .inr g'⟩
  | none =>
    rw [e] at g
    exact ⟨ys, us, q1, q2, .inl g⟩
end
section
variable {X : Cx} {W : WK} {tg e e2 a b : Expr} {m : M} {ms : MA} {pos p : Pos} {elts : List Expr} {kk : Nat} {tpos : Pos}
theorem i_lst (h : ME X W e m) : MIr X W tg e (iLst m) := by
  obtain ⟨t, q, s⟩ := h
  refine ⟨_, pi_list q, fun σ H ρ env sto Rk hE hS hP => ?_⟩
  refine s σ H ρ env sto _ hE hS ((hP.bind hS).imp fun v s1 H1 ρ1 x1 S1 P1 y hy => ?_)
  cases k : itOf s1 v with
  | none => rw [k] at P1; exact P1.elim
  | some J =>
    rw [k] at P1
    obtain ⟨a, ys, rfl, h1, h2⟩ := itOf_ok S1 hy k
    exact ⟨a, rfl, ⟨ys, h1⟩, P1 H1 ρ1 .refl S1 _ (itl_ok h2)⟩
theorem i_tup (h : ME X W e m) : MIr X W tg e (iTup m) := by
  obtain ⟨t, q, s⟩ := h
  refine ⟨_, pi_tup q, fun σ H ρ env sto Rk hE hS hP => ?_⟩
  refine s σ H ρ env sto _ hE hS ((hP.bind hS).imp fun v s1 H1 ρ1 x1 S1 P1 y hy => ?_)
  split at P1
  · obtain ⟨a, ys, rfl, h1, h2⟩ := hy
    exact ⟨a, rfl, ⟨ys, h1.sq⟩, P1 H1 ρ1 .refl S1 _ (itt_ok h1 h2)⟩
  · exact P1.elim
theorem i_r1 (hg : Gl X "range") (hm : X.mg "range" = none) (ha : MEs X W [a] ms) (hs : starEach [a] X.env = [(false, eval a X.env)] := by rfl) : MIr X W tg (.Call (.Name "range" p) [a] [] pos) (iR1 ms) := by
  obtain ⟨t, q, s⟩ := ha
  refine ⟨_, pi_range1 hg hm q hs, fun σ H ρ env sto Rk hE hS hP => ?_⟩
  refine s σ H ρ env sto _ hE hS ((hP.bind hS).imp fun vs s1 H1 ρ1 x1 S1 P1 ys hys => ?_)
  split at P1
  · obtain ⟨v, rfl, hv⟩ := hys.one
    cases hv
    obtain ⟨hq, P1⟩ := and_of (C := Post X.K _ H1 ρ1 _) P1 (fun z => z)
    have hq := of_decide_eq_true hq
    exact ⟨_, rfl, hq.2.2.1, hq.2.2.2, P1 H1 ρ1 .refl S1 _ irng_ok⟩
  · exact P1.elim
theorem i_r2 (hg : Gl X "range") (hm : X.mg "range" = none) (ha : MEs X W [a, b] ms) (hs : starEach [a, b] X.env = [(false, eval a X.env), (false, eval b X.env)] := by rfl) (hs2 : starEach [b] X.env = [(false, eval b X.env)] := by rfl) : MIr X W tg (.Call (.Name "range" p) [a, b] [] pos) (iR2 ms) := by
  obtain ⟨t, q, s⟩ := ha
  refine ⟨_, pi_range2 hg hm q hs hs2, fun σ H ρ env sto Rk hE hS hP => ?_⟩
  refine s σ H ρ env sto _ hE hS ((hP.bind hS).imp fun vs s1 H1 ρ1 x1 S1 P1 ys hys => ?_)
  split at P1
  · obtain ⟨v, u, rfl, hv, hu⟩ := hys.two
    cases hv; cases hu
    obtain ⟨hq, P1⟩ := and_of (C := Post X.K _ H1 ρ1 _) P1 (fun z => z)
    have hq := of_decide_eq_true hq
    exact ⟨_, _, rfl, hq, P1 H1 ρ1 .refl S1 _ irng_ok⟩
  · exact P1.elim
theorem i_enu (hg : Gl X "enumerate") (hm : X.mg "enumerate" = none) (ha : MEs X W [e] ms) (hs : starEach [e] X.env = [(false, eval e X.env)] := by rfl) : MIr X W (.Tuple elts kk tpos) (.Call (.Name "enumerate" p) [e] [] pos) (iEnu ms) := by
  obtain ⟨t, q, s⟩ := ha
  refine ⟨_, pi_enum hg hm q hs, fun σ H ρ env sto Rk hE hS hP => ?_⟩
  refine s σ H ρ env sto _ hE hS ((hP.bind hS).imp fun vs s1 H1 ρ1 x1 S1 P1 ys hys => ?_)
  split at P1
  · obtain ⟨v, rfl, hv⟩ := hys.one
    rename_i v0
    cases k : itOf s1 v0 with
    | none => rw [k] at P1; exact P1.elim
    | some J =>
      rw [k] at P1
      obtain ⟨a, zs, rfl, h1, h2⟩ := itOf_ok S1 hv k
      exact ⟨a, zs, rfl, h1, P1 H1 ρ1 .refl S1 _ (ite_ok h2)⟩
  · exact P1.elim
theorem i_zp (hg : Gl X "zip") (hm : X.mg "zip" = none) (ha : MEs X W [e, e2] ms) (hs : starEach [e, e2] X.env = (false, eval e X.env) :: starEach [e2] X.env := by rfl) (hpl : (backTo pos (starEach [e2] X.env)).any (·.1) = false := by rfl) :
    MIr X W (.Tuple elts kk tpos) (.Call (.Name "zip" p) [e, e2] [] pos) (iZp ms) := by
  obtain ⟨t, q, s⟩ := ha
  refine ⟨_, pi_zipA hg hm q hs hpl, fun σ H ρ env sto Rk hE hS hP => ?_⟩
  refine s σ H ρ env sto _ hE hS ((hP.bind hS).imp fun vs s1 H1 ρ1 x1 S1 P1 ys hys => ?_)
  split at P1
  · obtain ⟨v, u, rfl, hv, hu⟩ := hys.two
    obtain ⟨a, as, rfl, h1, h2⟩ := hv
    obtain ⟨b, bs, rfl, h3, h4⟩ := hu
    exact ⟨a, b, as, bs, rfl, .inr ⟨h1.sq, h3.sq, P1 H1 ρ1 .refl S1 _ (itzT_ok h1 h2 h3 h4)⟩⟩
  · obtain ⟨v, u, rfl, hv, hu⟩ := hys.two
    split at P1
    · rename_i J L k1 k2
      obtain ⟨a, as, rfl, h1, h2⟩ := itOf_ok S1 hv k1
      obtain ⟨b, bs, rfl, h3, h4⟩ := itOf_ok S1 hu k2
      exact ⟨a, b, as, bs, rfl, .inl ⟨h1, h3, P1 H1 ρ1 .refl S1 _ (itz_ok h2 h4)⟩⟩
    · exact P1.elim
  · exact P1.elim
end
def forL (J : MIt) (g : MG) (body : MS) : Nat → Nat → Env → Sto → Fl
  | 0, _, _, _ => .bad
  | n + 1, i, env, s => match J i s with
    | none => .nx env s
    | some v => ((g v env s).noex).fl env fun env1 s1 => match body env1 s1 with
      | .nx e s2 => forL J g body n (i + 1) e s2
      | .ct e s2 => forL J g body n (i + 1) e s2
      | .bk e s2 => .nx e s2
      | r => r
def sFor (N : Nat) (mi : MI) (g : MG) (body : MS) : MS := fun env s => (mi env s).fl env fun J s1 => forL J g body N 0 env s1
def whL (t : MT) (body : MS) : Nat → Env → Sto → Fl
  | 0, _, _ => .bad
  | n + 1, env, s => (t env s).fl env fun c s1 => bif c then (match body env s1 with
      | .nx e s2 => whL t body n e s2
      | .ct e s2 => whL t body n e s2
      | .bk e s2 => .nx e s2
      | r => r) else .nx env s1
def sWh (N : Nat) (t : MT) (body : MS) : MS := fun env s => whL t body N env s
section
variable {X : Cx} {W : WK} {tg it c : Expr} {body : List Stmt} {mi : MI} {g : MG} {mb : MS} {tc : MT} {pos : Pos}
theorem s_for (N : Nat) (hp : PassesOwn (model X.prog X.w) X.A X.env X.xe) (hc : X.calm = true) {sl : List Nat} (hi : MIr X W tg it mi) (hg : MGt X W tg g sl) (hb : MSs X W body mb)
    (hs : ∀ x, foldedSetIterable it X.env x = pure x := by intro _; rfl) : MSt X W (.For tg it body [] pos) (sFor N mi g mb) := by
  obtain ⟨t, q, s⟩ := hi
  obtain ⟨u, qg, sg⟩ := hg
  refine ⟨_, ps_for hp hc q qg hb.can hs, fun D σ H ρ env sto h1 h2 h3 => ?_⟩
  refine s σ H ρ env sto _ h1 h2 ((FPost.bind h1 h2 h3).imp fun J s1 H1 ρ1 x1 S1 P1 Jh hJ => ?_)
  refine ⟨fun i n σ H => ∃ ρ env sto, ExtW ρ1 H1 ρ H ∧ REnv X.K H ρ env σ ∧ RSt X.K H ρ sto ∧ FPost X.K W D H ρ (forL J g mb n i env sto), ⟨N, ρ1, env, s1, Ext.refl.toExtW, h1.mono x1.toExtW, S1, P1⟩, ?_⟩
  rintro i n σ2 H2 ⟨ρ2, env2, s2, x2, E2, S2, P2⟩
  cases n with
  | zero => exact P2.elim
  | succ n =>
    have hj := hJ i H2 ρ2 s2 x2 S2
    unfold forL at P2
    cases e : J i s2 with
    | none =>
      rw [e] at hj P2
      exact .inl ⟨hj, P2 σ2 H2 ρ2 .refl S2 E2⟩
    | some v =>
      rw [e] at hj P2
      refine .inr ⟨hj.1, fun σ' H' => ∃ ρ env sto, ExtW ρ1 H1 ρ H' ∧ REnv X.K H' ρ env σ' ∧ RSt X.K H' ρ sto ∧ FPost X.K W D H' ρ (forL J g mb n (i + 1) env sto), fun σ' H' h => ⟨n, Nat.lt_succ_self n, h⟩, fun x H' hy => ?_⟩
      obtain ⟨y1, y2, y3⟩ := hj.2 x H' hy
      have P2' := FPost.shift y1 S2.hh P2
      refine sg v x σ2 H' ρ2 env2 s2 _ (E2.mono y1.toExtW) y2 y3 (Post.unex (WP := fun c d h => W c d σ2 h) ((FPost.bind (E2.mono y1.toExtW) y2 P2').imp fun env3 s3 H3 ρ3 x3 S3 P3 σ3 E3 _ => ?_))
      refine ⟨ρ3, env3, s3, E3, S3, ?_⟩
      have x4 : ExtW ρ1 H1 ρ3 H3 := (x2.trans y1.toExtW).trans x3.toExtW
      cases r : mb env3 s3 with
      | nx e4 s4 => rw [r] at P3; exact fun σ' H' ρ' x S E => ⟨ρ', e4, s4, x4.trans x.toExtW, E, S, FPost.shift x S3.hh P3⟩
      | ct e4 s4 => rw [r] at P3; exact fun σ' H' ρ' x S E => ⟨ρ', e4, s4, x4.trans x.toExtW, E, S, FPost.shift x S3.hh P3⟩
      | bk e4 s4 => rw [r] at P3; exact P3
      | rt v s4 => rw [r] at P3; exact P3
      | ex v e4 s4 => rw [r] at P3; exact P3
      | bad => rw [r] at P3; exact P3
theorem s_wh (N : Nat) (hp : PassesOwn (model X.prog X.w) X.A X.env X.xe) (hc : MTe X W c tc) (hb : MSs X W body mb) : MSt X W (.While c body [] pos) (sWh N tc mb) := by
  refine ⟨_, ps_while hp hc.can hb.can, fun D σ H ρ env sto h1 h2 h3 => ?_⟩
  refine ⟨fun n σ H => ∃ ρ env sto, REnv X.K H ρ env σ ∧ RSt X.K H ρ sto ∧ FPost X.K W D H ρ (whL tc mb n env sto), ⟨N, ρ, env, sto, h1, h2, h3⟩, ?_⟩
  rintro n σ2 H2 ⟨ρ2, env2, s2, E2, S2, P2⟩
  cases n with
  | zero => exact P2.elim
  | succ n =>
    unfold whL at P2
    refine ⟨ρ2, env2, s2, E2, S2, (FPost.bind E2 S2 P2).imp fun c s3 H3 ρ3 x3 S3 P3 => ?_⟩
    cases c with
    | false => exact P3 σ2 H3 ρ3 .refl S3 (E2.mono x3.toExtW)
    | true =>
      refine ⟨fun σ' H' => ∃ ρ env sto, REnv X.K H' ρ env σ' ∧ RSt X.K H' ρ sto ∧ FPost X.K W D H' ρ (whL tc mb n env sto), fun σ' H' h => ⟨n, Nat.lt_succ_self n, h⟩, ρ3, env2, s3, E2.mono x3.toExtW, S3, ?_⟩
      have P3 : FPost X.K W D H3 ρ3 (match mb env2 s3 with
        | .nx e s2 => whL tc mb n e s2
        | .ct e s2 => whL tc mb n e s2
        | .bk e s2 => .nx e s2
        | r => r) := P3
      cases r : mb env2 s3 with
      | nx e4 s4 => rw [r] at P3; exact fun σ' H' ρ' x S E => ⟨ρ', e4, s4, E, S, FPost.shift x S3.hh P3⟩
      | ct e4 s4 => rw [r] at P3; exact fun σ' H' ρ' x S E => ⟨ρ', e4, s4, E, S, FPost.shift x S3.hh P3⟩
      | bk e4 s4 => rw [r] at P3; exact P3
      | rt v s4 => rw [r] at P3; exact P3
      | ex v e4 s4 => rw [r] at P3; exact P3
      | bad => rw [r] at P3; exact P3
end
end Mi

namespace Mi
open PySem PySem.Spec PyProof.Rows L2

/-! ### comprehensions -/
def WF : WK := fun _ _ _ _ => False
def wipeE (env : Env) : List Nat → Env
  | [] => env
  | v :: vs => (wipeE env vs).set v none
section
variable {K : PySem.W.Frag} {H : Hp} {ρ : Rh} {sto : Sto} {D : Addr} {o : HO}
theorem wipeE_ok {env : Env} {σ : L2.St} (h : REnv K H ρ env σ) : ∀ vs, REnv K H ρ (wipeE env vs) (wipe σ vs)
  | [] => h
  | v :: vs => by
    have ih := wipeE_ok h vs
    refine ⟨by show ((wipeE env vs).set v none).length = ((wipe σ vs).set v none).length; simp [ih.1], fun i p e => ?_⟩
    have e : ((wipeE env vs).set v none)[i]? = some (some p) := e
    show ∃ w, ((wipe σ vs).set v none)[i]? = some (some w) ∧ _
    by_cases hv : v = i
    · subst hv
      by_cases hl : v < (wipeE env vs).length
      · rw [List.getElem?_set_self hl] at e; cases e
      · rw [List.getElem?_eq_none_iff.mpr (by simpa using hl)] at e; cases e
    · rw [List.getElem?_set_ne hv] at e
      obtain ⟨w, k1, k2⟩ := ih.2 i p e
      exact ⟨w, by rw [List.getElem?_set_ne hv]; exact k1, k2⟩
theorem wipe_len (σ : L2.St) : ∀ vs, (wipe σ vs).length = σ.length
  | [] => rfl
  | v :: vs => by
    show ((wipe σ vs).set v none).length = σ.length
    rw [List.length_set]; exact wipe_len σ vs
theorem wipe_get (σ : L2.St) (j : Nat) : ∀ vs, (j ∉ vs → (wipe σ vs)[j]? = σ[j]?) ∧ (j ∈ vs → (wipe σ vs)[j]? = if j < σ.length then some none else none)
  | [] => ⟨fun _ => rfl, fun h => by cases h⟩
  | v :: vs => by
    have ih := wipe_get σ j vs
    constructor
    · intro h
      show ((wipe σ vs).set v none)[j]? = _
      rw [List.getElem?_set_ne fun q => h (by rw [q]; exact List.mem_cons_self)]
      exact ih.1 fun z => h (List.mem_cons_of_mem _ z)
    · intro h
      show ((wipe σ vs).set v none)[j]? = _
      by_cases hv : v = j
      · subst hv
        by_cases hl : v < σ.length
        · rw [List.getElem?_set_self (by rw [wipe_len]; exact hl), if_pos hl]
        · rw [if_neg hl]
          exact List.getElem?_eq_none_iff.mpr (by rw [List.length_set, wipe_len]; omega)
      · rw [List.getElem?_set_ne hv]
        rcases List.mem_cons.mp h with z | z
        · exact absurd z.symm hv
        · exact ih.2 z
theorem wipe_only {σ σ2 : L2.St} {sl vs : List Nat} (h : Only sl (wipe σ vs) σ2) (hs : ∀ j ∈ sl, j ∈ vs) : wipe σ2 vs = wipe σ vs := by
  have hl : σ2.length = σ.length := h.1.trans (wipe_len σ vs)
  apply List.ext_getElem?
  intro j
  by_cases hj : j ∈ vs
  · rw [(wipe_get σ2 j vs).2 hj, (wipe_get σ j vs).2 hj, hl]
  · rw [(wipe_get σ2 j vs).1 hj, (wipe_get σ j vs).1 hj, h.2 j fun z => hj (hs j z)]
    exact (wipe_get σ j vs).1 hj
end
section
variable {K : PySem.W.Frag} {H : Hp} {ρ : Rh} {sto : Sto} {D : Addr} {o : HO}
/-- a new object, reserved -/
theorem extR (hD : H D = none) : ExtW ρ H ⟨ρ.bx, D :: ρ.rs⟩ (upd H D o) :=
  ⟨⟨[], by simp, by simp⟩, ⟨fun a h => List.mem_cons_of_mem _ h, fun a h => (List.mem_cons.mp h).elim (fun q => .inr (by rw [q]; exact hD)) .inl⟩, fun a u h _ _ => by rw [upd_ne (ne_of_none h hD)]; exact h, fun a h => has_upd a h⟩
theorem RSt.res (S : RSt K H ρ sto) (hD : H D = none) : RSt K (upd H D o) ⟨ρ.bx, D :: ρ.rs⟩ sto :=
  ⟨S.nd, S.len, fun n a xs e1 e2 => let ⟨ys, h1, h2⟩ := S.at_ n a xs e1 e2; ⟨ys, by rw [upd_ne (ne_of_none h1 hD)]; exact h1, h2.mono (extR hD)⟩, fun a ha => by
    rcases List.mem_cons.mp ha with z | z
    · rw [z]; exact ⟨(by rw [upd_same]; exact fun q => nomatch q), S.fresh hD⟩
    · exact ⟨has_upd a (S.rsv a z).1, (S.rsv a z).2⟩⟩
/-- what is reserved is written -/
theorem extD (hm : D ∈ ρ.rs) : ExtW ρ H ρ (upd H D o) :=
  ⟨⟨[], by simp, by simp⟩, rs_refl, fun a u h _ n => by rw [upd_ne fun q => n (by rw [q]; exact hm)]; exact h, fun a h => has_upd a h⟩
theorem RSt.putD (S : RSt K H ρ sto) (hm : D ∈ ρ.rs) : RSt K (upd H D o) ρ sto :=
  ⟨S.nd, S.len, fun n a xs e1 e2 => let ⟨ys, h1, h2⟩ := S.at_ n a xs e1 e2; ⟨ys, by rw [upd_ne fun q => (S.rsv D hm).2 (by rw [← q]; exact List.mem_of_getElem? e1)]; exact h1, h2.mono (extD hm)⟩, fun a ha => ⟨has_upd a (S.rsv a ha).1, (S.rsv a ha).2⟩⟩
end
/-! a reservation becomes a list that may change -/
mutual
theorem RV.boxed {K : PySem.W.Frag} {H : Hp} {b r r' : List Addr} {D : Addr} (hD : D ∈ r) (e : ∀ a, a ∈ r' → a ∈ r) : ∀ {p : PV} {v : V}, RV K H ⟨b, r⟩ p v → RV K H ⟨b ++ [D], r'⟩ p v
  | .non, _, h => h
  | .bl _, _, h => h
  | .int _, _, h => h
  | .str _, _, h => h
  | .ty _, _, h => h
  | .obj _, _, h => h
  | .box n, _, h => by
    obtain ⟨a, h1, h2⟩ := h
    refine ⟨a, h1, ?_⟩
    show (b ++ [D])[n]? = some a
    rw [List.getElem?_append_left (List.getElem?_eq_some_iff.mp h2).1]
    exact h2
  | .tup xs, _, h => by
    obtain ⟨a, ys, h1, h2, h3⟩ := h
    exact ⟨a, ys, h1, h2.imp (fun q => ⟨q.1, fun z => (List.mem_append.mp z).elim q.2.1 fun z => q.2.2 (by rw [List.mem_singleton.mp z]; exact hD), fun z => q.2.2 (e _ z)⟩) id, RVs.boxed hD e h3⟩
  | .lst xs, _, h => by
    obtain ⟨a, ys, h1, q, h3⟩ := h
    exact ⟨a, ys, h1, ⟨q.1, fun z => (List.mem_append.mp z).elim q.2.1 fun z => q.2.2 (by rw [List.mem_singleton.mp z]; exact hD), fun z => q.2.2 (e _ z)⟩, RVs.boxed hD e h3⟩
  | .fro xs, _, h => by
    obtain ⟨a, ys, h1, h2, h3⟩ := h
    exact ⟨a, ys, h1, h2.imp (fun q => ⟨q.1, fun z => (List.mem_append.mp z).elim q.2.1 fun z => q.2.2 (by rw [List.mem_singleton.mp z]; exact hD), fun z => q.2.2 (e _ z)⟩) id, RVs.boxed hD e h3⟩
  | .exc C ns xs, _, h => by
    obtain ⟨a, ys, h1, h2, h3⟩ := h
    obtain ⟨q1, q2, C', hc, q3⟩ := h2
    refine ⟨a, ys, h1, ⟨fun z => (List.mem_append.mp z).elim q1 fun z => q2 (by rw [List.mem_singleton.mp z]; exact hD), fun z => q2 (e _ z), C', hc, ?_⟩, RVs.boxed hD e h3⟩
    rcases q3 with h | ⟨dx, dn, dm, h⟩
    · exact .inl h
    · exact .inr ⟨dx, fun z => (List.mem_append.mp z).elim dn fun z => dm (by rw [List.mem_singleton.mp z]; exact hD), fun z => dm (e _ z), h⟩
theorem RVs.boxed {K : PySem.W.Frag} {H : Hp} {b r r' : List Addr} {D : Addr} (hD : D ∈ r) (e : ∀ a, a ∈ r' → a ∈ r) : ∀ {p : List PV} {v : List V}, RVs K H ⟨b, r⟩ p v → RVs K H ⟨b ++ [D], r'⟩ p v
  | [], _, h => h
  | x :: xs, _, h => by
    obtain ⟨v, ws, h1, h2, h3⟩ := h
    exact ⟨v, ws, h1, RV.boxed hD e h2, RVs.boxed hD e h3⟩
end
def lcL (J : MIt) (g : MG) (tt : MT) (elt : M) (env : Env) : Nat → Nat → List PV → Sto → R (List PV)
  | 0, _, _, _ => .bad
  | n + 1, i, acc, s => match J i s with
    | none => .ok acc s
    | some v => ((g v env s).noex).bind fun env1 s1 => ((tt env1 s1).noex).bind fun c s2 => bif c then
        ((elt env1 s2).noex).bind fun y s3 => bif Nat.blt acc.length sizeLine then lcL J g tt elt env n (i + 1) (acc ++ [y]) s3 else .bad
      else lcL J g tt elt env n (i + 1) acc s2
def mLc (N : Nat) (fr : Bool) (mi : MI) (vs : List Nat) (g : MG) (tt : MT) (elt : M) : M := fun env s => (mi env s).bind fun J s1 =>
  ((lcL J g tt elt (wipeE env vs) N 0 [] s1).noex).bind fun acc s2 => fresh fr acc s2
def mYes : MT := fun _ s => .ok true s
section
variable {X : Cx} {W : WK} {elt tg iter c : Expr} {ifs : List Expr} {scope : Scope} {own : List (Str × Nat)} {pos : Pos} {mi : MI} {g : MG} {tt : MT} {me : M} {sl : List Nat}
theorem noex_post {α : Type} {K : PySem.W.Frag} {WP WP' : XK} {H : Hp} {ρ : Rh} {G : α → Sto → Hp → Rh → Prop} {r : R α} (h : Post K WP H ρ G r.noex) : Post K WP' H ρ G r := Post.unex h
theorem mTs_nil {X : Cx} {W : WK} : ∃ t, PTs X [] t ∧ ST X.K W t mYes := ⟨_, pts_nil, fun _ H ρ _ _ _ _ hS hP => hP H ρ .refl hS⟩
theorem noex_noex {α : Type} (r : R α) : r.noex.noex = r.noex := by cases r <;> rfl
theorem noex_bind {α β : Type} (r : R α) (f : α → Sto → R β) : (r.bind f).noex = r.noex.bind fun a s => (f a s).noex := by cases r <;> rfl
end
/-- what is wanted behind the turns of a comprehension, from its start on -/
def PL (K : PySem.W.Frag) (ρ1 : Rh) (H1 : Hp) (D : Addr) (Q : VK) : R (List PV) → Prop
  | .ok acc s => ∀ H' ρ' ys, ExtW ⟨ρ1.bx, D :: ρ1.rs⟩ (upd H1 D (.lst [])) ρ' H' → ρ'.rs = D :: ρ1.rs → RSt K H' ρ' s → RVs K H' ρ' acc ys → H' D = some (.lst ys) → (∀ a, a ∈ ρ1.rs → H' a = H1 a) → Q (.ref D) H'
  | .ex _ _ => False
  | .bad => False
section
variable {X : Cx} {W : WK} {elt tg iter c : Expr} {ifs : List Expr} {scope : Scope} {own : List (Str × Nat)} {pos : Pos} {mi : MI} {g : MG} {tt : MT} {me : M} {sl : List Nat}
theorem PL.bind {α : Type} {K : PySem.W.Frag} {ρ1 : Rh} {H1 : Hp} {D : Addr} {Q : VK} {f : α → Sto → R (List PV)} {WP : XK} {H : Hp} {ρ : Rh} : ∀ {r : R α}, PL K ρ1 H1 D Q (r.noex.bind f) → Post K WP H ρ (fun a s _ _ => PL K ρ1 H1 D Q (f a s)) r
  | .ok _ _, h => fun _ _ _ _ => h
  | .ex _ _, h => h.elim
  | .bad, h => h
/-- the reading of a comprehension -/
theorem lc_ok {K : PySem.W.Frag} {vs : List Nat} {wi : TI} {gt : TG} {ttt : TT} {te : TE} (N : Nat) (fr : Bool) (hi : SI K W wi mi) (hg : SG K WF gt g sl) (ht : ST K WF ttt tt) (he : SE K WF te me) (hs : ∀ j ∈ sl, j ∈ vs) : SE K W (tLc wi gt ttt te vs) (mLc N fr mi vs g tt me) := by
  intro σ H ρ env sto Q hE hS hP
  refine hi σ H ρ env sto _ hE hS ((hP.bind hS).imp fun J s1 H1 ρ1 x1 S1 P1 Jh hJ => ?_)
  intro D hD
  have ED : REnv K (upd H1 D (.lst [])) ⟨ρ1.bx, D :: ρ1.rs⟩ (wipeE env vs) (wipe σ vs) := (wipeE_ok (hE.mono x1.toExtW) vs).mono (extR hD)
  have SD : RSt K (upd H1 D (.lst [])) ⟨ρ1.bx, D :: ρ1.rs⟩ s1 := S1.res hD
  have hnD : D ∉ ρ1.bx := S1.fresh hD
  have hnR : D ∉ ρ1.rs := S1.freshR hD
  refine ⟨fun i n H => ∃ (ρ : Rh) (s : Sto) (acc : List PV) (ys : List V), ExtW ⟨ρ1.bx, D :: ρ1.rs⟩ (upd H1 D (.lst [])) ρ H ∧ ρ.rs = D :: ρ1.rs ∧ (∀ a, a ∈ ρ1.rs → H a = H1 a) ∧ RSt K H ρ s ∧ H D = some (.lst ys) ∧ RVs K H ρ acc ys ∧
    PL K ρ1 H1 D Q (lcL J g tt me (wipeE env vs) n i acc s), ⟨N, ⟨ρ1.bx, D :: ρ1.rs⟩, s1, [], [], Ext.refl.toExtW, rfl, fun a ha => upd_ne fun q => hnR (q ▸ ha), SD, upd_same, rfl, ?_⟩, ?_⟩
  · cases r : lcL J g tt me (wipeE env vs) N 0 [] s1 with
    | bad => rw [r] at P1; exact P1.elim
    | ex e s => rw [r] at P1; exact P1.elim
    | ok acc s2 =>
      rw [r] at P1
      have P1' : Post K (fun c d h => W c d σ h) H1 ρ1 (GV K Q) (fresh fr acc s2) := P1
      intro H' ρ' ys xw xr S rv hDy hr
      have hDr : D ∈ ρ'.rs := by rw [xr]; exact List.mem_cons_self
      have hDb : D ∉ ρ'.bx := (S.rsv D hDr).2
      have pre : ∃ r, ρ'.bx = ρ1.bx ++ r ∧ ∀ a ∈ r, H1 a = none := by
        obtain ⟨r, hr, hn⟩ := xw.pre
        refine ⟨r, hr, fun a ha => ?_⟩
        have := hn a ha
        by_cases q : a = D
        · rw [q]; exact hD
        · rw [upd_ne q] at this; exact this
      have keep : ∀ a o, H1 a = some o → a ∉ ρ1.bx → a ∉ ρ1.rs → H' a = some o := fun a o h n m => by
        have qa : a ≠ D := ne_of_none h hD
        exact xw.keep a o (by rw [upd_ne qa]; exact h) n fun z => (List.mem_cons.mp z).elim qa m
      have has : ∀ a, H1 a ≠ none → H' a ≠ none := fun a h => xw.has a (has_upd a h)
      have hres : ∀ a, a ∈ ρ1.rs → a ∉ ρ1.bx → H' a = H1 a := fun a ha _ => hr a ha
      have un : ∀ a, a ∈ ρ1.rs → a ∈ ρ'.rs := fun a ha => by rw [xr]; exact List.mem_cons_of_mem _ ha
      cases fr with
      | false =>
        have S' : RSt K H' ⟨ρ'.bx, ρ1.rs⟩ s2 := ⟨S.nd, S.len, fun n a xs e1 e2 => let ⟨us, h1, h2⟩ := S.at_ n a xs e1 e2; ⟨us, h1, RVs.unres (b := ρ'.bx) un h2⟩, fun a ha => S.rsv a (un a ha)⟩
        exact P1' H' ⟨ρ'.bx, ρ1.rs⟩ ⟨⟨pre, rs_refl, keep, has⟩, rfl, hres⟩ S' _ ⟨D, ys, rfl, ⟨hDy, hDb, hnR⟩, RVs.unres (b := ρ'.bx) un rv⟩
      | true =>
        obtain ⟨r, hr1, hn⟩ := pre
        have pre2 : ∃ r, ρ'.bx ++ [D] = ρ1.bx ++ r ∧ ∀ a ∈ r, H1 a = none := ⟨r ++ [D], by rw [hr1, List.append_assoc], fun a ha => by
          rcases List.mem_append.mp ha with z | z
          · exact hn a z
          · rw [List.mem_singleton.mp z]; exact hD⟩
        have mv : ∀ {p : List PV} {v : List V}, RVs K H' ρ' p v → RVs K H' ⟨ρ'.bx ++ [D], ρ1.rs⟩ p v := fun h => RVs.boxed (b := ρ'.bx) hDr un h
        have S2 : RSt K H' ⟨ρ'.bx ++ [D], ρ1.rs⟩ (s2 ++ [acc]) := by
          refine ⟨?_, by simp [S.len], fun n a zs e1 e2 => ?_, fun a ha => ⟨(S.rsv a (un a ha)).1, fun z => ?_⟩⟩
          · refine List.nodup_append.mpr ⟨S.nd, by simp, fun a ha b hb => ?_⟩
            rw [List.mem_singleton.mp hb]
            exact fun q => hDb (q ▸ ha)
          · by_cases hn : n < ρ'.bx.length
            · rw [List.getElem?_append_left hn] at e1
              rw [List.getElem?_append_left (S.len ▸ hn)] at e2
              obtain ⟨us, h1, h2⟩ := S.at_ n a zs e1 e2
              exact ⟨us, h1, mv h2⟩
            · have hn' : n = ρ'.bx.length := by
                have := (List.getElem?_eq_some_iff.mp e1).1
                simp at this; omega
              subst hn'
              simp at e1
              rw [S.len] at e2
              simp at e2
              subst e1; subst e2
              exact ⟨ys, hDy, mv rv⟩
          · rcases List.mem_append.mp z with z | z
            · exact (S.rsv a (un a ha)).2 z
            · exact hnR (by rw [← List.mem_singleton.mp z]; exact ha)
        exact P1' H' ⟨ρ'.bx ++ [D], ρ1.rs⟩ ⟨⟨pre2, rs_refl, keep, has⟩, rfl, hres⟩ S2 _ ⟨D, rfl, by rw [← S.len]; simp⟩
  · rintro i n H2 ⟨ρ2, s2, acc, ys, x2, xr2, hr2, S2, hDy, rv, P2⟩
    cases n with
    | zero => exact P2.elim
    | succ n =>
      have hDr : D ∈ ρ2.rs := by rw [xr2]; exact List.mem_cons_self
      have hj := hJ i H2 ρ2 s2 ((extR hD).trans x2) S2
      unfold lcL at P2
      cases e : J i s2 with
      | none =>
        rw [e] at hj P2
        exact .inl ⟨hj, P2 H2 ρ2 ys x2 xr2 S2 rv hDy hr2⟩
      | some v =>
        rw [e] at hj P2
        refine .inr ⟨hj.1, fun H => ∃ (ρ : Rh) (s : Sto) (acc : List PV) (ys : List V), ExtW ⟨ρ1.bx, D :: ρ1.rs⟩ (upd H1 D (.lst [])) ρ H ∧ ρ.rs = D :: ρ1.rs ∧ (∀ a, a ∈ ρ1.rs → H a = H1 a) ∧ RSt K H ρ s ∧ H D = some (.lst ys) ∧ RVs K H ρ acc ys ∧
          PL K ρ1 H1 D Q (lcL J g tt me (wipeE env vs) n (i + 1) acc s), fun H' h => ⟨n, Nat.lt_succ_self n, h⟩, fun x H' hy => ?_⟩
        obtain ⟨y1, y2, y3⟩ := hj.2 x H' hy
        have E2 : REnv K H' ρ2 (wipeE env vs) (wipe σ vs) := (ED.mono x2).mono y1.toExtW
        refine hg v x (wipe σ vs) H' ρ2 (wipeE env vs) s2 _ E2 y2 y3 ((PL.bind P2).imp fun env3 s3 H3 ρ3 x3 S3 P4 σ3 E3 O3 => ?_)
        refine ⟨wipe_only O3 hs, ?_⟩
        refine ht σ3 H3 ρ3 env3 s3 _ E3 S3 ((PL.bind P4).imp fun c s4 H4 ρ4 x4 S4 P5 => ?_)
        have xD4 : Ext ρ2 H2 ρ4 H4 := (y1.trans x3 S2.hh).trans x4 S2.hh
        have fin : ∀ {H5 : Hp} {ρ5 : Rh}, Ext ρ4 H4 ρ5 H5 → ExtW ⟨ρ1.bx, D :: ρ1.rs⟩ (upd H1 D (.lst [])) ρ5 H5 ∧ ρ5.rs = D :: ρ1.rs ∧ (∀ a, a ∈ ρ1.rs → H5 a = H1 a) ∧ H5 D = some (.lst ys) ∧ RVs K H5 ρ5 acc ys := fun x5 => by
          have xx := xD4.trans x5 S2.hh
          refine ⟨x2.trans xx.toExtW, xx.rse.trans xr2, fun a ha => ?_, ?_, rv.mono xx.toExtW⟩
          · have ha2 : a ∈ ρ2.rs := by rw [xr2]; exact List.mem_cons_of_mem _ ha
            exact (xx.res a ha2 (S2.rsv a ha2).2).trans (hr2 a ha)
          · exact (xx.res D hDr (S2.rsv D hDr).2).trans hDy
        cases c with
        | false =>
          obtain ⟨f1, f2, f3, f4, f5⟩ := fin .refl
          exact ⟨ρ4, s4, acc, ys, f1, f2, f3, S4, f4, f5, P5⟩
        | true =>
          refine he σ3 H4 ρ4 env3 s4 _ (E3.mono x4.toExtW) S4 ((PL.bind P5).imp fun y s5 H5 ρ5 x5 S5 P6 z hz => ?_)
          obtain ⟨f1, f2, f3, f4, f5⟩ := fin x5
          have f6 : D ∈ ρ5.rs := by rw [f2]; exact List.mem_cons_self
          cases q : Nat.blt acc.length sizeLine with
          | false => rw [q] at P6; exact P6.elim
          | true =>
            rw [q] at P6
            refine ⟨ys, f4, by rw [← f5.length]; exact Nat.le_of_ble_eq_true q, ?_⟩
            have xe := extD (H := H5) (o := .lst (ys ++ [z])) f6
            refine ⟨ρ5, s5, acc ++ [y], ys ++ [z], f1.trans xe, f2, fun a ha => ?_, S5.putD f6, upd_same, (f5.append (.cons hz .nil)).mono xe, P6⟩
            have na : a ≠ D := fun q => hnR (by rw [← q]; exact ha)
            rw [upd_ne na]; exact f3 a ha
/-- what holds in every block of this comprehension -/
abbrev InBlk (X : Cx) (scope : Scope) (P : Cx → Prop) : Prop := ∀ (s : Shared) (H : Hp) (C : Addr) (cl : List (Str × Addr)) (fp : List Addr), P (X.blk s H scope (compEnvC scope cl C X.env) fp)
def cG (K : PySem.W.Frag) (m : MG) (sl : List Nat) : TG := fun x σ H Q => ∃ v ρ env sto, REnv K H ρ env σ ∧ RSt K H ρ sto ∧ RV K H ρ v x ∧ Post K (fun _ _ _ => False) H ρ (fun env1 _ H' ρ' => ∀ σ', REnv K H' ρ' env1 σ' → Only sl σ σ' → Q σ' H') (m v env sto)
theorem MGt.can (h : MGt X W tg g sl) : PG X tg (cG X.K g sl) := by
  obtain ⟨t, p, s⟩ := h
  exact ⟨fun pins st σ H x u Q I r ⟨v, ρ, env, sto, h1, h2, h3, h4⟩ => p.run pins st σ H x u Q I r (s v x σ H ρ env sto Q h1 h2 h3 h4)⟩
theorem sg_can {K : PySem.W.Frag} : SG K W (cG K g sl) g sl := fun v x σ H ρ env sto Q h1 h2 h3 h4 => ⟨v, ρ, env, sto, h1, h2, h3, h4⟩
def MTs (X : Cx) (W : WK) (ifs : List Expr) (m : MT) : Prop := PTs X ifs (cT X.K W m)
theorem ts_nil : MTs X W [] mYes := ⟨fun pins st σ H Q I ⟨ρ, env, sto, h1, h2, h3⟩ => pts_nil.run pins st σ H Q I (h3 H ρ .refl h2)⟩
theorem ts_one {e : Expr} (h : MTe X W e tt) : MTs X W [e] tt := pts_one h.can
theorem e_lc (N : Nat) (fr : Bool) (hc : X.calm = true) (hN : X.N.Nodup) (ok : BlkOk X.N X.env.scope scope own) (hs : ∀ j ∈ sl, j ∈ own.map (·.2)) (hi : MIr X W tg iter mi)
    (hg : InBlk X scope fun Y => MGt Y WF tg g sl) (ht : InBlk X scope fun Y => MTs Y WF ifs tt) (he : InBlk X scope fun Y => ME Y WF elt me)
    (hf : ∀ x, foldedSetIterable iter X.env x = pure x := by intro _; rfl) : ME X W (.ListComp elt [⟨tg, iter, ifs, 0⟩] scope pos) (mLc N fr mi (own.map (·.2)) g tt me) := by
  obtain ⟨t, q, s⟩ := hi
  exact ⟨_, pe_lc (g := cG X.K g sl) (tt := cT X.K WF tt) (te := cE X.K WF me) hc hN q ok (fun s H C cl fp => (hg s H C cl fp).can) (fun s H C cl fp => ht s H C cl fp) (fun s H C cl fp => (he s H C cl fp).can) hf, lc_ok N fr s sg_can st_can se_can hs⟩
/-- x = [..] -/
theorem s_lc {i : Nat} {y : Str} {py : Pos} {spos : Pos} (N : Nat) (fr : Bool) (hc : X.calm = true) (hN : X.N.Nodup) (hy : X.N[i]? = some y) (hyl : X.env.scope.names.lookup y = some .local)
    (hsw : swapsWith (.ListComp elt [⟨tg, iter, ifs, 0⟩] scope pos) (some (.Name y py)) spos.line X.env = pure true) (ok : BlkOk X.N X.env.scope scope own) (hs : ∀ j ∈ sl, j ∈ own.map (·.2)) (hi : MIr X W tg iter mi)
    (hg : InBlk X scope fun Y => MGt Y WF tg g sl) (ht : InBlk X scope fun Y => MTs Y WF ifs tt) (he : InBlk X scope fun Y => ME Y WF elt me)
    (hf : ∀ x, foldedSetIterable iter X.env x = pure x := by intro _; rfl) : MSt X W (.Assign [.Name y py] (.ListComp elt [⟨tg, iter, ifs, 0⟩] scope pos) spos) (sAsg (mLc N fr mi (own.map (·.2)) g tt me) (gNm i)) := by
  obtain ⟨t, q, s⟩ := hi
  refine ⟨_, ps_setLc (g := cG X.K g sl) (tt := cT X.K WF tt) (te := cE X.K WF me) hc hN hy hyl hsw q ok (fun s H C cl fp => (hg s H C cl fp).can) (fun s H C cl fp => ht s H C cl fp) (fun s H C cl fp => (he s H C cl fp).can) hf, fun D σ H ρ env sto h1 h2 h3 => ?_⟩
  refine lc_ok N fr s sg_can st_can se_can hs σ H ρ env sto _ h1 h2 ((FPost.bind h1 h2 h3).imp fun v s1 H1 ρ1 x1 S1 P1 => ?_)
  intro y hy
  exact P1 _ H1 ρ1 .refl S1 ((h1.mono x1.toExtW).set i hy)
end
end Mi

namespace Mi
open PySem PySem.Spec PyProof.Rows L2

/-! ### defs: what they promise -/
def spF (K : PySem.W.Frag) (n : Nat) (run : GC) : Sp := fun vs H Q E => vs.length = n ∧ ∃ (args : List PV) (ρ : Rh) (sto : Sto), RVs K H ρ args vs ∧ RSt K H ρ sto ∧ Post K E H ρ (GV K Q) (run args sto)
abbrev FOk (P : Program) (w : World) (K : PySem.W.Frag) (mg : Str → Option Value) (base : Heap) (k : Nat) (f : Addr) (fd : FuncData) (ps : List Str) (run : GC) : Prop :=
  FnOk P w K mg base (L2.CX P w) k f fd ps (spF K ps.length run)
def start' (n : Nat) (args : List PV) : Env := args.map some ++ List.replicate n none
def ret : Fl → R PV
  | .rt v s => .ok v s
  | .nx _ s => .ok .non s
  | .ex e _ s => .ex e s
  | _ => .bad
/-- m: how many names besides the parameters -/
def runB (m : Nat) (body : MS) : GC := fun args s => ret (body (start' m args) s)
section
variable {K : PySem.W.Frag} {H : Hp} {ρ : Rh} {sto : Sto}
theorem start_ok {N : List Str} {args : List PV} {vs : List V} {m : Nat} (r : RVs K H ρ args vs) (hm : N.length - vs.length = m) : REnv K H ρ (start' m args) (L2.start N vs) := by
  unfold start' L2.start
  rw [hm]
  refine ⟨by simp [r.length], fun i p e => ?_⟩
  by_cases hi : i < args.length
  · rw [List.getElem?_append_left (by simpa using hi), List.getElem?_map] at e
    cases q : args[i]? with
    | none => rw [q] at e; cases e
    | some x =>
      rw [q] at e
      cases e
      obtain ⟨y, h1, h2⟩ := r.get q
      refine ⟨y, ?_, h2⟩
      rw [List.getElem?_append_left (by rw [List.length_map, ← r.length]; exact hi), List.getElem?_map, h1]
      rfl
  · rw [List.getElem?_append_right (by simpa using Nat.le_of_not_lt hi)] at e
    rw [List.getElem?_replicate] at e
    split at e <;> cases e
end
section
variable {P : Program} {w : World} {K : PySem.W.Frag} {mg : Str → Option Value} {base : Heap} {k : Nat} {f : Addr} {fd : FuncData} {ps N : List Str} {x qual : Str} {st : Stmt}
theorem fn_bad : FOk P w K mg base k f fd ps (fun _ _ => .bad) :=
  ⟨fun _ _ _ _ h => h.1, fun _ _ _ _ _ _ _ _ _ _ _ _ _ h => let ⟨_, _, _, _, _, _, z⟩ := h; z.elim⟩
theorem fn_ok {body : MS} (m : Nat) (F : Fun K x qual st f fd) (S : FnScope N ps (defScope st)) (hm : N.length - ps.length = m)
    (hb : ∀ (cdv : Value) (A : Around) (outer : List PySem.Env) (s : Shared) (H : Hp) (E : XK), Room k (A.deeper (envOfC qual (defScope st) s.heap.objs.size f cdv)) →
      MSs (cxOf (L2.CX P w) P w K mg base N qual (defScope st) f cdv A outer s H E) (fun cls d _ H => E cls d H) (defBody st) body) :
    FOk P w K mg base (k + 1) f fd ps (runB m body) := by
  refine F.okX S (fun _ _ _ _ h => h.1) fun cdv A outer s H vs Q E hr h => ?_
  obtain ⟨hl, args, ρ, sto, r, St, P⟩ := h
  obtain ⟨t, p, z⟩ := hb cdv A outer s H E hr
  refine ⟨t, p, z _ (L2.start N vs) H ρ (start' m args) sto (start_ok r (by rw [hl]; exact hm)) St ?_⟩
  unfold runB at P
  cases q : body (start' m args) sto with
  | nx env s => rw [q] at P; exact fun σ' H' ρ' x S' _ => P H' ρ' x S' _ rfl
  | rt v s => rw [q] at P; exact fun y H' ρ' x S' hy => P H' ρ' x S' y hy
  | bk env s => rw [q] at P; exact P.elim
  | ct env s => rw [q] at P; exact P.elim
  | ex e env s => rw [q] at P; exact fun cls d σ' H' ρ' x S' _ hx => P cls d H' ρ' x S' hx
  | bad => rw [q] at P; exact P.elim
theorem FOk.mono {run : GC} {j : Nat} (h : FOk P w K mg base j f fd ps run) (hk : j ≤ k) : FOk P w K mg base k f fd ps run := FnOk.mono h hk
end

/-! ### calls of the text's own defs -/
section
variable {X : Cx} {W : WK} {k : Nat} {f : Addr} {fd : FuncData} {ps : List Str} {run : GC} {x : Str} {e : Expr} {es : List Expr} {ms mk : MA} {p pos kpos : Pos}
theorem sp_now {t : TA} (n : Nat) (hn : ∀ args s r, run args s = r → r ≠ .bad → args.length = n) (s : SA X.K W t ms) : SE X.K W (fun σ H Q => t σ H fun vs H1 => spF X.K n run vs H1 Q (WE W σ)) (mCall run ms) := by
  intro σ H ρ env sto Q hE hS hP
  refine s σ H ρ env sto _ hE hS ((hP.bind hS).imp fun v s1 H1 ρ1 x1 S1 P1 ys hys => ?_)
  refine ⟨?_, v, ρ1, s1, hys, S1, P1⟩
  rw [← hys.length]
  refine hn v s1 _ rfl fun q => ?_
  rw [q] at P1
  exact P1.elim
/-- a meaning that takes n arguments -/
def Ar (n : Nat) (run : GC) : Prop := ∀ args s r, run args s = r → r ≠ .bad → args.length = n
def ar (n : Nat) (run : GC) : GC := fun args s => bif Nat.beq args.length n then run args s else .bad
theorem ar_ok (n : Nat) (run : GC) : Ar n (ar n run) := fun args s r h hb => by
  unfold ar at h
  cases q : Nat.beq args.length n with
  | true => exact Nat.eq_of_beq_eq_true q
  | false => rw [q] at h; exact absurd h.symm hb
theorem e_call (F : FOk X.prog X.w X.K X.mg X.base k f fd ps run) (hr : Room k X.A) (tk : Takes X W) (hg : Gl X x) (hm : X.mg x = some (.ref f)) (hk : PySem.W.keepIn X.K (.ref f) = true) (hb : Binds X.K fd ps []) (ha : MEs X W (e :: es) ms)
    {n : Nat} (hn : ps.length = n := by rfl) (hdb : (x == ("__debug__" : Str)) = false := by decide) (he : starEach (e :: es) X.env = (false, eval e X.env) :: starEach es X.env := by rfl) (hpl : (backTo pos (starEach es X.env)).any (·.1) = false := by rfl) :
    ME X W (.Call (.Name x p) (e :: es) [] pos) (mCall (ar n run) ms) := by
  subst hn
  obtain ⟨t, q, s⟩ := ha
  refine ⟨_, pe_callS F hr hg hm hk hb (fun σ => passAt tk σ) q hdb he hpl, fun σ H ρ env sto Q hE hS hP => ?_⟩
  refine s σ H ρ env sto _ hE hS ((hP.bind hS).imp fun v s1 H1 ρ1 x1 S1 P1 ys hys => ?_)
  unfold ar at P1
  cases q : Nat.beq v.length ps.length with
  | false => rw [q] at P1; exact P1.elim
  | true =>
    rw [q] at P1
    exact ⟨by rw [← hys.length]; exact Nat.eq_of_beq_eq_true q, v, ρ1, s1, hys, S1, P1⟩
theorem e_call0 (F : FOk X.prog X.w X.K X.mg X.base k f fd [] run) (hr : Room k X.A) (tk : Takes X W) (hg : Gl X x) (hm : X.mg x = some (.ref f)) (hk : PySem.W.keepIn X.K (.ref f) = true) (hb : Binds X.K fd [] [])
    (hdb : (x == ("__debug__" : Str)) = false := by decide) : ME X W (.Call (.Name x p) [] [] pos) (fun _ s => run [] s) := by
  refine ⟨fun σ H Q => spF X.K 0 run [] H Q (WE W σ), ⟨fun pins s σ H Q I h => ?_⟩, fun σ H ρ env sto Q hE hS hP => ⟨rfl, [], ρ, sto, rfl, hS, hP⟩⟩
  refine wpAny_Call_Name_kw (ld_glob I hg hm ?_ hdb)
  exact PySem.W.callWith_K0 I.kIn hk (run_fnS (E := WE W) (us := []) (vs := []) F hr hb (passAt tk σ) I .nil h)
/-- keywords: how the values go to the parameters, g; in PV likewise -/
structure KB (K : PySem.W.Frag) (fd : FuncData) (ps ks : List Str) (g : List Value → List Value → List Value) (gV : List V → List V → List V) (gP : List PV → List PV → List PV) : Prop extends KBinds K fd ps ks g gV where
  relP : ∀ {H : Hp} {ρ : Rh} {vs zs : List PV} {us ws : List V}, RVs K H ρ vs us → RVs K H ρ zs ws → RVs K H ρ (gP vs zs) (gV us ws)
def MKs (X : Cx) (W : WK) (kws : List Keyword) (m : MA) : Prop := ∃ t, PK X kws t ∧ SA X.K W t m
theorem k_nil : MKs X W [] mNil := ⟨_, pk_nil, fun _ H ρ _ _ _ _ hS hP => hP H ρ .refl hS _ rfl⟩
theorem k_cons {nm : Option Str} {kws : List Keyword} {m : M} {mk : MA} (h1 : ME X W e m) (h2 : MKs X W kws mk) : MKs X W (⟨nm, e, kpos⟩ :: kws) (mCons m mk) := by
  obtain ⟨t, p, s⟩ := h1
  obtain ⟨u, q, r⟩ := h2
  refine ⟨_, pk_cons p q, fun σ H ρ env sto Q hE hS hP => ?_⟩
  refine s σ H ρ env sto _ hE hS ((hP.bind hS).imp fun v s1 H1 ρ1 x1 S1 P1 y hy => ?_)
  refine r σ H1 ρ1 env s1 _ (hE.mono x1.toExtW) S1 ((P1.bind S1).imp fun vs s2 H2 ρ2 x2 S2 P2 ys hys => ?_)
  exact P2 H2 ρ2 .refl S2 _ (.cons (hy.mono x2.toExtW) hys)
def mCallK (gP : List PV → List PV → List PV) (n : Nat) (run : GC) (ms mk : MA) : M := fun env s => (ms env s).bind fun vs s1 => (mk env s1).bind fun zs s2 => ar n run (gP vs zs) s2
theorem run_kw {ks : List Str} {g : List Value → List Value → List Value} {gV : List V → List V → List V} {gP : List PV → List PV → List PV} {pins : List (Addr × Obj)} {σ : L2.St} {H : Hp} {s : Shared} {Q : VK} {us ws : List Value} {vs zs : List V}
    (F : FOk X.prog X.w X.K X.mg X.base k f fd ps run) (hr : Room k X.A) (tk : Takes X W) (hb : KB X.K fd ps ks g gV gP)
    (I : Inv X pins σ H s) (r : Vals vs us) (rz : Vals zs ws) (h : spF X.K ps.length run (gV vs zs) H Q (WE W σ)) : wpAny (model X.prog X.w) X.A (call (.ref f) us (ks.zip ws)) (EP X pins σ Q) X.xe s := by
  have r2 := hb.rel r rz
  have hl : (g us ws).length = ps.length := by rw [← r2.length]; exact F.len _ _ _ _ h
  have c := F.run X.A X.stack s H ⟨us, ks.zip ws⟩ (g us ws) (gV vs zs) Q (WE W σ) hr I.env0 (hb.to s us ws I.kIn hl) r2 h
  refine wpAny_call (codeAny_mono c fun r s' hq => ?_)
  match r, hq with
  | .error e, hq => exact passAt tk σ pins H s e s' I hq
  | .ok (.ret u), hq => exact I.after hq
  | .ok .next, hq => exact hq.elim
  | .ok .brk, hq => exact hq.elim
  | .ok .cont, hq => exact hq.elim
theorem e_callK {ks : List Str} {g : List Value → List Value → List Value} {gV : List V → List V → List V} {gP : List PV → List PV → List PV} {kws : List Keyword}
    (F : FOk X.prog X.w X.K X.mg X.base k f fd ps run) (hr : Room k X.A) (tk : Takes X W) (hg : Gl X x) (hm : X.mg x = some (.ref f)) (hk : PySem.W.keepIn X.K (.ref f) = true) (hb : KB X.K fd ps ks g gV gP)
    (ha : MEs X W (e :: es) ms) (hkw : MKs X W kws mk) {n : Nat} (hn : ps.length = n := by rfl) (hall : (backToKw pos (keywordEach kws X.env)).all (·.1.isSome) = true := by rfl) (hks : (backToKw pos (keywordEach kws X.env)).filterMap (·.1) = ks := by rfl)
    (hdb : (x == ("__debug__" : Str)) = false := by decide) (he : starEach (e :: es) X.env = (false, eval e X.env) :: starEach es X.env := by rfl)
    (hpl : ((backTo pos (starEach (e :: es) X.env)).any (·.1) || (backToKw pos (keywordEach kws X.env)).any (·.1.isNone)) = false := by rfl) :
    ME X W (.Call (.Name x p) (e :: es) kws pos) (mCallK gP n run ms mk) := by
  subst hn
  obtain ⟨t, q, s⟩ := ha
  obtain ⟨u, qk, sk⟩ := hkw
  refine ⟨fun σ H Q => t σ H fun vs H1 => u σ H1 fun zs H2 => spF X.K ps.length run (gV vs zs) H2 Q (WE W σ), ⟨fun pins st σ H Q I h => ?_⟩, fun σ H ρ env sto Q hE hS hP => ?_⟩
  · refine wpAny_Call_Name_kw (ld_glob I hg hm ?_ hdb)
    refine PySem.W.callWith_KW (h₀ := X.base) I.ok.mod.kin hk hall (thn (q.run pos pins st σ H _ I h) fun us s1 ⟨vs, H1, I1, r, q1⟩ => ?_) hpl he
    refine thn (qk.run pos pins s1 σ H1 _ I1 q1) fun ws s2 ⟨zs, H2, I2, rz, q2⟩ => ⟨I2.kIn, ?_⟩
    rw [hks]
    exact run_kw F hr tk hb I2 r rz q2
  · refine s σ H ρ env sto _ hE hS ((hP.bind hS).imp fun v s1 H1 ρ1 x1 S1 P1 ys hys => ?_)
    refine sk σ H1 ρ1 env s1 _ (hE.mono x1.toExtW) S1 ((P1.bind S1).imp fun z s2 H2 ρ2 x2 S2 P2 us hus => ?_)
    have rr := hb.relP (hys.mono x2.toExtW) hus
    unfold ar at P2
    cases q : Nat.beq (gP v z).length ps.length with
    | false => rw [q] at P2; exact P2.elim
    | true =>
      rw [q] at P2
      exact ⟨by rw [← rr.length]; exact Nat.eq_of_beq_eq_true q, _, ρ2, s2, rr, S2, P2⟩
end
end Mi

namespace Mi
open PySem PySem.Spec PyProof.Rows L2
section
variable {X : Cx} {W : WK}
/-- the name that stands in the i-th slot -/
theorem e_v (i : Nat) {x : Str} {pos : Pos} (hN : X.N[i]? = some x := by rfl) (hv : Vis X.env.scope x := by first | exact Or.inl rfl | exact Or.inr (Or.inl rfl) | exact Or.inr (Or.inr rfl)) (hd : (x == ("__debug__" : Str)) = false := by decide)
    (hcd : (x == ("__classdict__" : Str)) = false := by decide) : ME X W (.Name x pos) (mVar i) := e_var hN hv hd hcd
theorem gl_of {x : Str} (h : X.env.kindOf x = some .globalImplicit) : Gl X x := h
end
/-! math.lcm -/
def okL (a b : Int) : Bool := Nat.blt (max 1 a.natAbs).log2 13000 && Nat.blt (max a.natAbs b.natAbs).log2 13000
def gLcm : GC := fun xs s => match xs with
  | [.int a, .int b] => bif okL a b then .ok (.int ((Nat.lcm a.natAbs b.natAbs : Nat) : Int)) s else .bad
  | _ => .bad
def rLcm : List V → Hp → VK → Prop := fun vs H Q => ∃ a b : Int, vs = [.int a, .int b] ∧ okL a b = true ∧ Q (.int ((Nat.lcm a.natAbs b.natAbs : Nat) : Int)) H
theorem log2_mono' {a b : Nat} (h : a ≤ b) : a.log2 ≤ b.log2 := by
  by_cases h0 : a = 0
  · subst h0; simp
  · exact (Nat.le_log2 (by omega)).mpr (Nat.le_trans (Nat.log2_self_le h0) h)
theorem lcm_log {a b : Nat} (ha : a.log2 < 13000) (hb : b.log2 < 13000) : (Nat.lcm a b).log2 < 26002 := by
  by_cases h0 : Nat.lcm a b = 0
  · rw [h0]; simp
  · have h1 : Nat.lcm a b ≤ a * b := Nat.le_of_dvd (Nat.pos_of_ne_zero fun e => by
      rcases Nat.mul_eq_zero.mp e with z | z
      · rw [z, Nat.lcm_zero_left] at h0; exact h0 rfl
      · rw [z, Nat.lcm_zero_right] at h0; exact h0 rfl) (Nat.lcm_dvd_mul a b)
    have h2 : a < 2 ^ 13000 := by
      by_cases z : a = 0
      · rw [z]; exact Nat.two_pow_pos _
      · exact (Nat.log2_lt z).mp ha
    have h3 : b < 2 ^ 13000 := by
      by_cases z : b = 0
      · rw [z]; exact Nat.two_pow_pos _
      · exact (Nat.log2_lt z).mp hb
    refine (Nat.log2_lt h0).mpr (Nat.lt_of_le_of_lt h1 (Nat.lt_of_lt_of_le (Nat.mul_lt_mul'' h2 h3) ?_))
    rw [← Nat.pow_add]
    exact Nat.pow_le_pow_right (by decide) (by decide)
theorem cr_lcm {X : Cx} : CallR X (.builtin "math.lcm") rLcm := by
  intro pins s σ H vs us Q I r h
  obtain ⟨a, b, rfl, hq, q⟩ := h
  obtain ⟨t, u, rfl⟩ := Vals.int2 r
  unfold okL at hq
  rw [Bool.and_eq_true] at hq
  have h1 : (max 1 a.natAbs).log2 < 13000 := Nat.le_of_ble_eq_true hq.1
  have h2 : (max a.natAbs b.natAbs).log2 < 13000 := Nat.le_of_ble_eq_true hq.2
  have e : (Nat.lcm 1 a.natAbs).lcm b.natAbs = Nat.lcm a.natAbs b.natAbs := by rw [Nat.lcm_one_left]
  have ha : a.natAbs.log2 < 13000 := Nat.lt_of_le_of_lt (log2_mono' (Nat.le_max_left _ _)) h2
  have hb : b.natAbs.log2 < 13000 := Nat.lt_of_le_of_lt (log2_mono' (Nat.le_max_right _ _)) h2
  have hz : ((((Nat.lcm 1 a.natAbs).lcm b.natAbs : Nat) : Int)).natAbs.log2 < bitsLine := by
    rw [e, Int.natAbs_natCast]
    exact Nat.lt_of_lt_of_le (lcm_log ha hb) (by decide)
  have g := PySem.W.mg_run_lcm a t b u (by omega) (by omega) hz
  rw [e] at g
  exact call_function_meets PySem.W.MGF.kind_lcm PySem.W.MGF.plain_lcm PySem.W.MGF.entry_lcm (PySem.W.MGF.args_lcm _ _) g.meets ⟨.int _, H, I.tok _, ⟨_, rfl⟩, q⟩
theorem g_lcm {K : PySem.W.Frag} : SRc K rLcm gLcm := by
  intro WP H ρ sto xs vs Q S r P
  unfold gLcm at P
  split at P
  · obtain ⟨v, u, rfl, h1, h2⟩ := r.two
    cases h1; cases h2
    obtain ⟨hq, P⟩ := and_of (C := Post K WP H ρ (GV K Q)) P (fun z => z)
    exact ⟨_, _, rfl, hq, now S P rfl⟩
  · exact P.elim
section
variable {X : Cx} {W : WK} {e tg : Expr} {es : List Expr} {ms : MA} {m : M} {p pos : Pos}
theorem e_lcm (gl : Gl X "lcm") (hm : X.mg "lcm" = some (.builtin "math.lcm")) (ha : MEs X W (e :: es) ms) (he : starEach (e :: es) X.env = (false, eval e X.env) :: starEach es X.env := by rfl) (hpl : (backTo pos (starEach es X.env)).any (·.1) = false := by rfl) :
    ME X W (.Call (.Name "lcm" p) (e :: es) [] pos) (mCall gLcm ms) := e_callBf cr_lcm g_lcm gl hm ha (by decide) he hpl
/-- a list or a tuple is walked -/
def itAny (s : Sto) : PV → Option MIt
  | .tup xs => some fun i _ => xs[i]?
  | v => itOf s v
def iAny (m : M) : MI := fun env s => (m env s).bind fun v s1 => match itAny s1 v with
  | some J => .ok J s1
  | none => .bad
theorem i_any (h : ME X W e m) : MIr X W tg e (iAny m) := by
  obtain ⟨t, q, s⟩ := h
  refine ⟨fun σ H R => L2.iList X.K t σ H R ∨ L2.iTup X.K t σ H R, ⟨fun pins st σ H R I h => h.elim (fun h => (pi_list q).run pins st σ H R I h) fun h => (pi_tup q).run pins st σ H R I h⟩, ?_⟩
  intro σ H ρ env sto Rk hE hS hP
  unfold iAny at hP
  cases r : m env sto with
  | bad => rw [r] at hP; exact hP.elim
  | ex x s1 =>
    rw [r] at hP
    exact .inl (s σ H ρ env sto _ hE hS (by rw [r]; exact hP))
  | ok v s1 =>
    rw [r] at hP
    have hP : Post X.K (fun c d h => W c d σ h) H ρ (fun J _ H' ρ' => ∀ Jh, ItOk X.K H' ρ' Jh J → Rk Jh H') (match itAny s1 v with
      | some J => .ok J s1
      | none => .bad) := hP
    cases k : itAny s1 v with
    | none => rw [k] at hP; exact hP.elim
    | some J =>
      rw [k] at hP
      have lst : itOf s1 v = some J → L2.iList X.K t σ H Rk := fun k => by
        refine s σ H ρ env sto _ hE hS ?_
        rw [r]
        intro H' ρ' x S y hy
        obtain ⟨a, ys, rfl, h1, h2⟩ := itOf_ok S hy k
        exact ⟨a, rfl, ⟨ys, h1⟩, hP H' ρ' x S _ (itl_ok h2)⟩
      cases v with
      | tup xs =>
        cases k
        refine .inr (s σ H ρ env sto _ hE hS ?_)
        rw [r]
        intro H' ρ' x S y hy
        obtain ⟨a, ys, rfl, h1, h2⟩ := hy
        exact ⟨a, rfl, ⟨ys, h1.sq⟩, hP H' ρ' x S _ (itt_ok h1 h2)⟩
      | _ => exact .inl (lst k)
/-- e_lc, s_lc with the slots told ahead -/
theorem e_lcv {elt tg iter : Expr} {ifs : List Expr} {scope : Scope} {own : List (Str × Nat)} {pos : Pos} {mi : MI} {g : MG} {tt : MT} {me : M} {sl : List Nat} (N : Nat) (fr : Bool) (vs : List Nat) (hc : X.calm = true) (hN : X.N.Nodup) (ok : BlkOk X.N X.env.scope scope own) (hs : ∀ j ∈ sl, j ∈ vs) (hi : MIr X W tg iter mi)
    (hg : InBlk X scope fun Y => MGt Y WF tg g sl) (ht : InBlk X scope fun Y => MTs Y WF ifs tt) (he : InBlk X scope fun Y => ME Y WF elt me) (hv : own.map (·.2) = vs := by rfl)
    (hf : ∀ x, foldedSetIterable iter X.env x = pure x := by intro _; rfl) : ME X W (.ListComp elt [⟨tg, iter, ifs, 0⟩] scope pos) (mLc N fr mi vs g tt me) := by
  subst hv
  exact e_lc N fr hc hN ok hs hi hg ht he hf
theorem s_lcv {elt tg iter : Expr} {ifs : List Expr} {scope : Scope} {own : List (Str × Nat)} {pos : Pos} {mi : MI} {g : MG} {tt : MT} {me : M} {sl : List Nat} {i : Nat} {y : Str} {py : Pos} {spos : Pos} (N : Nat) (fr : Bool) (vs : List Nat) (hc : X.calm = true) (hN : X.N.Nodup) (hy : X.N[i]? = some y) (hyl : X.env.scope.names.lookup y = some .local)
    (hsw : swapsWith (.ListComp elt [⟨tg, iter, ifs, 0⟩] scope pos) (some (.Name y py)) spos.line X.env = pure true) (ok : BlkOk X.N X.env.scope scope own) (hs : ∀ j ∈ sl, j ∈ vs) (hi : MIr X W tg iter mi)
    (hg : InBlk X scope fun Y => MGt Y WF tg g sl) (ht : InBlk X scope fun Y => MTs Y WF ifs tt) (he : InBlk X scope fun Y => ME Y WF elt me) (hv : own.map (·.2) = vs := by rfl)
    (hf : ∀ x, foldedSetIterable iter X.env x = pure x := by intro _; rfl) : MSt X W (.Assign [.Name y py] (.ListComp elt [⟨tg, iter, ifs, 0⟩] scope pos) spos) (sAsg (mLc N fr mi vs g tt me) (gNm i)) := by
  subst hv
  exact s_lc N fr hc hN hy hyl hsw ok hs hi hg ht he hf
end
end Mi

namespace PySem
namespace MiX
open Builtin Builtin.ObjectAttr
section
variable {prog : Program} {w : World} {A : Around} {E : Value → Shared → Prop} {h : Heap} {g : Array GenState} {d : Drawn} {t : Nat} {os : OsState} {C : Addr} {B newId initId : String} {bm bc : List Value}
variable {nm qn : Str} {N : Addr} {bs : List Value} {hdct : Bool} {sn : List Str} {sub : List Value} {ab : Bool} {col : Option Bool} {dd : Option Addr} {k0 k1 k2 k3 k5 : Option Value}
theorem knew_chk {M : Model} (F : ExcBaseFacts B newId initId bm) (hT : ∀ Y : String, bc.contains (.type Y) = bm.contains (.type Y)) {kw : List (Str × Value)} {Q : Unit → Shared → Prop}
    (hC : h.get? C = some (excClassObj nm qn C N bs bc hdct sn sub ab col dd k0 k1 k2 k3 k5 newId)) (q : Q () ⟨h, g, d, t, os⟩) : wpAny M A (checkBuiltinCall newId ⟨[.ref C], kw⟩) Q E ⟨h, g, d, t, os⟩ := by
  have c1 : (Value.ref C :: bc).contains (.type B) = true := by rw [List.contains_cons, hT, F.hasB, Bool.or_true]
  have c2 := F.noStar
  simp only [checkBuiltinCall, F.newKind, F.newSplit, F.newRow]
  repeat (first | refine wpAny_loadPart_at hC ?_ | (refine wpAny_isSubtype_exc hC ?_; rw [c1]) | refine wpAny_staticBase_exc hC ?_ | refine wpAny_madeBy_exc hC ?_ | simp only [bne_self_eq_false, Bool.false_eq_true, if_false] | wp_step)
  exact q
theorem knew (F : ExcBaseFacts B newId initId bm) (hT : ∀ Y : String, bc.contains (.type Y) = bm.contains (.type Y)) {kw : List (Str × Value)} {R : Result → Shared → Prop}
    (hC : h.get? C = some (excClassObj nm qn C N bs bc hdct sn sub ab col dd k0 k1 k2 k3 k5 newId))
    (q : R (.ok (.ret (.ref (h.objs.size + 1)))) ⟨(h.push (PySem.W.kdv_tup [])).push (PySem.HandSPX.excO C h.objs.size), g, d, t, os⟩) :
    codeAny (model prog w) A (.builtin newId ⟨[.ref C], kw⟩) R ⟨h, g, d, t, os⟩ := by
  have c0 := F.ends
  have c1 : (Value.ref C :: bc).contains (.type B) = true := by rw [List.contains_cons, hT, F.hasB, Bool.or_true]
  have c2 : (Value.ref C :: bc).contains (.type "AttributeError") = false := by rw [List.contains_cons, hT, F.noAttr]; rfl
  have c3 : (Value.ref C :: bc).contains (.type "NameError") = false := by rw [List.contains_cons, hT, F.noName]; rfl
  refine codeAny_builtinAt F.entry ?_
  unfold Builtin.«BaseException.__new__»
  refine wpAt_bind ?_
  show wpAt _ _ _ (stack >>= _) _ _ _
  refine wpAt_bind (wpAt_stack fun p below => wpAt_of_wpAny ?_)
  wp_walk
  refine wpAt_of_wpAny ?_
  rw [F.owner]
  repeat (first | with_reducible refine wpAny_madeHere_exc F.canon hC ?_ | with_reducible refine wpAny_loadPart_at hC ?_ | (with_reducible refine wpAny_isSubtype_exc hC ?_; first | rw [c1] | rw [c2] | rw [c3]) | wp_step)
  show R _ _
  rw [Heap.size_push]
  exact q
theorem kcall (F : ExcBaseFacts B newId initId bm) (hT : ∀ Y : String, bc.contains (.type Y) = bm.contains (.type Y)) {kw : List (Str × Value)} {fI : Addr} {Q : Fin → Shared → Prop}
    (hC : h.get? C = some (excClassObj nm qn C N bs bc hdct sn sub ab col dd k0 k1 k2 k3 k5 newId))
    (hi : W.Looks (model prog w) h (typeLookup (.ref C) "__init__") (some (.ref fI))) (hb : ∀ v, W.Looks (model prog w) h (bindSpecial (.ref fI) v) (.ref fI, [v]))
    (q : codeAny (model prog w) A (.call (.ref fI) ⟨[.ref (h.objs.size + 1)], kw⟩)
      (fun r s' => match r with | .ok (.ret v) => v = .none ∧ Q (.done (.ret (.ref (h.objs.size + 1)))) s' | .ok _ => False | .error e => E e s')
      ⟨(h.push (W.kdv_tup [])).push (HandSPX.excO C h.objs.size), g, d, t, os⟩) :
    wpAny (model prog w) A (Builtin.«type.__call__» ⟨[.ref C], kw⟩) Q E ⟨h, g, d, t, os⟩ := by
  repeat (first | with_reducible refine wpAny_loadPart_at hC ?_ | with_reducible refine wpAny_madeBy_exc hC ?_ | wp_step)
  refine codeAny_call_builtin_code (Code.quiet_builtin _ F.quiet) (knew_chk F hT hC ?_)
  refine knew F hT hC ?_
  show wpAny _ _ _ _ _ _
  have kk : ∀ b o, h.get? b = some o → ((h.push (W.kdv_tup [])).push (HandSPX.excO C h.objs.size)).get? b = some o := fun b o z => Heap.get?_push_of_some _ (Heap.get?_push_of_some _ z)
  have hC' := kk _ _ hC
  have hx : ((h.push (W.kdv_tup [])).push (HandSPX.excO C h.objs.size)).get? (h.objs.size + 1) = some (HandSPX.excO C h.objs.size) := by heap_get
  have cc : (Value.ref C :: bc).contains (.ref C) = true := by simp
  have i' := hi.keeps kk
  have b' := (hb (.ref (h.objs.size + 1))).keeps kk
  unfold isInstance
  repeat (first | with_reducible refine wpAny_loadPart_at hx ?_ | (with_reducible refine wpAny_isSubtype_exc hC' ?_; rw [cc]) | wp_step)
  show wpAny _ _ (typeLookup (.ref C) _) _ _ _
  refine i'.at ?_
  refine wpAny_holding (wpAny_bind (b'.at ?_))
  refine wpAny_bind (wpAny_call (codeAny_mono q fun r s' z => ?_))
  rcases r with e | (v | _ | _ | _) <;> first | exact z | exact z.elim | skip
  obtain ⟨rfl, z⟩ := z
  first
    | exact wpAny_pure (wpAny_pure z)
    | (wp_walk; exact z)
theorem kown (F : ExcBaseFacts B newId initId bm) (hT : ∀ Y : String, bc.contains (.type Y) = bm.contains (.type Y)) {kw : List (Str × Value)} {fI : Addr} {R : Result → Shared → Prop}
    (hC : h.get? C = some (excClassObj nm qn C N bs bc hdct sn sub ab col dd k0 k1 k2 k3 k5 newId))
    (hi : W.Looks (model prog w) h (typeLookup (.ref C) "__init__") (some (.ref fI))) (hb : ∀ v, W.Looks (model prog w) h (bindSpecial (.ref fI) v) (.ref fI, [v]))
    (q : codeAny (model prog w) (A.under (.builtin "type.__call__" ⟨[.ref C], kw⟩)) (.call (.ref fI) ⟨[.ref (h.objs.size + 1)], kw⟩) (W.InitBack (h.objs.size + 1) R)
      ⟨(h.push (W.kdv_tup [])).push (HandSPX.excO C h.objs.size), g, d, t, os⟩) :
    codeAny (model prog w) A (.call (.ref C) ⟨[], kw⟩) R ⟨h, g, d, t, os⟩ := by
  have f1 := tc_lookup
  have f2 := tc_bind (.ref C)
  have f3 : (⟨h, g, d, t, os⟩ : Shared).TypeIs (.ref C) "type" := ⟨_, hC, rfl⟩
  refine codeAny_of_tree ?_
  show wpAny _ _ (callAny (.ref C) _) _ _ _
  repeat (any_goals (first | assumption | with_reducible refine wpAny_loadPart_at hC ?_ | wp_step))
  refine ⟨rfl, ?_⟩
  refine codeAny_call_builtin_at (Code.quiet_builtin _ (by decide +kernel)) entry_typeCall (wpAny_check_type_call_sub hC (kcall F hT hC hi hb ?_))
  refine codeAny_mono q fun r s' z => ?_
  rcases r with e | (v | _ | _ | _) <;> exact z
end
end MiX
end PySem

namespace Mi
open PySem PySem.Spec PyProof.Rows L2

/-! ### exceptions of the text's own classes, in hand -/
/-- how the instances of a class of exceptions are read -/
structure OxA (K : PySem.W.Frag) (C : Addr) : Prop where
  hd : PySem.W.hasDictIn K C = true
  ga : PySem.W.findIn K (.ref C) "__getattribute__" = some (some (.builtin "BaseException.__getattribute__"))
  gg : PySem.W.findIn K (.ref C) "__getattr__" = some none
  exC : PySem.W.subIn K (.ref C) (.type "BaseException") = some true
  cl : PySem.W.findIn K (.ref C) "__class__" = some (some (.builtin "object.__class__"))
  ob : PySem.W.mroIn K C (.type "object") = some true
/-- .. and made -/
structure OxC (K : PySem.W.Frag) (newId : String) (bm : List Value) (C : Addr) : Prop where
  ini : PySem.W.excInitIn K C bm newId = true
  ovr : PySem.W.excOver K C bm = true
  sa : PySem.W.findIn K (.ref C) "__setattr__" = some (some (.builtin "object.__setattr__"))
  kC : PySem.W.keepIn K (.ref C) = true
  A : OxA K C
structure OxK (K : PySem.W.Frag) : Prop where
  gs : PySem.W.specialIn K (.builtin "object.__class__") "__get__" = some (some (.builtin "getset_descriptor.__get__"))
  tk : PySem.W.takesIn K (.builtin "object.__class__") = some true
section
variable {X : Cx} {pins : List (Addr × Obj)} {σ : L2.St} {H : Hp} {s : Shared} {a C : Addr} {B newId initId : String} {bm : List Value}
/-- B.__init__(self, ..) -/
theorem binit (FB : ExcBaseFacts B newId initId bm) (q : PySem.W.excInitIn X.K C bm newId = true) {us : List Value} {Q : Value → Shared → Prop} {E : Value → Shared → Prop} {A : Around} (I : Inv X pins σ H s) (e : H a = some (exo a C none)) (hl : us.length ≤ sizeLine)
    (h : ∀ s', Inv X pins σ H s' → Q .none s') : wpAny (model X.prog X.w) A (call (.builtin initId) (.ref a :: us)) Q E s := by
  obtain ⟨nm, N, qn, bs, bc, hdct, sn, sub, ab, col, dd, k0, k1, k2, k3, k5, hC, hT⟩ := PySem.W.excInit_of I.kIn q
  obtain ⟨t1, ho⟩ := exo_at I.hok e
  obtain ⟨hp, g, d, t, os⟩ := s
  refine wpAny_call (PySem.HandSPX.init_base FB hT hC ho hl fun h' t2 kk hx => ?_)
  have J : Inv X pins σ (upd H a (exo a C none)) ⟨h', g, d, t, os⟩ := I.write (t' := t) (x := a) (e := a) (by rw [e]; exact True.intro) (.inl rfl) kk ⟨_, hx⟩ (exo_ok hx)
  have eu : upd H a (exo a C none) = H := funext fun b => by
    by_cases hb : b = a
    · rw [hb, upd_same, e]
    · exact upd_ne hb
  exact h _ (eu ▸ J)
/-- self.f = y, the first field -/
theorem bset (SF : StoreFacts B bm "object.__setattr__" "object") (T : OxC X.K newId bm C) {f : Str} {y : V} {u : Value} {Q : Unit → Shared → Prop} {E : Value → Shared → Prop} {A : Around} (I : Inv X pins σ H s) (e : H a = some (exo a C none)) (hno : PySem.W.takerIn X.K C f = some none) (ry : RelV y u)
    (h : ∀ dx s', H dx = none → dx ≠ a → Inv X pins σ (upd (upd H dx (exd dx [(f, y)])) a (exo a C (some dx))) s' → Q () s') : wpAny (model X.prog X.w) A (setAttr (.ref a) f u) Q E s := by
  obtain ⟨t1, ho⟩ := exo_at I.hok e
  obtain ⟨hp, g, d, t, os⟩ := s
  have In : PySem.W.InstAt hp a { cls := .ref C, dict := none, data := .fields #[.ref t1, .none, .none, .none, .bool false, .none] } C none := ⟨ho, rfl, rfl, trivial⟩
  refine PySem.W.set_plain I.kIn In T.sa ?_
  refine PySem.W.osa_openX SF (s := ⟨hp, g, d, t + 1, os⟩) I.kIn In T.ovr hno fun b => ?_
  have hxs : a ≠ hp.objs.size := Nat.ne_of_lt (Heap.lt_size ho)
  obtain ⟨cd, hcd, hh⟩ := PySem.W.any_some (show (PySem.W.clsIn X.K C).any (·.hasDict) = true from T.A.hd)
  have hcls : PySem.W.Looks (model X.prog X.w) hp (classData C) cd := PySem.W.looks_clsIn I.kIn hcd
  obtain ⟨nm, bs, mro, ns, qn, hdc, sn, sb, ab, col, del⟩ := cd
  dsimp only at hh
  subst hh
  dsimp only
  unfold Builtin.ObjectAttr.storeInOwnDict Builtin.ObjectAttr.ownDictForStores
  repeat (first | with_reducible refine PySem.HandSPX.store_in_new ?_ ?_ | with_reducible refine wpAny_loadPart_at ho ?_ | with_reducible refine hcls.at ?_ | wp_step)
  · exact ⟨_, #[], _, (Heap.get?_update_ne _ _ _ _ hxs.symm).trans (Heap.get?_push_at rfl rfl), rfl, fun z hz => absurd hz (by simp), fun _ => rfl⟩
  · intro h' tk' hn' hs
    have hnd : H hp.objs.size = none := I.hok.fresh (Nat.le_refl _)
    have kk : ∀ c o, c ≠ a → hp.get? c = some o → h'.get? c = some o := fun c o n z => (hs.2 c (Nat.ne_of_lt (Heap.lt_size z))).trans ((Heap.get?_update_ne _ _ _ _ n).trans (Heap.get?_push_of_some _ z))
    have hx : h'.get? a = some ({ cls := .ref C, dict := some hp.objs.size, data := .fields #[.ref t1, .none, .none, .none, .bool false, .none] } : Obj) := (hs.2 a hxs).trans (Heap.get?_update_self _ (Heap.get?_push_of_some _ ho) rfl)
    have nd : ∀ {c : Addr} {o : Obj}, hp.get? c = some o → c ≠ hp.objs.size := fun z => Nat.ne_of_lt (Heap.lt_size z)
    have na : ∀ {c : Addr}, H c = none → c ≠ a := fun n z => by rw [z, e] at n; cases n
    have U : Un X.fs [] H (upd (upd H hp.objs.size (exd hp.objs.size [(f, y)])) a (exo a C (some hp.objs.size))) hp h' := {
      keep := fun c o z n _ _ => kk c o (na n) z
      slot := fun c o z n _ _ => ⟨o.slots, kk c o (na n) z⟩
      free := fun c o z n _ => by rw [upd_ne (na n), upd_ne (nd z)]; exact n
      there := fun c o z _ => by
        by_cases hc : c = a
        · exact ⟨_, by rw [hc]; exact hx⟩
        · exact ⟨o, kk c o hc z⟩
      tups := fun c xs z => by rw [upd_ne (at_ne e z exo_tup), upd_ne (ne_of_none z hnd)]; exact z
      frzs := fun c o v z => by rw [upd_ne (at_ne e z exo_frz), upd_ne (ne_of_none z hnd)]; exact z
      tbls := fun c ps z => ⟨#[], by rw [upd_ne (at_ne e z exo_tbl), upd_ne (ne_of_none z hnd), z]; simp⟩ }
    refine h hp.objs.size _ hnd hxs.symm (I.un (t' := tk') U fun c o z => ?_)
    by_cases hc : c = a
    · subst hc
      rw [upd_same] at z; cases z
      exact exo_ok hx
    · rw [upd_ne hc] at z
      by_cases hd : c = hp.objs.size
      · subst hd
        rw [upd_same] at z; cases z
        exact exd_ok hn' (relO_put (fs := []) ry fun _ => True.intro)
      · rw [upd_ne hd] at z
        refine (I.hok c o z).stay (fun b v hb q => kk b v ?_ q) (fun b q => by rw [upd_ne (at_ne e q exo_own), upd_ne (ne_of_none q hnd)]; exact q) fun b xs q => by rw [upd_ne (at_ne e q exo_tup), upd_ne (ne_of_none q hnd)]; exact q
        rcases hb with hb | hb
        · rw [hb]; exact hc
        · exact at_ne e hb exo_own
/-- C(..), its own __init__ keeping sp -/
theorem bnew {W : WK} {x : Str} {fI : Addr} {k : Nat} {fd : FuncData} {ps : List Str} {sp : Sp} (FB : ExcBaseFacts B newId initId bm) (T : OxC X.K newId bm C) (iC : PySem.W.findIn X.K (.ref C) "__init__" = some (some (.ref fI))) (tI : PySem.W.typeIn X.K (.ref fI) = some (.type "function"))
    (F : FnOk X.prog X.w X.K X.mg X.base (L2.CX X.prog X.w) k fI fd ps sp) (hr : Room (k + 1) X.A) (hb : Binds X.K fd ps []) (tk : Takes X W) {us : List Value} {vs : List V} {Q : VK} (I : Inv X pins σ H s) (r : Vals vs us) (hl : us.length ≤ 1000)
    (h : ∀ a, H a = none → sp (.ref a :: vs) (upd H a (exo a C none)) (fun v H2 => v = .non ∧ Q (.ref a) H2) (WE W σ)) : wpAny (model X.prog X.w) X.A (call (.ref C) us) (EP X pins σ Q) X.xe s := by
  obtain ⟨nm, N, qn, bs, bc, hdct, sn, sub, ab, col, dd, k0, k1, k2, k3, k5, hC, hT⟩ := PySem.W.excInit_of I.kIn T.ini
  obtain ⟨hp, g, dr, t, os⟩ := s
  have hsz : hp.objs.size ≤ hp.objs.size + 1 := Nat.le_succ _
  have hq := h (hp.objs.size + 1) (I.hok.fresh hsz)
  have kk : ∀ b o, hp.get? b = some o → ((hp.push (PySem.W.kdv_tup us)).push (PySem.HandSPX.excO C hp.objs.size)).get? b = some o := fun b o z => Heap.get?_push_of_some _ (Heap.get?_push_of_some _ z)
  have hget : ((hp.push (PySem.W.kdv_tup us)).push (PySem.HandSPX.excO C hp.objs.size)).get? (hp.objs.size + 1) = some (PySem.HandSPX.excO C hp.objs.size) := by heap_get
  have J : Inv X pins σ (upd H (hp.objs.size + 1) (exo (hp.objs.size + 1) C none)) ⟨(hp.push (PySem.W.kdv_tup us)).push (PySem.HandSPX.excO C hp.objs.size), g, dr, t, os⟩ :=
    I.laid (t' := t) (a := hp.objs.size + 1) kk hsz (exo_ok hget)
  have r2 : Vals (V.ref (hp.objs.size + 1) :: vs) (Value.ref (hp.objs.size + 1) :: us) := .cons rfl r
  have hlen : (Value.ref (hp.objs.size + 1) :: us).length = ps.length := by
    rw [← r2.length]; exact F.len _ _ _ _ hq
  have b := hb _ (Value.ref (hp.objs.size + 1) :: us) J.kIn (by rw [List.append_nil]; exact hlen)
  rw [List.append_nil] at b
  refine wpAny_call (PySem.HandSPX.call_own FB hT hC (PySem.W.looks_findIn I.kIn iC) (fun self => PySem.W.bind_fn I.kIn self tI) (Nat.le_trans hl (by rw [sizeLine_eq]; omega))
    (codeAny_mono (F.run _ X.stack _ _ ⟨Value.ref (hp.objs.size + 1) :: us, []⟩ _ _ _ _ (hr.make C us []) (J.env0.make C us []) b r2 hq) fun r' s' z => ?_))
  match r', z with
  | .error er, z => exact passAt tk σ pins _ _ er s' J z
  | .ok (.ret u), z =>
    obtain ⟨v, H', J', rv, hv, q⟩ := J.after z
    subst hv
    exact ⟨rv, .ref (hp.objs.size + 1), H', J', rfl, q⟩
  | .ok .next, z => exact z.elim
  | .ok .brk, z => exact z.elim
  | .ok .cont, z => exact z.elim
/-- C(f=..) -/
theorem bnewK {W : WK} {fI : Addr} {k : Nat} {fd : FuncData} {ps : List Str} {sp : Sp} (FB : ExcBaseFacts B newId initId bm) (T : OxC X.K newId bm C) (iC : PySem.W.findIn X.K (.ref C) "__init__" = some (some (.ref fI))) (tI : PySem.W.typeIn X.K (.ref fI) = some (.type "function"))
    (F : FnOk X.prog X.w X.K X.mg X.base (L2.CX X.prog X.w) k fI fd ps sp) (hr : Room (k + 1) X.A) (tk : Takes X W) {kw : List (Str × Value)} {us : List Value} {vs : List V} {Q : VK} (I : Inv X pins σ H s) (r : Vals vs us)
    (hb : ∀ (s : Shared) (a : Addr), BindsTo s fd ⟨[.ref a], kw⟩ (ps.zip (.ref a :: us)))
    (h : ∀ a, H a = none → sp (.ref a :: vs) (upd H a (exo a C none)) (fun v H2 => v = .non ∧ Q (.ref a) H2) (WE W σ)) : wpAny (model X.prog X.w) X.A (call (.ref C) [] kw) (EP X pins σ Q) X.xe s := by
  obtain ⟨nm, N, qn, bs, bc, hdct, sn, sub, ab, col, dd, k0, k1, k2, k3, k5, hC, hT⟩ := PySem.W.excInit_of I.kIn T.ini
  obtain ⟨hp, g, dr, t, os⟩ := s
  have hsz : hp.objs.size ≤ hp.objs.size + 1 := Nat.le_succ _
  have hq := h (hp.objs.size + 1) (I.hok.fresh hsz)
  have kk : ∀ b o, hp.get? b = some o → ((hp.push (PySem.W.kdv_tup [])).push (PySem.HandSPX.excO C hp.objs.size)).get? b = some o := fun b o z => Heap.get?_push_of_some _ (Heap.get?_push_of_some _ z)
  have hget : ((hp.push (PySem.W.kdv_tup [])).push (PySem.HandSPX.excO C hp.objs.size)).get? (hp.objs.size + 1) = some (PySem.HandSPX.excO C hp.objs.size) := by heap_get
  have J : Inv X pins σ (upd H (hp.objs.size + 1) (exo (hp.objs.size + 1) C none)) ⟨(hp.push (PySem.W.kdv_tup [])).push (PySem.HandSPX.excO C hp.objs.size), g, dr, t, os⟩ :=
    I.laid (t' := t) (a := hp.objs.size + 1) kk hsz (exo_ok hget)
  have r2 : Vals (V.ref (hp.objs.size + 1) :: vs) (Value.ref (hp.objs.size + 1) :: us) := .cons rfl r
  refine wpAny_call (PySem.MiX.kown FB hT hC (PySem.W.looks_findIn I.kIn iC) (fun v => PySem.W.bind_fn I.kIn v tI)
    (codeAny_mono (F.run _ X.stack _ _ ⟨[Value.ref (hp.objs.size + 1)], kw⟩ _ _ _ _ (hr.make C [] kw) (J.env0.make C [] kw) (hb _ _) r2 hq) fun r' s' z => ?_))
  match r', z with
  | .error er, z => exact passAt tk σ pins _ _ er s' J z
  | .ok (.ret u), z =>
    obtain ⟨v, H', J', rv, hv, q⟩ := J.after z
    subst hv
    exact ⟨rv, .ref (hp.objs.size + 1), H', J', rfl, q⟩
  | .ok .next, z => exact z.elim
  | .ok .brk, z => exact z.elim
  | .ok .cont, z => exact z.elim
end
/-! what __init__ promises -/
def sp0 (C : Addr) : Sp := fun vs H Q _ => ∃ a, vs = [.ref a] ∧ H a = some (exo a C none) ∧ Q .non H
def sp1 (C : Addr) (f : Str) : Sp := fun vs H Q _ => ∃ a y, vs = [.ref a, y] ∧ H a = some (exo a C none) ∧ ∀ dx, H dx = none → dx ≠ a → Q .non (upd (upd H dx (exd dx [(f, y)])) a (exo a C (some dx)))
section
variable {X : Cx} {W : WK} {C : Addr} {B newId initId : String} {bm : List Value} {e o c : Expr} {es : List Expr} {te to : TE} {ta : TA} {f : Str} {p p1 p2 p' pos : Pos}
theorem pe_binit (FB : ExcBaseFacts B newId initId bm) (q : PySem.W.excInitIn X.K C bm newId = true) {x : Str} {pl : Sem Bool} (hg : Gl X x) (hm : X.mg x = none) (hv : bootBuiltins x = some (.type B)) (ty : typeOf (.type B) = pure (.type "type")) (hs : Manifest.isStub B = false)
    (vV : PySem.W.findCls X.K (.type B) (.type "type") "__init__" = some (.val (.builtin initId))) (hh : PySem.W.handedIn (.builtin initId) = true) (ha : PA X (e :: es) ta)
    (hc : eval (.Call (.Attribute (.Name x p1) "__init__" p2) (e :: es) [] pos) X.env = (do
      let ov ← eval (.Name x p1) X.env
      standAt p2.atName
      let (f, first) ← holding [ov] (getMethod ov "__init__" pl)
      callWith pos f first (backTo pos (starEach (e :: es) X.env)) (backToKw pos (keywordEach [] X.env))) := by rfl)
    (hn : x ≠ "__name__" := by decide) (hd : (x == ("__debug__" : Str)) = false := by decide)
    (he : starEach (e :: es) X.env = (false, eval e X.env) :: starEach es X.env := by rfl) (hpl : (backTo pos (starEach es X.env)).any (·.1) = false := by rfl) :
    PE X (.Call (.Attribute (.Name x p1) "__init__" p2) (e :: es) [] pos) (fun σ H Q => ta σ H fun vs H1 => ∃ a ws, vs = .ref a :: ws ∧ ws.length ≤ 1000 ∧ H1 a = some (exo a C none) ∧ Q .non H1) := by
  refine ⟨fun pins s σ H Q I h => ?_⟩
  refine PySem.W.methodCall_KW (ld_blt I hg hm hv ?_ hn hd) hc
  obtain ⟨m, fr⟩ := I.fr
  refine PySem.W.method_type fr I.ok.mod.kin ty hs vV hh ?_
  show wpAny _ _ (callWith pos (Value.builtin initId) [] (backTo pos (starEach (e :: es) X.env)) []) _ _ _
  refine PyProof.Rows.callWith_method1 (thn (ha.run pos pins _ σ H _ (I.tok _) h) fun us s1 ⟨vs, H1, I1, r1, a, ws, ev, hl, ea, q1⟩ => ?_) he hpl
  subst ev
  cases r1 with
  | @cons _ u0 _ ur ra rw' =>
    obtain rfl : u0 = Value.ref a := ra
    exact binit FB q I1 ea (by rw [← Paired.length rw', sizeLine_eq]; omega) fun s' J => ⟨.non, H1, J, rfl, q1⟩
theorem ps_bset (SF : StoreFacts B bm "object.__setattr__" "object") (T : OxC X.K newId bm C) (hno : PySem.W.takerIn X.K C f = some none) (ho : PE X o to) (he : PE X e te) (hs : swapsWith e (some (.Attribute o f p')) pos.line X.env = pure false := by rfl) :
    PS X (.Assign [.Attribute o f p'] e pos) (fun D σ H => te σ H fun y H1 => to σ H1 fun x H2 => ∃ a, x = .ref a ∧ H2 a = some (exo a C none) ∧ ∀ dx, H2 dx = none → dx ≠ a → D.nx σ (upd (upd H2 dx (exd dx [(f, y)])) a (exo a C (some dx)))) := by
  refine ⟨fun pins s σ H D I h => ?_⟩
  refine plainObj_wpAny_Assign_Attribute (thn (he.run pins s σ H _ I h) fun v s1 ⟨y, H1, I1, r1, q1⟩ => thn (ho.run pins s1 σ H1 _ I1 q1) fun u s2 ⟨x, H2, I2, r2, a, ex, ea, q⟩ => ?_) hs
  subst ex
  obtain rfl : u = Value.ref a := r2
  exact bset SF T I2 ea hno r1 fun dx s' n ne J => ⟨σ, _, J, q dx n ne⟩
/-! ### made, in the layer -/
def gNew (n : Str) (ns : List Str) : GC := fun vs s => bif Nat.beq vs.length ns.length then .ok (.exc n ns vs) s else .bad
theorem Ext.of {H H' : Hp} {ρ : Rh} (hr : ∀ a ∈ ρ.rs, H a ≠ none) (h : ∀ b, H b ≠ none → H' b = H b) : Ext ρ H ρ H' :=
  ⟨⟨⟨[], by simp, by simp⟩, rs_refl, fun a o q _ _ => (h a (sm q)).trans q, fun a q => by rw [h a q]; exact q⟩, rfl, fun a ha _ => h a (hr a ha)⟩
theorem RSt.of {K : PySem.W.Frag} {H H' : Hp} {ρ : Rh} {sto : Sto} (S : RSt K H ρ sto) (h : ∀ b, H b ≠ none → H' b = H b) : RSt K H' ρ sto := S.mono' (.of S.hh h) fun a ha => h a fun q => S.fresh q ha
theorem new_post0 {K : PySem.W.Frag} {n : Str} {H : Hp} {ρ : Rh} {sto : Sto} {WP : XK} {Q : VK} {a : Addr} (hC : PySem.W.nsIn K mainGlobals n = some (some (.ref C))) (S : RSt K H ρ sto) (P : Post K WP H ρ (GV K Q) (gNew n [] [] sto)) (ha : H a = none) :
    sp0 C [.ref a] (upd H a (exo a C none)) (fun v H2 => v = .non ∧ Q (.ref a) H2) WP :=
  ⟨a, rfl, upd_same, rfl, P _ ρ (S.ext ha) (S.new ha) _ ⟨a, [], rfl, ⟨S.fresh ha, S.freshR ha, C, hC, .inl ⟨rfl, upd_same⟩⟩, rfl⟩⟩
theorem new_post1 {K : PySem.W.Frag} {n : Str} {H : Hp} {ρ : Rh} {sto : Sto} {WP : XK} {Q : VK} {a : Addr} {xs : List PV} {vs : List V} (hC : PySem.W.nsIn K mainGlobals n = some (some (.ref C))) (S : RSt K H ρ sto) (r : RVs K H ρ xs vs) (P : Post K WP H ρ (GV K Q) (gNew n [f] xs sto)) (ha : H a = none) :
    sp1 C f (.ref a :: vs) (upd H a (exo a C none)) (fun v H2 => v = .non ∧ Q (.ref a) H2) WP := by
  unfold gNew at P
  obtain ⟨hl, P⟩ := and_of (C := Post K WP H ρ (GV K Q)) P (fun z => z)
  match xs, vs, r, hl with
  | [x], vs, r, _ =>
    obtain ⟨y, rfl, hy⟩ := r.one
    refine ⟨a, y, rfl, upd_same, fun dx hd ne => ⟨rfl, ?_⟩⟩
    have hdx : H dx = none := by rw [upd_ne ne] at hd; exact hd
    have k : ∀ b, H b ≠ none → upd (upd (upd H a (exo a C none)) dx (exd dx [(f, y)])) a (exo a C (some dx)) b = H b := fun b hb => by
      rw [upd_ne (fun z => hb (by rw [z]; exact ha)), upd_ne (fun z => hb (by rw [z]; exact hdx)), upd_ne (fun z => hb (by rw [z]; exact ha))]
    refine P _ ρ (.of S.hh k) (S.of k) _ ⟨a, [y], rfl, ⟨S.fresh ha, S.freshR ha, C, hC, .inr ⟨dx, S.fresh hdx, S.freshR hdx, upd_same, ?_⟩⟩, r.mono (Ext.of S.hh k).toExtW⟩
    rw [upd_ne ne, upd_same]
    rfl
  | [], _, _, hl => cases hl
  | _ :: _ :: _, _, _, hl => cases hl
/-- C() -/
theorem e_new0 {n : Str} {fI : Addr} {k : Nat} {fd : FuncData} (FB : ExcBaseFacts B newId initId bm) (T : OxC X.K newId bm C) (hC : PySem.W.nsIn X.K mainGlobals n = some (some (.ref C))) (iC : PySem.W.findIn X.K (.ref C) "__init__" = some (some (.ref fI))) (tI : PySem.W.typeIn X.K (.ref fI) = some (.type "function"))
    (F : FnOk X.prog X.w X.K X.mg X.base (L2.CX X.prog X.w) k fI fd ["self"] (sp0 C)) (hr : Room (k + 1) X.A) (hb : Binds X.K fd ["self"] []) (tk : Takes X W) (hg : Gl X n) (hm : X.mg n = some (.ref C)) (hdb : (n == ("__debug__" : Str)) = false := by decide) :
    ME X W (.Call (.Name n p) [] [] pos) (fun _ s => gNew n [] [] s) := by
  refine ⟨fun σ H Q => ∀ a, H a = none → sp0 C [.ref a] (upd H a (exo a C none)) (fun v H2 => v = .non ∧ Q (.ref a) H2) (WE W σ), ⟨fun pins s σ H Q I h => ?_⟩, fun σ H ρ env sto Q hE hS hP a ha => new_post0 hC hS hP ha⟩
  refine wpAny_Call_Name_kw (ld_glob I hg hm ?_ hdb)
  exact PySem.W.callWith_K0 I.kIn T.kC (bnew (x := n) FB T iC tI F hr hb tk (us := []) (vs := []) I .nil (by simp) h)
/-- C(e) -/
theorem e_new1 {n : Str} {fI : Addr} {k : Nat} {fd : FuncData} {ms : MA} (FB : ExcBaseFacts B newId initId bm) (T : OxC X.K newId bm C) (hC : PySem.W.nsIn X.K mainGlobals n = some (some (.ref C))) (iC : PySem.W.findIn X.K (.ref C) "__init__" = some (some (.ref fI))) (tI : PySem.W.typeIn X.K (.ref fI) = some (.type "function"))
    (F : FnOk X.prog X.w X.K X.mg X.base (L2.CX X.prog X.w) k fI fd ["self", f] (sp1 C f)) (hr : Room (k + 1) X.A) (hb : Binds X.K fd ["self", f] []) (tk : Takes X W) (hg : Gl X n) (hm : X.mg n = some (.ref C)) (ha : MEs X W [e] ms)
    (hdb : (n == ("__debug__" : Str)) = false := by decide) (he : starEach [e] X.env = (false, eval e X.env) :: starEach [] X.env := by rfl) (hpl : (backTo pos (starEach [] X.env)).any (·.1) = false := by rfl) :
    ME X W (.Call (.Name n p) [e] [] pos) (mCall (gNew n [f]) ms) := by
  obtain ⟨t, q, s⟩ := ha
  refine ⟨fun σ H Q => t σ H fun vs H1 => vs.length ≤ 1000 ∧ ∀ a, H1 a = none → sp1 C f (.ref a :: vs) (upd H1 a (exo a C none)) (fun v H2 => v = .non ∧ Q (.ref a) H2) (WE W σ), ⟨fun pins st σ H Q I h => ?_⟩, fun σ H ρ env sto Q hE hS hP => ?_⟩
  · refine wpAny_Call_Name_kw (ld_glob I hg hm ?_ hdb)
    exact PySem.W.callWith_K (h₀ := X.base) I.ok.mod.kin T.kC (thn (q.run pos pins st σ H _ I h) fun us s1 ⟨vs, H1, I1, r, hz, q1⟩ => ⟨I1.kIn, bnew (x := n) FB T iC tI F hr hb tk I1 r (by rw [List.nil_append, ← Paired.length r]; exact hz) q1⟩) he hpl
  · refine s σ H ρ env sto _ hE hS ((hP.bind hS).imp fun v s1 H1 ρ1 x1 S1 P1 ys hys => ⟨?_, fun a ha => new_post1 hC S1 hys P1 ha⟩)
    have P2 := P1
    unfold gNew at P2
    obtain ⟨hl, _⟩ := and_of (C := Post X.K _ H1 ρ1 (GV X.K Q)) P2 (fun z => z)
    rw [← hys.length, Nat.eq_of_beq_eq_true hl]
    show 1 ≤ 1000
    decide
/-- C(f=e) -/
theorem e_new1K {n : Str} {fI : Addr} {k : Nat} {fd : FuncData} {mk : MA} {kpos : Pos} (FB : ExcBaseFacts B newId initId bm) (T : OxC X.K newId bm C) (hC : PySem.W.nsIn X.K mainGlobals n = some (some (.ref C))) (iC : PySem.W.findIn X.K (.ref C) "__init__" = some (some (.ref fI))) (tI : PySem.W.typeIn X.K (.ref fI) = some (.type "function"))
    (F : FnOk X.prog X.w X.K X.mg X.base (L2.CX X.prog X.w) k fI fd ["self", f] (sp1 C f)) (hr : Room (k + 1) X.A) (hb : ∀ (s : Shared) (a : Addr) (u : Value), BindsTo s fd ⟨[.ref a], [(f, u)]⟩ [("self", .ref a), (f, u)]) (tk : Takes X W) (hg : Gl X n) (hm : X.mg n = some (.ref C)) (ha : MKs X W [⟨some f, e, kpos⟩] mk)
    (hdb : (n == ("__debug__" : Str)) = false := by decide) (hall : (backToKw pos (keywordEach [⟨some f, e, kpos⟩] X.env)).all (·.1.isSome) = true := by rfl) (hks : (backToKw pos (keywordEach [⟨some f, e, kpos⟩] X.env)).filterMap (·.1) = [f] := by rfl)
    (hpl : ((backTo pos (starEach [] X.env)).any (·.1) || (backToKw pos (keywordEach [⟨some f, e, kpos⟩] X.env)).any (·.1.isNone)) = false := by rfl) :
    ME X W (.Call (.Name n p) [] [⟨some f, e, kpos⟩] pos) (mCall (gNew n [f]) mk) := by
  obtain ⟨t, q, s⟩ := ha
  refine ⟨fun σ H Q => t σ H fun vs H1 => vs.length = 1 ∧ ∀ a, H1 a = none → sp1 C f (.ref a :: vs) (upd H1 a (exo a C none)) (fun v H2 => v = .non ∧ Q (.ref a) H2) (WE W σ), ⟨fun pins st σ H Q I h => ?_⟩, fun σ H ρ env sto Q hE hS hP => ?_⟩
  · refine wpAny_Call_Name_kw (ld_glob I hg hm ?_ hdb)
    refine PySem.W.callWith_KW0 (h₀ := X.base) I.ok.mod.kin T.kC hall (thn (q.run pos pins st σ H _ I h) fun us s1 ⟨vs, H1, I1, r, hz, q1⟩ => ⟨I1.kIn, ?_⟩) hpl
    rw [hks]
    have hl : us.length = 1 := (Paired.length r).symm.trans hz
    match us, hl with
    | [u], _ => exact bnewK FB T iC tI F hr tk I1 r (fun s a => hb s a u) q1
  · refine s σ H ρ env sto _ hE hS ((hP.bind hS).imp fun v s1 H1 ρ1 x1 S1 P1 ys hys => ⟨?_, fun a ha => new_post1 hC S1 hys P1 ha⟩)
    have P2 := P1
    unfold gNew at P2
    obtain ⟨hl, _⟩ := and_of (C := Post X.K _ H1 ρ1 (GV X.K Q)) P2 (fun z => z)
    rw [← hys.length, Nat.eq_of_beq_eq_true hl]
    rfl
/-! ### read, in the layer -/
theorem x_inst {pins : List (Addr × Obj)} {σ : L2.St} {H : Hp} {s : Shared} {ρ : Rh} {a : Addr} {n : Str} {ns : List Str} {ys : List V} (I : Inv X pins σ H s) (h : FzX X.K H ρ a n ns ys) : ∃ C ox od, PySem.W.nsIn X.K mainGlobals n = some (some (.ref C)) ∧ PySem.W.InstAt s.heap a ox C od ∧
    (ns ≠ [] → ∃ o, od = some o ∧ ∀ g, ∃ u, PySem.W.lookIn g o = some u ∧ RelO ((ns.zip ys).lookup g) u) := by
  obtain ⟨_, _, C, hC, h⟩ := h
  rcases h with ⟨hn, h⟩ | ⟨dx, _, _, h, hd⟩
  · obtain ⟨t1, ho⟩ := exo_at I.hok h
    exact ⟨C, _, none, hC, ⟨ho, rfl, rfl, trivial⟩, fun z => absurd hn z⟩
  · obtain ⟨t1, ho⟩ := exo_at I.hok h
    obtain ⟨mA, hns, hr⟩ := exd_at I.hok hd
    obtain ⟨od, hod, hl⟩ := lookIn_ns hns
    exact ⟨C, _, some od, hC, ⟨ho, rfl, rfl, hod⟩, fun _ => ⟨od, rfl, fun g => ⟨_, hl g, hr g⟩⟩⟩
def IsTab (K : PySem.W.Frag) (cv : Value) (tab : List (Str × Bool)) : Prop := ∀ n b, tab.lookup n = some b → ∀ C, PySem.W.nsIn K mainGlobals n = some (some (.ref C)) → OxA K C ∧ PySem.W.kitOne K (.ref C) cv = some b
def IsTabs (K : PySem.W.Frag) (cs : List Value) (tab : List (Str × Bool)) : Prop := ∀ n b, tab.lookup n = some b → ∀ C, PySem.W.nsIn K mainGlobals n = some (some (.ref C)) → OxA K C ∧ PySem.W.kitAny K (.ref C) cs = some b
def gIsx (tab : List (Str × Bool)) : GC := fun vs s => match vs with
  | [.exc n _ _] => match tab.lookup n with
    | some b => .ok (.bl b) s
    | none => .bad
  | _ => .bad
def rIsx (K : PySem.W.Frag) (tab : List (Str × Bool)) (cV : V) : List V → Hp → VK → Prop := fun vs H Q => ∃ a n ns ys ρ b, vs = [.ref a, cV] ∧ FzX K H ρ a n ns ys ∧ tab.lookup n = some b ∧ Q (.bl b) H
theorem cr_isx {tab : List (Str × Bool)} {cV : V} {cv : Value} (Kk : OxK X.K) (hcv : ∀ u, RelV cV u → u = cv) (T : IsTab X.K cv tab) : CallR X (.builtin "isinstance") (rIsx X.K tab cV) := by
  intro pins s σ H vs us Q I r h
  obtain ⟨a, n, ns, ys, ρ, b, rfl, hx, hb, q⟩ := h
  obtain ⟨u1, u2, rfl, r1, r2⟩ := vals2 r
  obtain rfl : u1 = Value.ref a := r1
  have e2 := hcv _ r2
  subst e2
  obtain ⟨C, ox, od, hC, J, _⟩ := x_inst I hx
  obtain ⟨A, k⟩ := T n b hb C hC
  have hcl : (PySem.W.clsIn X.K C).isSome = true := by
    obtain ⟨cd, hcd, _⟩ := PySem.W.any_some (show (PySem.W.clsIn X.K C).any (·.hasDict) = true from A.hd)
    rw [hcd]; rfl
  exact PySem.W.kia_one (PySem.W.kitx_exc hcl A.ga A.gg A.exC A.cl Kk.gs Kk.tk A.ob) I.kIn J k (fun z => nomatch z) fun t => ⟨.bl b, H, I.tok t, rfl, q⟩
def rIsxT (K : PySem.W.Frag) (tab : List (Str × Bool)) (cs : List V) : List V → Hp → VK → Prop := fun vs H Q => ∃ a n ns ys ρ b tp, vs = [.ref a, .ref tp] ∧ FzX K H ρ a n ns ys ∧ H tp = some (.tup cs) ∧ tab.lookup n = some b ∧ Q (.bl b) H
theorem cr_isxT {tab : List (Str × Bool)} {cs : List V} {cvs : List Value} (Kk : OxK X.K) (hcv : ∀ us, Vals cs us → us = cvs) (T : IsTabs X.K cvs tab) : CallR X (.builtin "isinstance") (rIsxT X.K tab cs) := by
  intro pins s σ H vs us Q I r h
  obtain ⟨a, n, ns, ys, ρ, b, tp, rfl, hx, hT, hb, q⟩ := h
  obtain ⟨u1, u2, rfl, r1, r2⟩ := vals2 r
  obtain rfl : u1 = Value.ref a := r1
  obtain rfl : u2 = Value.ref tp := r2
  obtain ⟨C, ox, od, hC, J, _⟩ := x_inst I hx
  obtain ⟨A, k⟩ := T n b hb C hC
  have hcl : (PySem.W.clsIn X.K C).isSome = true := by
    obtain ⟨cd, hcd, _⟩ := PySem.W.any_some (show (PySem.W.clsIn X.K C).any (·.hasDict) = true from A.hd)
    rw [hcd]; rfl
  obtain ⟨_, its, rv, o, h1, h2, m, h3⟩ := (show ObjOk X.prog X.w H s.heap tp (.tup cs) from I.hok tp _ hT)
  have e3 := hcv _ rv
  subst e3
  obtain ⟨oc, od', dt, sl⟩ := o
  simp only at h2 h3
  subst h2 h3
  exact PySem.W.kia_tup (PySem.W.kitx_exc hcl A.ga A.gg A.exC A.cl Kk.gs Kk.tk A.ob) I.kIn J h1 k (fun z => nomatch z) fun t => ⟨.bl b, H, I.tok t, rfl, q⟩
def mIsx (tab : List (Str × Bool)) (m : M) : M := fun env s => (m env s).bind fun v s1 => gIsx tab [v] s1
theorem gIsx_some {tab : List (Str × Bool)} {v : PV} {s : Sto} {K : PySem.W.Frag} {WP : XK} {H : Hp} {ρ : Rh} {G : PV → Sto → Hp → Rh → Prop} (P : Post K WP H ρ G (gIsx tab [v] s)) : ∃ n ns xs b, v = .exc n ns xs ∧ tab.lookup n = some b ∧ Post K WP H ρ G (.ok (.bl b) s) := by
  unfold gIsx at P
  split at P
  · rename_i n ns xs e
    cases e
    cases k : tab.lookup n with
    | none => rw [k] at P; exact P.elim
    | some b => rw [k] at P; exact ⟨n, ns, xs, b, rfl, k, P⟩
  · exact P.elim
theorem e_isx {tab : List (Str × Bool)} {cV : V} {cv : Value} {m : M} (Kk : OxK X.K) (gl : Gl X "isinstance") (hm : X.mg "isinstance" = none) (hc : PE X c (tC cV)) (hcv : ∀ u, RelV cV u → u = cv) (T : IsTab X.K cv tab) (ha : ME X W e m)
    (he : starEach [e, c] X.env = (false, eval e X.env) :: starEach [c] X.env := by rfl) (he2 : starEach [c] X.env = (false, eval c X.env) :: starEach [] X.env := by rfl) (hpl : (backTo pos (starEach [c] X.env)).any (·.1) = false := by rfl) :
    ME X W (.Call (.Name "isinstance" p) [e, c] [] pos) (mIsx tab m) := by
  obtain ⟨t, q, s⟩ := ha
  refine ⟨_, pe_callB (cr_isx Kk hcv T) gl hm (by decide +kernel) (pa_cons q (pa_cons hc pa_nil he2) he) (by decide) (by decide) he hpl, fun σ H ρ env sto Q hE hS hP => ?_⟩
  refine s σ H ρ env sto _ hE hS ((hP.bind hS).imp fun v s1 H1 ρ1 x1 S1 P1 y hy => ?_)
  obtain ⟨n, ns, xs, b, rfl, k, P2⟩ := gIsx_some P1
  obtain ⟨a, ys, rfl, h2, _⟩ := hy
  exact ⟨a, n, ns, ys, ρ1, b, rfl, h2, k, P2 H1 ρ1 .refl S1 _ rfl⟩
/-- isinstance(e, (T, U)), T and U built in -/
theorem e_isx2 {tab : List (Str × Bool)} {y z : Str} {T U : String} {x1 : Nat} {p3 p4 : Pos} {m : M} (Kk : OxK X.K) (gl : Gl X "isinstance") (hm : X.mg "isinstance" = none) (hy : PE X (.Name y p2) (tC (.ty T))) (hz : PE X (.Name z p3) (tC (.ty U))) (TT : IsTabs X.K [.type T, .type U] tab) (ha : ME X W e m)
    (he : starEach [e, .Tuple [.Name y p2, .Name z p3] x1 p4] X.env = (false, eval e X.env) :: starEach [.Tuple [.Name y p2, .Name z p3] x1 p4] X.env := by rfl)
    (he2 : starEach [.Tuple [.Name y p2, .Name z p3] x1 p4] X.env = (false, eval (.Tuple [.Name y p2, .Name z p3] x1 p4) X.env) :: starEach [] X.env := by rfl) (hpl : (backTo pos (starEach [.Tuple [.Name y p2, .Name z p3] x1 p4] X.env)).any (·.1) = false := by rfl)
    (h1 : starEach [.Name y p2, .Name z p3] X.env = (false, eval (.Name y p2) X.env) :: starEach [.Name z p3] X.env := by rfl) (h2 : starEach [.Name z p3] X.env = (false, eval (.Name z p3) X.env) :: starEach [] X.env := by rfl) :
    ME X W (.Call (.Name "isinstance" p) [e, .Tuple [.Name y p2, .Name z p3] x1 p4] [] pos) (mIsx tab m) := by
  obtain ⟨t, q, s⟩ := ha
  have hcv : ∀ us, Vals [V.ty T, V.ty U] us → us = [Value.type T, Value.type U] := fun us r => by
    obtain ⟨u1, u2, rfl, r1, r2⟩ := vals2 r
    cases r1; cases r2; rfl
  refine ⟨_, pe_callB (cr_isxT Kk hcv TT) gl hm (by decide +kernel) (pa_cons q (pa_cons (pe_tup (pa_cons hy (pa_cons hz pa_nil h2) h1)) pa_nil he2) he) (by decide) (by decide) he hpl, fun σ H ρ env sto Q hE hS hP => ?_⟩
  refine s σ H ρ env sto _ hE hS ((hP.bind hS).imp fun v s1 H1 ρ1 x1 S1 P1 y hy => ?_)
  obtain ⟨n, ns, xs, b, rfl, k, P2⟩ := gIsx_some P1
  refine ⟨by show 2 ≤ sizeLine; decide, fun tp htp => ?_⟩
  have hx := S1.ext (o := .tup [.ty T, .ty U]) htp
  obtain ⟨a, ys, rfl, h2, _⟩ := hy
  exact ⟨a, n, ns, ys, ρ1, b, tp, rfl, h2.mono hx.toExtW, upd_same, k, P2 _ ρ1 hx (S1.new htp) _ rfl⟩
/-- e.f -/
def FdTab (K : PySem.W.Frag) (f : Str) (tab : List Str) : Prop := ∀ n ∈ tab, ∀ C, PySem.W.nsIn K mainGlobals n = some (some (.ref C)) → OxA K C ∧ PySem.W.findIn K (.ref C) f = some none
def lookP (f : Str) : List Str → List PV → Option PV
  | n :: ns, x :: xs => bif f == n then some x else lookP f ns xs
  | _, _ => none
def gFld (tab : List Str) (f : Str) : PV → Sto → R PV := fun v s => match v with
  | .exc n ns xs => bif tab.elem n then (match lookP f ns xs with
    | some y => .ok y s
    | none => .bad) else .bad
  | _ => .bad
def mFld (tab : List Str) (f : Str) (m : M) : M := fun env s => (m env s).bind fun v s1 => gFld tab f v s1
theorem lookP_ok {K : PySem.W.Frag} {H : Hp} {ρ : Rh} {x : PV} : ∀ {ns : List Str} {xs : List PV} {ys : List V}, RVs K H ρ xs ys → lookP f ns xs = some x → ∃ y, (ns.zip ys).lookup f = some y ∧ RV K H ρ x y
  | n :: ns, z :: zs, ys, r, h => by
    obtain ⟨v, ws, rfl, h2, h3⟩ := r
    unfold lookP at h
    cases q : f == n with
    | true => rw [q] at h; cases h; exact ⟨v, by simp [List.lookup, q], h2⟩
    | false =>
      rw [q] at h
      obtain ⟨y, h4, h5⟩ := lookP_ok h3 h
      exact ⟨y, by simp [List.lookup, q]; exact h4, h5⟩
  | [], _, _, _, h => by cases h
  | _ :: _, [], _, _, h => by cases h
theorem e_fld {tab : List Str} {m : M} (T : FdTab X.K f tab) (ha : ME X W e m) (hb : attributeBase e f X.env (eval e X.env) = eval e X.env := by rfl) : ME X W (.Attribute e f pos) (mFld tab f m) := by
  obtain ⟨t, q, s⟩ := ha
  refine ⟨fun σ H Q => t σ H fun x H1 => ∃ a n ns ys ρ v, x = .ref a ∧ FzX X.K H1 ρ a n ns ys ∧ n ∈ tab ∧ (ns.zip ys).lookup f = some v ∧ Q v H1, ⟨fun pins st σ H Q I h => ?_⟩, fun σ H ρ env sto Q hE hS hP => ?_⟩
  · refine attr_of hb (thn (q.run pins st σ H _ I h) fun u s1 ⟨x, H1, I1, r1, a, n, ns, ys, ρ, v, ex, hx, hn, hl, q1⟩ => ?_)
    subst ex
    obtain rfl : u = Value.ref a := r1
    obtain ⟨C, ox, od, hC, J, hf⟩ := x_inst I1 hx
    obtain ⟨A, hno⟩ := T n hn C hC
    obtain ⟨o, rfl, hg⟩ := hf fun z => by rw [z] at hl; cases hl
    obtain ⟨u, hu, ru⟩ := hg f
    rw [hl] at ru
    obtain ⟨u', rfl, ru'⟩ := RelO.some_of ru
    exact HandSPX.exc_get I1.kIn J A.ga A.gg A.exC (PySem.W.findObj_own A.hd hno rfl hu) (handed_of ru') ⟨v, H1, I1.tok _, ru', q1⟩
  · refine s σ H ρ env sto _ hE hS ((hP.bind hS).imp fun v s1 H1 ρ1 x1 S1 P1 y hy => ?_)
    unfold gFld at P1
    split at P1
    · rename_i n ns xs
      obtain ⟨hn, P1⟩ := and_of (C := Post X.K _ H1 ρ1 (GV X.K Q)) P1 (fun z => z)
      cases k : lookP f ns xs with
      | none => rw [k] at P1; exact P1.elim
      | some z =>
        rw [k] at P1
        obtain ⟨a, ys, rfl, h2, h3⟩ := hy
        obtain ⟨y, h4, h5⟩ := lookP_ok h3 k
        exact ⟨a, n, ns, ys, ρ1, y, rfl, h2, by simpa using hn, h4, P1 H1 ρ1 .refl S1 _ h5⟩
    · exact P1.elim
/-! tables -/
inductive TabOne (K : PySem.W.Frag) (cv : Value) : List (Str × Bool) → Prop
  | nil : TabOne K cv []
  | cons {n : Str} {C : Addr} {b : Bool} {r : List (Str × Bool)} (a : PySem.W.nsIn K mainGlobals n = some (some (.ref C))) (A : OxA K C) (q : PySem.W.kitOne K (.ref C) cv = some b) (t : TabOne K cv r) : TabOne K cv ((n, b) :: r)
inductive TabAny (K : PySem.W.Frag) (cs : List Value) : List (Str × Bool) → Prop
  | nil : TabAny K cs []
  | cons {n : Str} {C : Addr} {b : Bool} {r : List (Str × Bool)} (a : PySem.W.nsIn K mainGlobals n = some (some (.ref C))) (A : OxA K C) (q : PySem.W.kitAny K (.ref C) cs = some b) (t : TabAny K cs r) : TabAny K cs ((n, b) :: r)
inductive TabFld (K : PySem.W.Frag) (f : Str) : List Str → Prop
  | nil : TabFld K f []
  | cons {n : Str} {C : Addr} {r : List Str} (a : PySem.W.nsIn K mainGlobals n = some (some (.ref C))) (A : OxA K C) (q : PySem.W.findIn K (.ref C) f = some none) (t : TabFld K f r) : TabFld K f (n :: r)
theorem tab_one {K : PySem.W.Frag} {cv : Value} : ∀ (tab : List (Str × Bool)), TabOne K cv tab → IsTab K cv tab
  | _, .nil => fun n b h => by simp [List.lookup] at h
  | _, .cons (n := m) (C := D) (b := b0) (r := r) a A q t => fun n b h C hC => by
    by_cases e : n = m
    · subst e
      rw [a] at hC
      cases hC
      rw [List.lookup_cons_self] at h
      cases h
      exact ⟨A, q⟩
    · have e' : (n == m) = false := by simpa using e
      simp only [List.lookup, e'] at h
      exact tab_one r t n b h C hC
theorem tab_any {K : PySem.W.Frag} {cs : List Value} : ∀ (tab : List (Str × Bool)), TabAny K cs tab → IsTabs K cs tab
  | _, .nil => fun n b h => by simp [List.lookup] at h
  | _, .cons (n := m) (C := D) (b := b0) (r := r) a A q t => fun n b h C hC => by
    by_cases e : n = m
    · subst e
      rw [a] at hC
      cases hC
      rw [List.lookup_cons_self] at h
      cases h
      exact ⟨A, q⟩
    · have e' : (n == m) = false := by simpa using e
      simp only [List.lookup, e'] at h
      exact tab_any r t n b h C hC
theorem tab_fld {K : PySem.W.Frag} {f : Str} : ∀ {tab : List Str}, TabFld K f tab → FdTab K f tab
  | _, .nil => fun n h => by simp at h
  | _, .cons (n := m) a A q t => fun n h C hC => by
    rcases List.mem_cons.mp h with e | h
    · subst e
      rw [a] at hC
      cases hC
      exact ⟨A, q⟩
    · exact tab_fld t n h C hC
end
end Mi

set_option autoImplicit true
namespace Lw
open PySem PySem.Spec PyProof.Rows L2 Mi
def topS (i : Nat) : Stmt := PySem.Challenge.pw_plainlock_k00_errors.main.body.getD i (.Pass ⟨0, 0, 0, 0⟩)
abbrev veL : List Value := [.type "ValueError", .type "Exception", .type "BaseException", .type "object"]
abbrev leL : List Value := [.type "LookupError", .type "Exception", .type "BaseException", .type "object"]
theorem ty_ValueError : typeOf (.type "ValueError") = pure (.type "type") := by kernel_rfl
theorem ty_LookupError : typeOf (.type "LookupError") = pure (.type "type") := by kernel_rfl
structure FD (K : PySem.W.Frag) (mg : Str → Option Value) (x : Str) (st : Stmt) (ps : List Str) where
  f : Addr
  fd : FuncData
  F : Fun K x x st f fd
  m : mg x = some (.ref f)
  b : Binds K fd ps []
structure XD (K : PySem.W.Frag) (mg : Str → Option Value) (n : Str) (q : Str) (st : Stmt) (newId : String) (bm : List Value) (ps : List Str) where
  C : Addr
  fI : Addr
  fd : FuncData
  m : mg n = some (.ref C)
  ns : PySem.W.nsIn K mainGlobals n = some (some (.ref C))
  T : OxC K newId bm C
  iC : PySem.W.findIn K (.ref C) "__init__" = some (some (.ref fI))
  tI : PySem.W.typeIn K (.ref fI) = some (.type "function")
  F : Fun K "__init__" q st fI fd
  b : Binds K fd ps []
structure Tx (K : PySem.W.Frag) (mg : Str → Option Value) where
  d__law_same : FD K mg "_law_same" (topS 8) ["got", "goal"]
  d_law : FD K mg "law" (topS 9) ["script"]
  c_Broken : XD K mg "Broken" "Broken.__init__" (inClass (topS 3) 0) "ValueError.__new__" veL ["self", "word"]
  t_Broken : PySem.W.takerIn K c_Broken.C "word" = some none
  k_Broken : ∀ (s : Shared) (a : Addr) (u : Value), BindsTo s c_Broken.fd ⟨[.ref a], [("word", u)]⟩ [("self", .ref a), ("word", u)]
  c_BadText : XD K mg "BadText" "BadText.__init__" (inClass (topS 2) 0) "ValueError.__new__" veL ["self", "line"]
  t_BadText : PySem.W.takerIn K c_BadText.C "line" = some none
  k_BadText : ∀ (s : Shared) (a : Addr) (u : Value), BindsTo s c_BadText.fd ⟨[.ref a], [("line", u)]⟩ [("self", .ref a), ("line", u)]
  c_NoPlace : XD K mg "NoPlace" "NoPlace.__init__" (inClass (topS 1) 0) "LookupError.__new__" leL ["self", "place"]
  t_NoPlace : PySem.W.takerIn K c_NoPlace.C "place" = some none
  k_NoPlace : ∀ (s : Shared) (a : Addr) (u : Value), BindsTo s c_NoPlace.fd ⟨[.ref a], [("place", u)]⟩ [("self", .ref a), ("place", u)]
  c_Unfit : XD K mg "Unfit" "Unfit.__init__" (inClass (topS 6) 0) "ValueError.__new__" veL ["self"]
  c_TooMany : XD K mg "TooMany" "TooMany.__init__" (inClass (topS 5) 0) "ValueError.__new__" veL ["self"]
  c_CanNot : XD K mg "CanNot" "CanNot.__init__" (inClass (topS 4) 0) "ValueError.__new__" veL ["self"]
  v_LookupError : PySem.W.findCls K (.type "LookupError") (.type "type") "__init__" = some (.val (.builtin "LookupError.__init__"))
  v_ValueError : PySem.W.findCls K (.type "ValueError") (.type "type") "__init__" = some (.val (.builtin "ValueError.__init__"))
  ox : OxK K
  i_ValueError : IsTab K (.type "ValueError") [("NoPlace", false), ("BadText", true), ("Broken", true), ("CanNot", true), ("TooMany", true), ("Unfit", true)]
  i_LookupError : IsTab K (.type "LookupError") [("NoPlace", true), ("BadText", false), ("Broken", false), ("CanNot", false), ("TooMany", false), ("Unfit", false)]
  i_Unfit : IsTab K (.ref c_Unfit.C) [("NoPlace", false), ("BadText", false), ("Broken", false), ("CanNot", false), ("TooMany", false), ("Unfit", true)]
  i_TooMany : IsTab K (.ref c_TooMany.C) [("NoPlace", false), ("BadText", false), ("Broken", false), ("CanNot", false), ("TooMany", true), ("Unfit", false)]
  i_CanNot : IsTab K (.ref c_CanNot.C) [("NoPlace", false), ("BadText", false), ("Broken", false), ("CanNot", true), ("TooMany", false), ("Unfit", false)]
  i_Broken : IsTab K (.ref c_Broken.C) [("NoPlace", false), ("BadText", false), ("Broken", true), ("CanNot", false), ("TooMany", false), ("Unfit", false)]
  i_BadText : IsTab K (.ref c_BadText.C) [("NoPlace", false), ("BadText", true), ("Broken", false), ("CanNot", false), ("TooMany", false), ("Unfit", false)]
  i_NoPlace : IsTab K (.ref c_NoPlace.C) [("NoPlace", true), ("BadText", false), ("Broken", false), ("CanNot", false), ("TooMany", false), ("Unfit", false)]
  i_KeyError_IndexError : IsTabs K [.type "KeyError", .type "IndexError"] [("NoPlace", false), ("BadText", false), ("Broken", false), ("CanNot", false), ("TooMany", false), ("Unfit", false)]
  f_line : FdTab K "line" ["BadText"]
  f_place : FdTab K "place" ["NoPlace"]
  f_word : FdTab K "word" ["Broken"]
  n_IndexError : mg "IndexError" = none
  n_KeyError : mg "KeyError" = none
  n_LookupError : mg "LookupError" = none
  n_ValueError : mg "ValueError" = none
  n_all : mg "all" = none
  n_bool : mg "bool" = none
  n_int : mg "int" = none
  n_isinstance : mg "isinstance" = none
  n_len : mg "len" = none
  n_list : mg "list" = none
  n_range : mg "range" = none
  n_str : mg "str" = none
  n_tuple : mg "tuple" = none
  n_zip : mg "zip" = none
section
variable {P : Program} {w : World} {K : PySem.W.Frag} {mg : Str → Option Value} {base : Heap}
theorem scX_Broken : FnScope ["self", "word"] ["self", "word"] (defScope (inClass (topS 3) 0)) := ⟨rfl, rfl, rfl, by decide +kernel, rfl, by decide +kernel, by decide +kernel⟩
theorem okX_Broken (T : Tx K mg) : FnOk P w K mg base (L2.CX P w) 1 T.c_Broken.fI T.c_Broken.fd ["self", "word"] (sp1 T.c_Broken.C "word") := by
  refine T.c_Broken.F.okX scX_Broken (fun _ _ _ _ h => by obtain ⟨_, _, rfl, _⟩ := h; rfl) fun cdv A outer s H vs Q E hr h => ?_
  obtain ⟨a, y, rfl, e, q⟩ := h
  refine ⟨_, pss_cons (ps_expr (pe_binit F.excBase_ValueError T.c_Broken.T.ini (gl_of (by kernel_rfl)) T.n_ValueError (by decide +kernel) ty_ValueError (by decide +kernel) T.v_ValueError (by decide +kernel) (pa_cons (pv 0) (pa_cons (pv 1) pa_nil)))) (pss_one (ps_bset F.store_ValueError T.c_Broken.T T.t_Broken (pv 0) (pv 1))), ?_⟩
  exact ⟨_, rfl, _, rfl, a, [y], rfl, (by show 1 ≤ 1000; decide), e, _, rfl, _, rfl, a, rfl, e, q⟩
theorem scX_BadText : FnScope ["self", "line"] ["self", "line"] (defScope (inClass (topS 2) 0)) := ⟨rfl, rfl, rfl, by decide +kernel, rfl, by decide +kernel, by decide +kernel⟩
theorem okX_BadText (T : Tx K mg) : FnOk P w K mg base (L2.CX P w) 1 T.c_BadText.fI T.c_BadText.fd ["self", "line"] (sp1 T.c_BadText.C "line") := by
  refine T.c_BadText.F.okX scX_BadText (fun _ _ _ _ h => by obtain ⟨_, _, rfl, _⟩ := h; rfl) fun cdv A outer s H vs Q E hr h => ?_
  obtain ⟨a, y, rfl, e, q⟩ := h
  refine ⟨_, pss_cons (ps_expr (pe_binit F.excBase_ValueError T.c_BadText.T.ini (gl_of (by kernel_rfl)) T.n_ValueError (by decide +kernel) ty_ValueError (by decide +kernel) T.v_ValueError (by decide +kernel) (pa_cons (pv 0) (pa_cons (pv 1) pa_nil)))) (pss_one (ps_bset F.store_ValueError T.c_BadText.T T.t_BadText (pv 0) (pv 1))), ?_⟩
  exact ⟨_, rfl, _, rfl, a, [y], rfl, (by show 1 ≤ 1000; decide), e, _, rfl, _, rfl, a, rfl, e, q⟩
theorem scX_NoPlace : FnScope ["self", "place"] ["self", "place"] (defScope (inClass (topS 1) 0)) := ⟨rfl, rfl, rfl, by decide +kernel, rfl, by decide +kernel, by decide +kernel⟩
theorem okX_NoPlace (T : Tx K mg) : FnOk P w K mg base (L2.CX P w) 1 T.c_NoPlace.fI T.c_NoPlace.fd ["self", "place"] (sp1 T.c_NoPlace.C "place") := by
  refine T.c_NoPlace.F.okX scX_NoPlace (fun _ _ _ _ h => by obtain ⟨_, _, rfl, _⟩ := h; rfl) fun cdv A outer s H vs Q E hr h => ?_
  obtain ⟨a, y, rfl, e, q⟩ := h
  refine ⟨_, pss_cons (ps_expr (pe_binit F.excBase_LookupError T.c_NoPlace.T.ini (gl_of (by kernel_rfl)) T.n_LookupError (by decide +kernel) ty_LookupError (by decide +kernel) T.v_LookupError (by decide +kernel) (pa_cons (pv 0) (pa_cons (pv 1) pa_nil)))) (pss_one (ps_bset F.store_LookupError T.c_NoPlace.T T.t_NoPlace (pv 0) (pv 1))), ?_⟩
  exact ⟨_, rfl, _, rfl, a, [y], rfl, (by show 1 ≤ 1000; decide), e, _, rfl, _, rfl, a, rfl, e, q⟩
theorem scX_Unfit : FnScope ["self"] ["self"] (defScope (inClass (topS 6) 0)) := ⟨rfl, rfl, rfl, by decide +kernel, rfl, by decide +kernel, by decide +kernel⟩
theorem okX_Unfit (T : Tx K mg) : FnOk P w K mg base (L2.CX P w) 1 T.c_Unfit.fI T.c_Unfit.fd ["self"] (sp0 T.c_Unfit.C) := by
  refine T.c_Unfit.F.okX scX_Unfit (fun _ _ _ _ h => by obtain ⟨_, rfl, _⟩ := h; rfl) fun cdv A outer s H vs Q E hr h => ?_
  obtain ⟨a, rfl, e, q⟩ := h
  refine ⟨_, pss_one (ps_expr (pe_binit F.excBase_ValueError T.c_Unfit.T.ini (gl_of (by kernel_rfl)) T.n_ValueError (by decide +kernel) ty_ValueError (by decide +kernel) T.v_ValueError (by decide +kernel) (pa_cons (pv 0) pa_nil))), ?_⟩
  exact ⟨_, rfl, a, [], rfl, (by show 0 ≤ 1000; decide), e, q⟩
theorem scX_TooMany : FnScope ["self"] ["self"] (defScope (inClass (topS 5) 0)) := ⟨rfl, rfl, rfl, by decide +kernel, rfl, by decide +kernel, by decide +kernel⟩
theorem okX_TooMany (T : Tx K mg) : FnOk P w K mg base (L2.CX P w) 1 T.c_TooMany.fI T.c_TooMany.fd ["self"] (sp0 T.c_TooMany.C) := by
  refine T.c_TooMany.F.okX scX_TooMany (fun _ _ _ _ h => by obtain ⟨_, rfl, _⟩ := h; rfl) fun cdv A outer s H vs Q E hr h => ?_
  obtain ⟨a, rfl, e, q⟩ := h
  refine ⟨_, pss_one (ps_expr (pe_binit F.excBase_ValueError T.c_TooMany.T.ini (gl_of (by kernel_rfl)) T.n_ValueError (by decide +kernel) ty_ValueError (by decide +kernel) T.v_ValueError (by decide +kernel) (pa_cons (pv 0) pa_nil))), ?_⟩
  exact ⟨_, rfl, a, [], rfl, (by show 0 ≤ 1000; decide), e, q⟩
theorem scX_CanNot : FnScope ["self"] ["self"] (defScope (inClass (topS 4) 0)) := ⟨rfl, rfl, rfl, by decide +kernel, rfl, by decide +kernel, by decide +kernel⟩
theorem okX_CanNot (T : Tx K mg) : FnOk P w K mg base (L2.CX P w) 1 T.c_CanNot.fI T.c_CanNot.fd ["self"] (sp0 T.c_CanNot.C) := by
  refine T.c_CanNot.F.okX scX_CanNot (fun _ _ _ _ h => by obtain ⟨_, rfl, _⟩ := h; rfl) fun cdv A outer s H vs Q E hr h => ?_
  obtain ⟨a, rfl, e, q⟩ := h
  refine ⟨_, pss_one (ps_expr (pe_binit F.excBase_ValueError T.c_CanNot.T.ini (gl_of (by kernel_rfl)) T.n_ValueError (by decide +kernel) ty_ValueError (by decide +kernel) T.v_ValueError (by decide +kernel) (pa_cons (pv 0) pa_nil))), ?_⟩
  exact ⟨_, rfl, a, [], rfl, (by show 0 ≤ 1000; decide), e, q⟩
/-! _law_same -/
theorem sc__law_same : FnScope ["got", "goal", "mine_so", "own"] ["got", "goal"] (defScope (topS 8)) := ⟨rfl, rfl, rfl, by decide +kernel, rfl, by decide +kernel, by decide +kernel⟩
def b__law_same (self : GC) : MS := (sSeq (sIf (mT (mIsi [.list, .tuple] (mVar 1))) (sSeq (sIf (mOrT (mT (mBin gNe (mIsi [.list] (mVar 0)) (mIsi [.list] (mVar 1)))) (mT (mBin gNe (mIsi [.tuple] (mVar 0)) (mIsi [.tuple] (mVar 1))))) (sRet (mC (.bl false))) sNil) (sRet (mAnd (mBin gEq (mCall gLen (mCons (mVar 0) mNil)) (mCall gLen (mCons (mVar 1) mNil))) (mCall gAll (mCons (mLc 100000 false (iZp (mCons (mVar 0) (mCons (mVar 1) mNil))) [2, 3] (gTp 2 (gC (gNm 2) (gC (gNm 3) gN0))) mYes (mCall (ar 2 self) (mCons (mVar 2) (mCons (mVar 3) mNil)))) mNil))))) sNil) (sSeq (sIf (mOrT (mT (mBin (gIs id) (mVar 1) (mC .non))) (mT (mIsi [.bool, .str] (mVar 1)))) (sRet (mAnd (mBin gEq (mVar 0) (mVar 1)) (mAnd (mBin gEq (mIsi [.bool] (mVar 0)) (mIsi [.bool] (mVar 1))) (mBin gEq (mBin (gIs id) (mVar 0) (mC .non)) (mBin (gIs id) (mVar 1) (mC .non)))))) sNil) (sRet (mAnd (mIsi [.int] (mVar 0)) (mAnd (mNot (mIsi [.bool] (mVar 0))) (mBin gEq (mVar 0) (mVar 1)))))))
def r__law_same : Nat → GC
  | 0 => fun _ _ => .bad
  | l + 1 => runB 2 (b__law_same (r__law_same l))
theorem ok__law_same (T : Tx K mg) : ∀ l : Nat, FOk P w K mg base (l + 0) T.d__law_same.f T.d__law_same.fd ["got", "goal"] (r__law_same l)
  | 0 => fn_bad
  | l + 1 => by
    have IH := ok__law_same T l
    rw [show l + 1 + 0 = (l + 0) + 1 by omega]
    refine fn_ok 2 T.d__law_same.F sc__law_same rfl fun cdv A outer s H E hr => ?_
    exact (s_cons (s_if (t_val (e_isi2 .list .tuple (by decide) (by decide) (gl_of (by kernel_rfl)) T.n_isinstance (gl_of (by kernel_rfl)) T.n_list (by decide +kernel) (gl_of (by kernel_rfl)) T.n_tuple (by decide +kernel) (e_v 1 rfl (.inl (by kernel_rfl))))) (s_cons (s_if (MW.t (w_or (t_ne hr.units (e_isi .list (by decide) (gl_of (by kernel_rfl)) T.n_isinstance (gl_of (by kernel_rfl)) T.n_list (by decide +kernel) (e_v 0 rfl (.inl (by kernel_rfl)))) (e_isi .list (by decide) (gl_of (by kernel_rfl)) T.n_isinstance (gl_of (by kernel_rfl)) T.n_list (by decide +kernel) (e_v 1 rfl (.inl (by kernel_rfl))))) (w_or1 (t_ne hr.units (e_isi .tuple (by decide) (gl_of (by kernel_rfl)) T.n_isinstance (gl_of (by kernel_rfl)) T.n_tuple (by decide +kernel) (e_v 0 rfl (.inl (by kernel_rfl)))) (e_isi .tuple (by decide) (gl_of (by kernel_rfl)) T.n_isinstance (gl_of (by kernel_rfl)) T.n_tuple (by decide +kernel) (e_v 1 rfl (.inl (by kernel_rfl)))))))) (s_one (s_ret e_bl)) s_nil) (s_one (s_ret (e_and (e_eq hr.units (e_len (gl_of (by kernel_rfl)) T.n_len (a_cons (e_v 0 rfl (.inl (by kernel_rfl))) a_nil)) (e_len (gl_of (by kernel_rfl)) T.n_len (a_cons (e_v 1 rfl (.inl (by kernel_rfl))) a_nil))) (e_one (e_all rfl (gl_of (by kernel_rfl)) T.n_all (a_cons (e_lcv 100000 false [2, 3] rfl sc__law_same.nd (blkOk_by (own := [("mine_so", 2), ("own", 3)]) (N := ["got", "goal", "mine_so", "own"]) (sc := defScope (topS 8)) (by decide +kernel)) (by decide) (i_zp (gl_of (by kernel_rfl)) T.n_zip (a_cons (e_v 0 rfl (.inl (by kernel_rfl))) (a_cons (e_v 1 rfl (.inl (by kernel_rfl))) a_nil))) (fun s H C cl fp => (g_tp (n := 2) rfl (g_c (g_nm (i := 2) sc__law_same.nd rfl (.inl (by kernel_rfl)) (.inr (by kernel_rfl))) (g_c (g_nm (i := 3) sc__law_same.nd rfl (.inl (by kernel_rfl)) (.inr (by kernel_rfl))) g_n0)))) (fun s H C cl fp => ts_nil) (fun s H C cl fp => (e_call IH hr takes0 (gl_of (by kernel_rfl)) T.d__law_same.m T.d__law_same.F.kp T.d__law_same.b (a_cons (e_v 2 rfl (.inl (by kernel_rfl))) (a_cons (e_v 3 rfl (.inl (by kernel_rfl))) a_nil))))) a_nil))))))) s_nil) (s_cons (s_if (MW.t (w_or (t_is (e_v 1 rfl (.inl (by kernel_rfl))) e_non) (w_or1 (t_val (e_isi2 .bool .str (by decide) (by decide) (gl_of (by kernel_rfl)) T.n_isinstance (gl_of (by kernel_rfl)) T.n_bool (by decide +kernel) (gl_of (by kernel_rfl)) T.n_str (by decide +kernel) (e_v 1 rfl (.inl (by kernel_rfl)))))))) (s_one (s_ret (e_and (e_eq hr.units (e_v 0 rfl (.inl (by kernel_rfl))) (e_v 1 rfl (.inl (by kernel_rfl)))) (e_and (e_eq hr.units (e_isi .bool (by decide) (gl_of (by kernel_rfl)) T.n_isinstance (gl_of (by kernel_rfl)) T.n_bool (by decide +kernel) (e_v 0 rfl (.inl (by kernel_rfl)))) (e_isi .bool (by decide) (gl_of (by kernel_rfl)) T.n_isinstance (gl_of (by kernel_rfl)) T.n_bool (by decide +kernel) (e_v 1 rfl (.inl (by kernel_rfl))))) (e_one (e_eq hr.units (e_is (e_v 0 rfl (.inl (by kernel_rfl))) e_non) (e_is (e_v 1 rfl (.inl (by kernel_rfl))) e_non))))))) s_nil) (s_one (s_ret (e_and (e_isi .int (by decide) (gl_of (by kernel_rfl)) T.n_isinstance (gl_of (by kernel_rfl)) T.n_int (by decide +kernel) (e_v 0 rfl (.inl (by kernel_rfl)))) (e_and (e_not (e_isi .bool (by decide) (gl_of (by kernel_rfl)) T.n_isinstance (gl_of (by kernel_rfl)) T.n_bool (by decide +kernel) (e_v 0 rfl (.inl (by kernel_rfl))))) (e_one (e_eq hr.units (e_v 0 rfl (.inl (by kernel_rfl))) (e_v 1 rfl (.inl (by kernel_rfl)))))))))))
/-! law -/
theorem sc_law : FnScope ["script", "pair", "got", "some", "own", "due", "words", "k", "j"] ["script"] (defScope (topS 9)) := ⟨rfl, rfl, rfl, by decide +kernel, rfl, by decide +kernel, by decide +kernel⟩
def b_law : MS := (sSeq (sAsg (mLst (mCons (mCall (gNew "NoPlace" ["place"]) (mCons (mC (.int 7)) mNil)) (mCons (mCall (gNew "NoPlace" ["place"]) (mCons (mC (.int 8)) mNil)) (mCons (mCall (gNew "BadText" ["line"]) (mCons (mC (.int 3)) mNil)) (mCons (mCall (gNew "BadText" ["line"]) (mCons (mC (.int 4)) mNil)) (mCons (mCall (gNew "Broken" ["word"]) (mCons (mC (.str "act")) mNil)) (mCons (mCall (gNew "Broken" ["word"]) (mCons (mC (.str "clock")) mNil)) mNil))))))) (gNm 1)) (sSeq (sAsg (mLst (mCons (mFld ["NoPlace"] "place" (mBin gIx (mVar 1) (mC (.int 0)))) (mCons (mFld ["NoPlace"] "place" (mCall (gNew "NoPlace" ["place"]) (mCons (mC (.int 5)) mNil))) (mCons (mFld ["BadText"] "line" (mBin gIx (mVar 1) (mC (.int 2)))) (mCons (mFld ["BadText"] "line" (mCall (gNew "BadText" ["line"]) (mCons (mC (.int 1)) mNil))) (mCons (mFld ["NoPlace"] "place" (mBin gIx (mVar 1) (mC (.int 1)))) (mCons (mFld ["BadText"] "line" (mBin gIx (mVar 1) (mC (.int 3)))) mNil))))))) (gNm 2)) (sSeq (sAsg (mBin (gAdd false) (mVar 2) (mLst (mCons (mFld ["Broken"] "word" (mBin gIx (mVar 1) (mC (.int 4)))) (mCons (mFld ["Broken"] "word" (mBin gIx (mVar 1) (mC (.int 5)))) (mCons (mFld ["Broken"] "word" (mCall (gNew "Broken" ["word"]) (mCons (mC (.str "leg")) mNil))) mNil))))) (gNm 2)) (sSeq (sAsg (mLst (mCons (mCall (gNew "NoPlace" ["place"]) (mCons (mC (.int 1)) mNil)) (mCons (mCall (gNew "BadText" ["line"]) (mCons (mC (.int 1)) mNil)) (mCons (mCall (gNew "Broken" ["word"]) (mCons (mC (.str "act")) mNil)) (mCons (fun _ s => gNew "CanNot" [] [] s) (mCons (fun _ s => gNew "TooMany" [] [] s) (mCons (fun _ s => gNew "Unfit" [] [] s) mNil))))))) (gNm 3)) (sSeq (sAsg (mBin (gAdd true) (mVar 2) (mLst (mCons (mLc 100000 false (iLst (mVar 3)) [4] (gNm 4) mYes (mIsx [("NoPlace", true), ("BadText", false), ("Broken", false), ("CanNot", false), ("TooMany", false), ("Unfit", false)] (mVar 4))) (mCons (mLc 100000 false (iLst (mVar 3)) [4] (gNm 4) mYes (mIsx [("NoPlace", false), ("BadText", true), ("Broken", true), ("CanNot", true), ("TooMany", true), ("Unfit", true)] (mVar 4))) (mCons (mLc 100000 false (iLst (mVar 3)) [4] (gNm 4) mYes (mIsx [("NoPlace", false), ("BadText", false), ("Broken", false), ("CanNot", false), ("TooMany", false), ("Unfit", false)] (mVar 4))) mNil))))) (gNm 2)) (sSeq (sFor 100000 (iLst (mVar 3)) (gNm 4) (sExp (mApp (mVar 2) (mLst (mCons (mIsx [("NoPlace", true), ("BadText", false), ("Broken", false), ("CanNot", false), ("TooMany", false), ("Unfit", false)] (mVar 4)) (mCons (mIsx [("NoPlace", false), ("BadText", true), ("Broken", false), ("CanNot", false), ("TooMany", false), ("Unfit", false)] (mVar 4)) (mCons (mIsx [("NoPlace", false), ("BadText", false), ("Broken", true), ("CanNot", false), ("TooMany", false), ("Unfit", false)] (mVar 4)) (mCons (mIsx [("NoPlace", false), ("BadText", false), ("Broken", false), ("CanNot", true), ("TooMany", false), ("Unfit", false)] (mVar 4)) (mCons (mIsx [("NoPlace", false), ("BadText", false), ("Broken", false), ("CanNot", false), ("TooMany", true), ("Unfit", false)] (mVar 4)) (mCons (mIsx [("NoPlace", false), ("BadText", false), ("Broken", false), ("CanNot", false), ("TooMany", false), ("Unfit", true)] (mVar 4)) mNil)))))))))) (sSeq (sAsg (mLc 100000 false (iR1 (mCons (mC (.int 6)) mNil)) [7] (gNm 7) mYes (mLc 100000 false (iR1 (mCons (mC (.int 6)) mNil)) [8] (gNm 8) mYes (mBin gEq (mVar 8) (mVar 7)))) (gNm 5)) (sSeq (sAsg (mLst (mCons (mC (.str "act")) (mCons (mC (.str "clock")) (mCons (mC (.str "leg")) mNil)))) (gNm 6)) (sRet (mCall (ar 2 (r__law_same 12)) (mCons (mVar 2) (mCons (mBin (gAdd false) (mBin (gAdd false) (mBin (gAdd false) (mLst (mCons (mC (.int 7)) (mCons (mC (.int 5)) (mCons (mC (.int 3)) (mCons (mC (.int 1)) (mCons (mC (.int 8)) (mCons (mC (.int 4)) mNil))))))) (mVar 6)) (mLst (mCons (mBin (gAdd false) (mLst (mCons (mC (.bl true)) mNil)) (mBin (gMul false) (mLst (mCons (mC (.bl false)) mNil)) (mC (.int 5)))) (mCons (mBin (gAdd false) (mLst (mCons (mC (.bl false)) mNil)) (mBin (gMul false) (mLst (mCons (mC (.bl true)) mNil)) (mC (.int 5)))) (mCons (mBin (gMul false) (mLst (mCons (mC (.bl false)) mNil)) (mC (.int 6))) mNil))))) (mVar 5)) mNil))))))))))))
def r_law : GC := runB 8 b_law
theorem ok_law (T : Tx K mg) : FOk P w K mg base 13 T.d_law.f T.d_law.fd ["script"] r_law := by
  refine fn_ok 8 T.d_law.F sc_law rfl fun cdv A outer s H E hr => ?_
  exact (s_cons (s_asg (e_lst (a_cons (e_new1 F.excBase_LookupError T.c_NoPlace.T T.c_NoPlace.ns T.c_NoPlace.iC T.c_NoPlace.tI (okX_NoPlace (P := P) (w := w) (base := base) T) (hr.mono (by first | decide | omega)) T.c_NoPlace.b (takes_of rfl rfl rfl rfl) (gl_of (by kernel_rfl)) T.c_NoPlace.m (a_cons e_int a_nil)) (a_cons (e_new1 F.excBase_LookupError T.c_NoPlace.T T.c_NoPlace.ns T.c_NoPlace.iC T.c_NoPlace.tI (okX_NoPlace (P := P) (w := w) (base := base) T) (hr.mono (by first | decide | omega)) T.c_NoPlace.b (takes_of rfl rfl rfl rfl) (gl_of (by kernel_rfl)) T.c_NoPlace.m (a_cons e_int a_nil)) (a_cons (e_new1 F.excBase_ValueError T.c_BadText.T T.c_BadText.ns T.c_BadText.iC T.c_BadText.tI (okX_BadText (P := P) (w := w) (base := base) T) (hr.mono (by first | decide | omega)) T.c_BadText.b (takes_of rfl rfl rfl rfl) (gl_of (by kernel_rfl)) T.c_BadText.m (a_cons e_int a_nil)) (a_cons (e_new1 F.excBase_ValueError T.c_BadText.T T.c_BadText.ns T.c_BadText.iC T.c_BadText.tI (okX_BadText (P := P) (w := w) (base := base) T) (hr.mono (by first | decide | omega)) T.c_BadText.b (takes_of rfl rfl rfl rfl) (gl_of (by kernel_rfl)) T.c_BadText.m (a_cons e_int a_nil)) (a_cons (e_new1 F.excBase_ValueError T.c_Broken.T T.c_Broken.ns T.c_Broken.iC T.c_Broken.tI (okX_Broken (P := P) (w := w) (base := base) T) (hr.mono (by first | decide | omega)) T.c_Broken.b (takes_of rfl rfl rfl rfl) (gl_of (by kernel_rfl)) T.c_Broken.m (a_cons e_str a_nil)) (a_cons (e_new1 F.excBase_ValueError T.c_Broken.T T.c_Broken.ns T.c_Broken.iC T.c_Broken.tI (okX_Broken (P := P) (w := w) (base := base) T) (hr.mono (by first | decide | omega)) T.c_Broken.b (takes_of rfl rfl rfl rfl) (gl_of (by kernel_rfl)) T.c_Broken.m (a_cons e_str a_nil)) a_nil))))))) (g_nm (i := 1) sc_law.nd rfl (.inl (by kernel_rfl)) (.inl rfl)) calm_nm) (s_cons (s_asg (e_lst (a_cons (e_fld (tab := ["NoPlace"]) T.f_place (e_ix (e_v 1 rfl (.inl (by kernel_rfl))) e_int)) (a_cons (e_fld (tab := ["NoPlace"]) T.f_place (e_new1K F.excBase_LookupError T.c_NoPlace.T T.c_NoPlace.ns T.c_NoPlace.iC T.c_NoPlace.tI (okX_NoPlace (P := P) (w := w) (base := base) T) (hr.mono (by first | decide | omega)) T.k_NoPlace (takes_of rfl rfl rfl rfl) (gl_of (by kernel_rfl)) T.c_NoPlace.m (k_cons e_int k_nil))) (a_cons (e_fld (tab := ["BadText"]) T.f_line (e_ix (e_v 1 rfl (.inl (by kernel_rfl))) e_int)) (a_cons (e_fld (tab := ["BadText"]) T.f_line (e_new1K F.excBase_ValueError T.c_BadText.T T.c_BadText.ns T.c_BadText.iC T.c_BadText.tI (okX_BadText (P := P) (w := w) (base := base) T) (hr.mono (by first | decide | omega)) T.k_BadText (takes_of rfl rfl rfl rfl) (gl_of (by kernel_rfl)) T.c_BadText.m (k_cons e_int k_nil))) (a_cons (e_fld (tab := ["NoPlace"]) T.f_place (e_ix (e_v 1 rfl (.inl (by kernel_rfl))) e_int)) (a_cons (e_fld (tab := ["BadText"]) T.f_line (e_ix (e_v 1 rfl (.inl (by kernel_rfl))) e_int)) a_nil))))))) (g_nm (i := 2) sc_law.nd rfl (.inl (by kernel_rfl)) (.inl rfl)) calm_nm) (s_cons (s_asg (e_add (fr := false) (e_v 2 rfl (.inl (by kernel_rfl))) (e_lst (a_cons (e_fld (tab := ["Broken"]) T.f_word (e_ix (e_v 1 rfl (.inl (by kernel_rfl))) e_int)) (a_cons (e_fld (tab := ["Broken"]) T.f_word (e_ix (e_v 1 rfl (.inl (by kernel_rfl))) e_int)) (a_cons (e_fld (tab := ["Broken"]) T.f_word (e_new1K F.excBase_ValueError T.c_Broken.T T.c_Broken.ns T.c_Broken.iC T.c_Broken.tI (okX_Broken (P := P) (w := w) (base := base) T) (hr.mono (by first | decide | omega)) T.k_Broken (takes_of rfl rfl rfl rfl) (gl_of (by kernel_rfl)) T.c_Broken.m (k_cons e_str k_nil))) a_nil))))) (g_nm (i := 2) sc_law.nd rfl (.inl (by kernel_rfl)) (.inl rfl)) calm_nm) (s_cons (s_asg (e_lst (a_cons (e_new1 F.excBase_LookupError T.c_NoPlace.T T.c_NoPlace.ns T.c_NoPlace.iC T.c_NoPlace.tI (okX_NoPlace (P := P) (w := w) (base := base) T) (hr.mono (by first | decide | omega)) T.c_NoPlace.b (takes_of rfl rfl rfl rfl) (gl_of (by kernel_rfl)) T.c_NoPlace.m (a_cons e_int a_nil)) (a_cons (e_new1 F.excBase_ValueError T.c_BadText.T T.c_BadText.ns T.c_BadText.iC T.c_BadText.tI (okX_BadText (P := P) (w := w) (base := base) T) (hr.mono (by first | decide | omega)) T.c_BadText.b (takes_of rfl rfl rfl rfl) (gl_of (by kernel_rfl)) T.c_BadText.m (a_cons e_int a_nil)) (a_cons (e_new1 F.excBase_ValueError T.c_Broken.T T.c_Broken.ns T.c_Broken.iC T.c_Broken.tI (okX_Broken (P := P) (w := w) (base := base) T) (hr.mono (by first | decide | omega)) T.c_Broken.b (takes_of rfl rfl rfl rfl) (gl_of (by kernel_rfl)) T.c_Broken.m (a_cons e_str a_nil)) (a_cons (e_new0 F.excBase_ValueError T.c_CanNot.T T.c_CanNot.ns T.c_CanNot.iC T.c_CanNot.tI (okX_CanNot (P := P) (w := w) (base := base) T) (hr.mono (by first | decide | omega)) T.c_CanNot.b (takes_of rfl rfl rfl rfl) (gl_of (by kernel_rfl)) T.c_CanNot.m) (a_cons (e_new0 F.excBase_ValueError T.c_TooMany.T T.c_TooMany.ns T.c_TooMany.iC T.c_TooMany.tI (okX_TooMany (P := P) (w := w) (base := base) T) (hr.mono (by first | decide | omega)) T.c_TooMany.b (takes_of rfl rfl rfl rfl) (gl_of (by kernel_rfl)) T.c_TooMany.m) (a_cons (e_new0 F.excBase_ValueError T.c_Unfit.T T.c_Unfit.ns T.c_Unfit.iC T.c_Unfit.tI (okX_Unfit (P := P) (w := w) (base := base) T) (hr.mono (by first | decide | omega)) T.c_Unfit.b (takes_of rfl rfl rfl rfl) (gl_of (by kernel_rfl)) T.c_Unfit.m) a_nil))))))) (g_nm (i := 3) sc_law.nd rfl (.inl (by kernel_rfl)) (.inl rfl)) calm_nm) (s_cons (s_asg (e_add (fr := true) (e_v 2 rfl (.inl (by kernel_rfl))) (e_lst (a_cons (e_lcv 100000 false [4] rfl sc_law.nd (blkOk_by (own := [("own", 4)]) (N := ["script", "pair", "got", "some", "own", "due", "words", "k", "j"]) (sc := defScope (topS 9)) (by decide +kernel)) (by decide) (i_lst (e_v 3 rfl (.inl (by kernel_rfl)))) (fun s H C cl fp => (g_nm (i := 4) sc_law.nd rfl (.inl (by kernel_rfl)) (.inr (by kernel_rfl)))) (fun s H C cl fp => ts_nil) (fun s H C cl fp => (e_isx T.ox (gl_of (by kernel_rfl)) T.n_isinstance (pe_bltn (v := .ty "LookupError") (gl_of (by kernel_rfl)) T.n_LookupError (by decide +kernel) rfl) (fun _ r => r) T.i_LookupError (e_v 4 rfl (.inl (by kernel_rfl)))))) (a_cons (e_lcv 100000 false [4] rfl sc_law.nd (blkOk_by (own := [("own", 4)]) (N := ["script", "pair", "got", "some", "own", "due", "words", "k", "j"]) (sc := defScope (topS 9)) (by decide +kernel)) (by decide) (i_lst (e_v 3 rfl (.inl (by kernel_rfl)))) (fun s H C cl fp => (g_nm (i := 4) sc_law.nd rfl (.inl (by kernel_rfl)) (.inr (by kernel_rfl)))) (fun s H C cl fp => ts_nil) (fun s H C cl fp => (e_isx T.ox (gl_of (by kernel_rfl)) T.n_isinstance (pe_bltn (v := .ty "ValueError") (gl_of (by kernel_rfl)) T.n_ValueError (by decide +kernel) rfl) (fun _ r => r) T.i_ValueError (e_v 4 rfl (.inl (by kernel_rfl)))))) (a_cons (e_lcv 100000 false [4] rfl sc_law.nd (blkOk_by (own := [("own", 4)]) (N := ["script", "pair", "got", "some", "own", "due", "words", "k", "j"]) (sc := defScope (topS 9)) (by decide +kernel)) (by decide) (i_lst (e_v 3 rfl (.inl (by kernel_rfl)))) (fun s H C cl fp => (g_nm (i := 4) sc_law.nd rfl (.inl (by kernel_rfl)) (.inr (by kernel_rfl)))) (fun s H C cl fp => ts_nil) (fun s H C cl fp => (e_isx2 T.ox (gl_of (by kernel_rfl)) T.n_isinstance (pe_bltn (v := .ty "KeyError") (gl_of (by kernel_rfl)) T.n_KeyError (by decide +kernel) rfl) (pe_bltn (v := .ty "IndexError") (gl_of (by kernel_rfl)) T.n_IndexError (by decide +kernel) rfl) T.i_KeyError_IndexError (e_v 4 rfl (.inl (by kernel_rfl)))))) a_nil))))) (g_nm (i := 2) sc_law.nd rfl (.inl (by kernel_rfl)) (.inl rfl)) calm_nm) (s_cons (s_for 100000 (passes_of rfl) rfl (i_lst (e_v 3 rfl (.inl (by kernel_rfl)))) (g_nm (i := 4) sc_law.nd rfl (.inl (by kernel_rfl)) (.inl rfl)) (s_one (s_exp (e_app (e_v 2 rfl (.inl (by kernel_rfl))) (e_lst (a_cons (e_isx T.ox (gl_of (by kernel_rfl)) T.n_isinstance (pe_glob (v := .ref T.c_NoPlace.C) (gl_of (by kernel_rfl)) T.c_NoPlace.m rfl) (fun _ r => r) T.i_NoPlace (e_v 4 rfl (.inl (by kernel_rfl)))) (a_cons (e_isx T.ox (gl_of (by kernel_rfl)) T.n_isinstance (pe_glob (v := .ref T.c_BadText.C) (gl_of (by kernel_rfl)) T.c_BadText.m rfl) (fun _ r => r) T.i_BadText (e_v 4 rfl (.inl (by kernel_rfl)))) (a_cons (e_isx T.ox (gl_of (by kernel_rfl)) T.n_isinstance (pe_glob (v := .ref T.c_Broken.C) (gl_of (by kernel_rfl)) T.c_Broken.m rfl) (fun _ r => r) T.i_Broken (e_v 4 rfl (.inl (by kernel_rfl)))) (a_cons (e_isx T.ox (gl_of (by kernel_rfl)) T.n_isinstance (pe_glob (v := .ref T.c_CanNot.C) (gl_of (by kernel_rfl)) T.c_CanNot.m rfl) (fun _ r => r) T.i_CanNot (e_v 4 rfl (.inl (by kernel_rfl)))) (a_cons (e_isx T.ox (gl_of (by kernel_rfl)) T.n_isinstance (pe_glob (v := .ref T.c_TooMany.C) (gl_of (by kernel_rfl)) T.c_TooMany.m rfl) (fun _ r => r) T.i_TooMany (e_v 4 rfl (.inl (by kernel_rfl)))) (a_cons (e_isx T.ox (gl_of (by kernel_rfl)) T.n_isinstance (pe_glob (v := .ref T.c_Unfit.C) (gl_of (by kernel_rfl)) T.c_Unfit.m rfl) (fun _ r => r) T.i_Unfit (e_v 4 rfl (.inl (by kernel_rfl)))) a_nil))))))))))) (s_cons (s_lcv (i := 5) 100000 false [7] rfl sc_law.nd rfl rfl (sw_true rfl rfl rfl (by decide +kernel)) (blkOk_by (own := [("k", 7)]) (N := ["script", "pair", "got", "some", "own", "due", "words", "k", "j"]) (sc := defScope (topS 9)) (by decide +kernel)) (by decide) (i_r1 (gl_of (by kernel_rfl)) T.n_range (a_cons e_int a_nil)) (fun s H C cl fp => (g_nm (i := 7) sc_law.nd rfl (.inr (by kernel_rfl)) (.inl (by kernel_rfl)))) (fun s H C cl fp => ts_nil) (fun s H C cl fp => (e_lcv 100000 false [8] rfl sc_law.nd (blkOk_by (own := [("j", 8)]) (N := ["script", "pair", "got", "some", "own", "due", "words", "k", "j"]) (by kernel_rfl)) (by decide) (i_r1 (gl_of (by kernel_rfl)) T.n_range (a_cons e_int a_nil)) (fun s H C cl fp => (g_nm (i := 8) sc_law.nd rfl (.inl (by kernel_rfl)) (.inr (by kernel_rfl)))) (fun s H C cl fp => ts_nil) (fun s H C cl fp => (e_eq hr.units (e_v 8 rfl (.inl (by kernel_rfl))) (e_v 7 rfl (.inr (.inl (by kernel_rfl))))))))) (s_cons (s_asg (e_lst (a_cons e_str (a_cons e_str (a_cons e_str a_nil)))) (g_nm (i := 6) sc_law.nd rfl (.inl (by kernel_rfl)) (.inl rfl)) calm_nm) (s_one (s_ret (e_call (ok__law_same (P := P) (w := w) (base := base) T 12) (hr.mono (by first | decide | omega)) (takes_of rfl rfl rfl rfl) (gl_of (by kernel_rfl)) T.d__law_same.m T.d__law_same.F.kp T.d__law_same.b (a_cons (e_v 2 rfl (.inl (by kernel_rfl))) (a_cons (e_add (fr := false) (e_add (fr := false) (e_add (fr := false) (e_lst (a_cons e_int (a_cons e_int (a_cons e_int (a_cons e_int (a_cons e_int (a_cons e_int a_nil))))))) (e_v 6 rfl (.inl (by kernel_rfl)))) (e_lst (a_cons (e_add (fr := false) (e_lst (a_cons e_bl a_nil)) (e_mul (fr := false) (e_lst (a_cons e_bl a_nil)) e_int)) (a_cons (e_add (fr := false) (e_lst (a_cons e_bl a_nil)) (e_mul (fr := false) (e_lst (a_cons e_bl a_nil)) e_int)) (a_cons (e_mul (fr := false) (e_lst (a_cons e_bl a_nil)) e_int) a_nil))))) (e_v 5 rfl (.inl (by kernel_rfl)))) a_nil)))))))))))))
end
theorem all_mk {P : Program} {w : World} {K : PySem.W.Frag} {h : Heap} {mg : Str → Option Value} {fa : Addr} (X : K.In h) (G : h.Ns mainGlobals mg) (hfa : mg "law" = some (.ref fa))
    {C_Broken : Addr} {fI_Broken : Addr} {ocXBroken kVXBroken dcXBroken pmXBroken cdXBroken ctXBroken : Value} {odXBroken anXBroken : Option Addr} {slXBroken : Array (Option Value)} {C_BadText : Addr} {fI_BadText : Addr} {ocXBadText kVXBadText dcXBadText pmXBadText cdXBadText ctXBadText : Value} {odXBadText anXBadText : Option Addr} {slXBadText : Array (Option Value)} {C_NoPlace : Addr} {fI_NoPlace : Addr} {ocXNoPlace kVXNoPlace dcXNoPlace pmXNoPlace cdXNoPlace ctXNoPlace : Value} {odXNoPlace anXNoPlace : Option Addr} {slXNoPlace : Array (Option Value)} {C_Unfit : Addr} {fI_Unfit : Addr} {ocXUnfit kVXUnfit dcXUnfit pmXUnfit cdXUnfit ctXUnfit : Value} {odXUnfit anXUnfit : Option Addr} {slXUnfit : Array (Option Value)} {C_TooMany : Addr} {fI_TooMany : Addr} {ocXTooMany kVXTooMany dcXTooMany pmXTooMany cdXTooMany ctXTooMany : Value} {odXTooMany anXTooMany : Option Addr} {slXTooMany : Array (Option Value)} {C_CanNot : Addr} {fI_CanNot : Addr} {ocXCanNot kVXCanNot dcXCanNot pmXCanNot cdXCanNot ctXCanNot : Value} {odXCanNot anXCanNot : Option Addr} {slXCanNot : Array (Option Value)} {f__law_same : Addr} {ocD_law_same kVD_law_same dcD_law_same pmD_law_same cdD_law_same ctD_law_same : Value} {odD_law_same anD_law_same : Option Addr} {slD_law_same : Array (Option Value)} {f_law : Addr} {ocDlaw kVDlaw dcDlaw pmDlaw cdDlaw ctDlaw : Value} {odDlaw anDlaw : Option Addr} {slDlaw : Array (Option Value)}
    (a_Broken : PySem.W.nsIn K mainGlobals "Broken" = some (some (.ref C_Broken)))
    (b_Broken : PySem.W.findIn K (.ref C_Broken) "__init__" = some (some (.ref fI_Broken)))
    (lXBroken : K.lookup fI_Broken = some ⟨ocXBroken, odXBroken, .func (PySem.W.fnOf "__init__" "Broken.__init__" (defArgs (inClass (topS 3) 0)) (defBody (inClass (topS 3) 0)) (defScope (inClass (topS 3) 0)) .none kVXBroken dcXBroken pmXBroken anXBroken cdXBroken ctXBroken), slXBroken⟩)
    (ccXBroken : PySem.W.codeIn K cdXBroken "Broken.__init__" = true)
    (kkXBroken : PySem.W.keepIn K (.ref fI_Broken) = true)
    (c_Broken : PySem.W.typeIn K (.ref fI_Broken) = some (.type "function"))
    (d_Broken : PySem.W.excInitIn K C_Broken veL "ValueError.__new__" = true)
    (e_Broken : PySem.W.excOver K C_Broken veL = true)
    (sa_Broken : PySem.W.findIn K (.ref C_Broken) "__setattr__" = some (some (.builtin "object.__setattr__")))
    (ke_Broken : PySem.W.keepIn K (.ref C_Broken) = true)
    (hd_Broken : PySem.W.hasDictIn K C_Broken = true)
    (ga_Broken : PySem.W.findIn K (.ref C_Broken) "__getattribute__" = some (some (.builtin "BaseException.__getattribute__")))
    (gg_Broken : PySem.W.findIn K (.ref C_Broken) "__getattr__" = some none)
    (sx_Broken : PySem.W.subIn K (.ref C_Broken) (.type "BaseException") = some true)
    (cl_Broken : PySem.W.findIn K (.ref C_Broken) "__class__" = some (some (.builtin "object.__class__")))
    (ob_Broken : PySem.W.mroIn K C_Broken (.type "object") = some true)
    (tf_Broken : PySem.W.takerIn K C_Broken "word" = some none)
    (ff_Broken : PySem.W.findIn K (.ref C_Broken) "word" = some none)
    (a_BadText : PySem.W.nsIn K mainGlobals "BadText" = some (some (.ref C_BadText)))
    (b_BadText : PySem.W.findIn K (.ref C_BadText) "__init__" = some (some (.ref fI_BadText)))
    (lXBadText : K.lookup fI_BadText = some ⟨ocXBadText, odXBadText, .func (PySem.W.fnOf "__init__" "BadText.__init__" (defArgs (inClass (topS 2) 0)) (defBody (inClass (topS 2) 0)) (defScope (inClass (topS 2) 0)) .none kVXBadText dcXBadText pmXBadText anXBadText cdXBadText ctXBadText), slXBadText⟩)
    (ccXBadText : PySem.W.codeIn K cdXBadText "BadText.__init__" = true)
    (kkXBadText : PySem.W.keepIn K (.ref fI_BadText) = true)
    (c_BadText : PySem.W.typeIn K (.ref fI_BadText) = some (.type "function"))
    (d_BadText : PySem.W.excInitIn K C_BadText veL "ValueError.__new__" = true)
    (e_BadText : PySem.W.excOver K C_BadText veL = true)
    (sa_BadText : PySem.W.findIn K (.ref C_BadText) "__setattr__" = some (some (.builtin "object.__setattr__")))
    (ke_BadText : PySem.W.keepIn K (.ref C_BadText) = true)
    (hd_BadText : PySem.W.hasDictIn K C_BadText = true)
    (ga_BadText : PySem.W.findIn K (.ref C_BadText) "__getattribute__" = some (some (.builtin "BaseException.__getattribute__")))
    (gg_BadText : PySem.W.findIn K (.ref C_BadText) "__getattr__" = some none)
    (sx_BadText : PySem.W.subIn K (.ref C_BadText) (.type "BaseException") = some true)
    (cl_BadText : PySem.W.findIn K (.ref C_BadText) "__class__" = some (some (.builtin "object.__class__")))
    (ob_BadText : PySem.W.mroIn K C_BadText (.type "object") = some true)
    (tf_BadText : PySem.W.takerIn K C_BadText "line" = some none)
    (ff_BadText : PySem.W.findIn K (.ref C_BadText) "line" = some none)
    (a_NoPlace : PySem.W.nsIn K mainGlobals "NoPlace" = some (some (.ref C_NoPlace)))
    (b_NoPlace : PySem.W.findIn K (.ref C_NoPlace) "__init__" = some (some (.ref fI_NoPlace)))
    (lXNoPlace : K.lookup fI_NoPlace = some ⟨ocXNoPlace, odXNoPlace, .func (PySem.W.fnOf "__init__" "NoPlace.__init__" (defArgs (inClass (topS 1) 0)) (defBody (inClass (topS 1) 0)) (defScope (inClass (topS 1) 0)) .none kVXNoPlace dcXNoPlace pmXNoPlace anXNoPlace cdXNoPlace ctXNoPlace), slXNoPlace⟩)
    (ccXNoPlace : PySem.W.codeIn K cdXNoPlace "NoPlace.__init__" = true)
    (kkXNoPlace : PySem.W.keepIn K (.ref fI_NoPlace) = true)
    (c_NoPlace : PySem.W.typeIn K (.ref fI_NoPlace) = some (.type "function"))
    (d_NoPlace : PySem.W.excInitIn K C_NoPlace leL "LookupError.__new__" = true)
    (e_NoPlace : PySem.W.excOver K C_NoPlace leL = true)
    (sa_NoPlace : PySem.W.findIn K (.ref C_NoPlace) "__setattr__" = some (some (.builtin "object.__setattr__")))
    (ke_NoPlace : PySem.W.keepIn K (.ref C_NoPlace) = true)
    (hd_NoPlace : PySem.W.hasDictIn K C_NoPlace = true)
    (ga_NoPlace : PySem.W.findIn K (.ref C_NoPlace) "__getattribute__" = some (some (.builtin "BaseException.__getattribute__")))
    (gg_NoPlace : PySem.W.findIn K (.ref C_NoPlace) "__getattr__" = some none)
    (sx_NoPlace : PySem.W.subIn K (.ref C_NoPlace) (.type "BaseException") = some true)
    (cl_NoPlace : PySem.W.findIn K (.ref C_NoPlace) "__class__" = some (some (.builtin "object.__class__")))
    (ob_NoPlace : PySem.W.mroIn K C_NoPlace (.type "object") = some true)
    (tf_NoPlace : PySem.W.takerIn K C_NoPlace "place" = some none)
    (ff_NoPlace : PySem.W.findIn K (.ref C_NoPlace) "place" = some none)
    (a_Unfit : PySem.W.nsIn K mainGlobals "Unfit" = some (some (.ref C_Unfit)))
    (b_Unfit : PySem.W.findIn K (.ref C_Unfit) "__init__" = some (some (.ref fI_Unfit)))
    (lXUnfit : K.lookup fI_Unfit = some ⟨ocXUnfit, odXUnfit, .func (PySem.W.fnOf "__init__" "Unfit.__init__" (defArgs (inClass (topS 6) 0)) (defBody (inClass (topS 6) 0)) (defScope (inClass (topS 6) 0)) .none kVXUnfit dcXUnfit pmXUnfit anXUnfit cdXUnfit ctXUnfit), slXUnfit⟩)
    (ccXUnfit : PySem.W.codeIn K cdXUnfit "Unfit.__init__" = true)
    (kkXUnfit : PySem.W.keepIn K (.ref fI_Unfit) = true)
    (c_Unfit : PySem.W.typeIn K (.ref fI_Unfit) = some (.type "function"))
    (d_Unfit : PySem.W.excInitIn K C_Unfit veL "ValueError.__new__" = true)
    (e_Unfit : PySem.W.excOver K C_Unfit veL = true)
    (sa_Unfit : PySem.W.findIn K (.ref C_Unfit) "__setattr__" = some (some (.builtin "object.__setattr__")))
    (ke_Unfit : PySem.W.keepIn K (.ref C_Unfit) = true)
    (hd_Unfit : PySem.W.hasDictIn K C_Unfit = true)
    (ga_Unfit : PySem.W.findIn K (.ref C_Unfit) "__getattribute__" = some (some (.builtin "BaseException.__getattribute__")))
    (gg_Unfit : PySem.W.findIn K (.ref C_Unfit) "__getattr__" = some none)
    (sx_Unfit : PySem.W.subIn K (.ref C_Unfit) (.type "BaseException") = some true)
    (cl_Unfit : PySem.W.findIn K (.ref C_Unfit) "__class__" = some (some (.builtin "object.__class__")))
    (ob_Unfit : PySem.W.mroIn K C_Unfit (.type "object") = some true)
    (a_TooMany : PySem.W.nsIn K mainGlobals "TooMany" = some (some (.ref C_TooMany)))
    (b_TooMany : PySem.W.findIn K (.ref C_TooMany) "__init__" = some (some (.ref fI_TooMany)))
    (lXTooMany : K.lookup fI_TooMany = some ⟨ocXTooMany, odXTooMany, .func (PySem.W.fnOf "__init__" "TooMany.__init__" (defArgs (inClass (topS 5) 0)) (defBody (inClass (topS 5) 0)) (defScope (inClass (topS 5) 0)) .none kVXTooMany dcXTooMany pmXTooMany anXTooMany cdXTooMany ctXTooMany), slXTooMany⟩)
    (ccXTooMany : PySem.W.codeIn K cdXTooMany "TooMany.__init__" = true)
    (kkXTooMany : PySem.W.keepIn K (.ref fI_TooMany) = true)
    (c_TooMany : PySem.W.typeIn K (.ref fI_TooMany) = some (.type "function"))
    (d_TooMany : PySem.W.excInitIn K C_TooMany veL "ValueError.__new__" = true)
    (e_TooMany : PySem.W.excOver K C_TooMany veL = true)
    (sa_TooMany : PySem.W.findIn K (.ref C_TooMany) "__setattr__" = some (some (.builtin "object.__setattr__")))
    (ke_TooMany : PySem.W.keepIn K (.ref C_TooMany) = true)
    (hd_TooMany : PySem.W.hasDictIn K C_TooMany = true)
    (ga_TooMany : PySem.W.findIn K (.ref C_TooMany) "__getattribute__" = some (some (.builtin "BaseException.__getattribute__")))
    (gg_TooMany : PySem.W.findIn K (.ref C_TooMany) "__getattr__" = some none)
    (sx_TooMany : PySem.W.subIn K (.ref C_TooMany) (.type "BaseException") = some true)
    (cl_TooMany : PySem.W.findIn K (.ref C_TooMany) "__class__" = some (some (.builtin "object.__class__")))
    (ob_TooMany : PySem.W.mroIn K C_TooMany (.type "object") = some true)
    (a_CanNot : PySem.W.nsIn K mainGlobals "CanNot" = some (some (.ref C_CanNot)))
    (b_CanNot : PySem.W.findIn K (.ref C_CanNot) "__init__" = some (some (.ref fI_CanNot)))
    (lXCanNot : K.lookup fI_CanNot = some ⟨ocXCanNot, odXCanNot, .func (PySem.W.fnOf "__init__" "CanNot.__init__" (defArgs (inClass (topS 4) 0)) (defBody (inClass (topS 4) 0)) (defScope (inClass (topS 4) 0)) .none kVXCanNot dcXCanNot pmXCanNot anXCanNot cdXCanNot ctXCanNot), slXCanNot⟩)
    (ccXCanNot : PySem.W.codeIn K cdXCanNot "CanNot.__init__" = true)
    (kkXCanNot : PySem.W.keepIn K (.ref fI_CanNot) = true)
    (c_CanNot : PySem.W.typeIn K (.ref fI_CanNot) = some (.type "function"))
    (d_CanNot : PySem.W.excInitIn K C_CanNot veL "ValueError.__new__" = true)
    (e_CanNot : PySem.W.excOver K C_CanNot veL = true)
    (sa_CanNot : PySem.W.findIn K (.ref C_CanNot) "__setattr__" = some (some (.builtin "object.__setattr__")))
    (ke_CanNot : PySem.W.keepIn K (.ref C_CanNot) = true)
    (hd_CanNot : PySem.W.hasDictIn K C_CanNot = true)
    (ga_CanNot : PySem.W.findIn K (.ref C_CanNot) "__getattribute__" = some (some (.builtin "BaseException.__getattribute__")))
    (gg_CanNot : PySem.W.findIn K (.ref C_CanNot) "__getattr__" = some none)
    (sx_CanNot : PySem.W.subIn K (.ref C_CanNot) (.type "BaseException") = some true)
    (cl_CanNot : PySem.W.findIn K (.ref C_CanNot) "__class__" = some (some (.builtin "object.__class__")))
    (ob_CanNot : PySem.W.mroIn K C_CanNot (.type "object") = some true)
    (v_LookupError : PySem.W.findCls K (.type "LookupError") (.type "type") "__init__" = some (.val (.builtin "LookupError.__init__")))
    (v_ValueError : PySem.W.findCls K (.type "ValueError") (.type "type") "__init__" = some (.val (.builtin "ValueError.__init__")))
    (o1 : PySem.W.specialIn K (.builtin "object.__class__") "__get__" = some (some (.builtin "getset_descriptor.__get__")))
    (o2 : PySem.W.takesIn K (.builtin "object.__class__") = some true)
    (nD_law_same : PySem.W.nsIn K mainGlobals "_law_same" = some (some (.ref f__law_same)))
    (lD_law_same : K.lookup f__law_same = some ⟨ocD_law_same, odD_law_same, .func (PySem.W.fnOf "_law_same" "_law_same" (defArgs (topS 8)) (defBody (topS 8)) (defScope (topS 8)) .none kVD_law_same dcD_law_same pmD_law_same anD_law_same cdD_law_same ctD_law_same), slD_law_same⟩)
    (ccD_law_same : PySem.W.codeIn K cdD_law_same "_law_same" = true)
    (kkD_law_same : PySem.W.keepIn K (.ref f__law_same) = true)
    (nDlaw : PySem.W.nsIn K mainGlobals "law" = some (some (.ref f_law)))
    (lDlaw : K.lookup f_law = some ⟨ocDlaw, odDlaw, .func (PySem.W.fnOf "law" "law" (defArgs (topS 9)) (defBody (topS 9)) (defScope (topS 9)) .none kVDlaw dcDlaw pmDlaw anDlaw cdDlaw ctDlaw), slDlaw⟩)
    (ccDlaw : PySem.W.codeIn K cdDlaw "law" = true)
    (kkDlaw : PySem.W.keepIn K (.ref f_law) = true)
    (q1ValueError_NoPlace : PySem.W.kitOne K (.ref C_NoPlace) (.type "ValueError") = some false)
    (q1ValueError_BadText : PySem.W.kitOne K (.ref C_BadText) (.type "ValueError") = some true)
    (q1ValueError_Broken : PySem.W.kitOne K (.ref C_Broken) (.type "ValueError") = some true)
    (q1ValueError_CanNot : PySem.W.kitOne K (.ref C_CanNot) (.type "ValueError") = some true)
    (q1ValueError_TooMany : PySem.W.kitOne K (.ref C_TooMany) (.type "ValueError") = some true)
    (q1ValueError_Unfit : PySem.W.kitOne K (.ref C_Unfit) (.type "ValueError") = some true)
    (q1LookupError_NoPlace : PySem.W.kitOne K (.ref C_NoPlace) (.type "LookupError") = some true)
    (q1LookupError_BadText : PySem.W.kitOne K (.ref C_BadText) (.type "LookupError") = some false)
    (q1LookupError_Broken : PySem.W.kitOne K (.ref C_Broken) (.type "LookupError") = some false)
    (q1LookupError_CanNot : PySem.W.kitOne K (.ref C_CanNot) (.type "LookupError") = some false)
    (q1LookupError_TooMany : PySem.W.kitOne K (.ref C_TooMany) (.type "LookupError") = some false)
    (q1LookupError_Unfit : PySem.W.kitOne K (.ref C_Unfit) (.type "LookupError") = some false)
    (q1Unfit_NoPlace : PySem.W.kitOne K (.ref C_NoPlace) (.ref C_Unfit) = some false)
    (q1Unfit_BadText : PySem.W.kitOne K (.ref C_BadText) (.ref C_Unfit) = some false)
    (q1Unfit_Broken : PySem.W.kitOne K (.ref C_Broken) (.ref C_Unfit) = some false)
    (q1Unfit_CanNot : PySem.W.kitOne K (.ref C_CanNot) (.ref C_Unfit) = some false)
    (q1Unfit_TooMany : PySem.W.kitOne K (.ref C_TooMany) (.ref C_Unfit) = some false)
    (q1Unfit_Unfit : PySem.W.kitOne K (.ref C_Unfit) (.ref C_Unfit) = some true)
    (q1TooMany_NoPlace : PySem.W.kitOne K (.ref C_NoPlace) (.ref C_TooMany) = some false)
    (q1TooMany_BadText : PySem.W.kitOne K (.ref C_BadText) (.ref C_TooMany) = some false)
    (q1TooMany_Broken : PySem.W.kitOne K (.ref C_Broken) (.ref C_TooMany) = some false)
    (q1TooMany_CanNot : PySem.W.kitOne K (.ref C_CanNot) (.ref C_TooMany) = some false)
    (q1TooMany_TooMany : PySem.W.kitOne K (.ref C_TooMany) (.ref C_TooMany) = some true)
    (q1TooMany_Unfit : PySem.W.kitOne K (.ref C_Unfit) (.ref C_TooMany) = some false)
    (q1CanNot_NoPlace : PySem.W.kitOne K (.ref C_NoPlace) (.ref C_CanNot) = some false)
    (q1CanNot_BadText : PySem.W.kitOne K (.ref C_BadText) (.ref C_CanNot) = some false)
    (q1CanNot_Broken : PySem.W.kitOne K (.ref C_Broken) (.ref C_CanNot) = some false)
    (q1CanNot_CanNot : PySem.W.kitOne K (.ref C_CanNot) (.ref C_CanNot) = some true)
    (q1CanNot_TooMany : PySem.W.kitOne K (.ref C_TooMany) (.ref C_CanNot) = some false)
    (q1CanNot_Unfit : PySem.W.kitOne K (.ref C_Unfit) (.ref C_CanNot) = some false)
    (q1Broken_NoPlace : PySem.W.kitOne K (.ref C_NoPlace) (.ref C_Broken) = some false)
    (q1Broken_BadText : PySem.W.kitOne K (.ref C_BadText) (.ref C_Broken) = some false)
    (q1Broken_Broken : PySem.W.kitOne K (.ref C_Broken) (.ref C_Broken) = some true)
    (q1Broken_CanNot : PySem.W.kitOne K (.ref C_CanNot) (.ref C_Broken) = some false)
    (q1Broken_TooMany : PySem.W.kitOne K (.ref C_TooMany) (.ref C_Broken) = some false)
    (q1Broken_Unfit : PySem.W.kitOne K (.ref C_Unfit) (.ref C_Broken) = some false)
    (q1BadText_NoPlace : PySem.W.kitOne K (.ref C_NoPlace) (.ref C_BadText) = some false)
    (q1BadText_BadText : PySem.W.kitOne K (.ref C_BadText) (.ref C_BadText) = some true)
    (q1BadText_Broken : PySem.W.kitOne K (.ref C_Broken) (.ref C_BadText) = some false)
    (q1BadText_CanNot : PySem.W.kitOne K (.ref C_CanNot) (.ref C_BadText) = some false)
    (q1BadText_TooMany : PySem.W.kitOne K (.ref C_TooMany) (.ref C_BadText) = some false)
    (q1BadText_Unfit : PySem.W.kitOne K (.ref C_Unfit) (.ref C_BadText) = some false)
    (q1NoPlace_NoPlace : PySem.W.kitOne K (.ref C_NoPlace) (.ref C_NoPlace) = some true)
    (q1NoPlace_BadText : PySem.W.kitOne K (.ref C_BadText) (.ref C_NoPlace) = some false)
    (q1NoPlace_Broken : PySem.W.kitOne K (.ref C_Broken) (.ref C_NoPlace) = some false)
    (q1NoPlace_CanNot : PySem.W.kitOne K (.ref C_CanNot) (.ref C_NoPlace) = some false)
    (q1NoPlace_TooMany : PySem.W.kitOne K (.ref C_TooMany) (.ref C_NoPlace) = some false)
    (q1NoPlace_Unfit : PySem.W.kitOne K (.ref C_Unfit) (.ref C_NoPlace) = some false)
    (q2KeyError_IndexError_NoPlace : PySem.W.kitAny K (.ref C_NoPlace) [.type "KeyError", .type "IndexError"] = some false)
    (q2KeyError_IndexError_BadText : PySem.W.kitAny K (.ref C_BadText) [.type "KeyError", .type "IndexError"] = some false)
    (q2KeyError_IndexError_Broken : PySem.W.kitAny K (.ref C_Broken) [.type "KeyError", .type "IndexError"] = some false)
    (q2KeyError_IndexError_CanNot : PySem.W.kitAny K (.ref C_CanNot) [.type "KeyError", .type "IndexError"] = some false)
    (q2KeyError_IndexError_TooMany : PySem.W.kitAny K (.ref C_TooMany) [.type "KeyError", .type "IndexError"] = some false)
    (q2KeyError_IndexError_Unfit : PySem.W.kitAny K (.ref C_Unfit) [.type "KeyError", .type "IndexError"] = some false)
    (n_IndexError : PySem.W.nsIn K mainGlobals "IndexError" = some none)
    (n_KeyError : PySem.W.nsIn K mainGlobals "KeyError" = some none)
    (n_LookupError : PySem.W.nsIn K mainGlobals "LookupError" = some none)
    (n_ValueError : PySem.W.nsIn K mainGlobals "ValueError" = some none)
    (n_all : PySem.W.nsIn K mainGlobals "all" = some none)
    (n_bool : PySem.W.nsIn K mainGlobals "bool" = some none)
    (n_int : PySem.W.nsIn K mainGlobals "int" = some none)
    (n_isinstance : PySem.W.nsIn K mainGlobals "isinstance" = some none)
    (n_len : PySem.W.nsIn K mainGlobals "len" = some none)
    (n_list : PySem.W.nsIn K mainGlobals "list" = some none)
    (n_range : PySem.W.nsIn K mainGlobals "range" = some none)
    (n_str : PySem.W.nsIn K mainGlobals "str" = some none)
    (n_tuple : PySem.W.nsIn K mainGlobals "tuple" = some none)
    (n_zip : PySem.W.nsIn K mainGlobals "zip" = some none) :
    ∃ fd : FuncData, (∀ (s : Shared) (v : Value), BindsTo s fd ⟨[v], []⟩ [("script", v)]) ∧ ∀ base : Heap, K.In base → base.Ns mainGlobals mg → FnOk P w K mg base (L2.CX P w) 13 fa fd ["script"] (spF K 1 r_law) := by
  have e := hfa.symm.trans (PySem.W.mg_of X G nDlaw)
  cases e
  have A_Broken : OxA K C_Broken := ⟨hd_Broken, ga_Broken, gg_Broken, sx_Broken, cl_Broken, ob_Broken⟩
  have F_Broken := fun_mk (st := (inClass (topS 3) 0)) lXBroken ccXBroken kkXBroken
  have A_BadText : OxA K C_BadText := ⟨hd_BadText, ga_BadText, gg_BadText, sx_BadText, cl_BadText, ob_BadText⟩
  have F_BadText := fun_mk (st := (inClass (topS 2) 0)) lXBadText ccXBadText kkXBadText
  have A_NoPlace : OxA K C_NoPlace := ⟨hd_NoPlace, ga_NoPlace, gg_NoPlace, sx_NoPlace, cl_NoPlace, ob_NoPlace⟩
  have F_NoPlace := fun_mk (st := (inClass (topS 1) 0)) lXNoPlace ccXNoPlace kkXNoPlace
  have A_Unfit : OxA K C_Unfit := ⟨hd_Unfit, ga_Unfit, gg_Unfit, sx_Unfit, cl_Unfit, ob_Unfit⟩
  have F_Unfit := fun_mk (st := (inClass (topS 6) 0)) lXUnfit ccXUnfit kkXUnfit
  have A_TooMany : OxA K C_TooMany := ⟨hd_TooMany, ga_TooMany, gg_TooMany, sx_TooMany, cl_TooMany, ob_TooMany⟩
  have F_TooMany := fun_mk (st := (inClass (topS 5) 0)) lXTooMany ccXTooMany kkXTooMany
  have A_CanNot : OxA K C_CanNot := ⟨hd_CanNot, ga_CanNot, gg_CanNot, sx_CanNot, cl_CanNot, ob_CanNot⟩
  have F_CanNot := fun_mk (st := (inClass (topS 4) 0)) lXCanNot ccXCanNot kkXCanNot
  have F__law_same := fun_mk (st := topS 8) lD_law_same ccD_law_same kkD_law_same
  have F_law := fun_mk (st := topS 9) lDlaw ccDlaw kkDlaw
  have T : Σ' T : Tx K mg, T.d_law.f = fa ∧ T.d_law.fd = PySem.W.fnOf "law" "law" (defArgs (topS 9)) (defBody (topS 9)) (defScope (topS 9)) .none kVDlaw dcDlaw pmDlaw anDlaw cdDlaw ctDlaw := ⟨{
    d__law_same := ⟨f__law_same, _, F__law_same, PySem.W.mg_of X G nD_law_same, F__law_same.binds (ps := ["got", "goal"]) fun _ _ _ _ _ _ us hl => match us, hl with | [_, _], _ => rfl⟩
    d_law := ⟨fa, _, F_law, PySem.W.mg_of X G nDlaw, F_law.binds (ps := ["script"]) fun _ _ _ _ _ _ us hl => match us, hl with | [_], _ => rfl⟩
    c_Broken := ⟨C_Broken, fI_Broken, _, PySem.W.mg_of X G a_Broken, a_Broken, ⟨d_Broken, e_Broken, sa_Broken, ke_Broken, A_Broken⟩, b_Broken, c_Broken, F_Broken, F_Broken.binds (ps := ["self", "word"]) fun _ _ _ _ _ _ us hl => match us, hl with | [_, _], _ => rfl⟩
    t_Broken := tf_Broken
    k_Broken := fun _ _ _ => .of_eq rfl
    c_BadText := ⟨C_BadText, fI_BadText, _, PySem.W.mg_of X G a_BadText, a_BadText, ⟨d_BadText, e_BadText, sa_BadText, ke_BadText, A_BadText⟩, b_BadText, c_BadText, F_BadText, F_BadText.binds (ps := ["self", "line"]) fun _ _ _ _ _ _ us hl => match us, hl with | [_, _], _ => rfl⟩
    t_BadText := tf_BadText
    k_BadText := fun _ _ _ => .of_eq rfl
    c_NoPlace := ⟨C_NoPlace, fI_NoPlace, _, PySem.W.mg_of X G a_NoPlace, a_NoPlace, ⟨d_NoPlace, e_NoPlace, sa_NoPlace, ke_NoPlace, A_NoPlace⟩, b_NoPlace, c_NoPlace, F_NoPlace, F_NoPlace.binds (ps := ["self", "place"]) fun _ _ _ _ _ _ us hl => match us, hl with | [_, _], _ => rfl⟩
    t_NoPlace := tf_NoPlace
    k_NoPlace := fun _ _ _ => .of_eq rfl
    c_Unfit := ⟨C_Unfit, fI_Unfit, _, PySem.W.mg_of X G a_Unfit, a_Unfit, ⟨d_Unfit, e_Unfit, sa_Unfit, ke_Unfit, A_Unfit⟩, b_Unfit, c_Unfit, F_Unfit, F_Unfit.binds (ps := ["self"]) fun _ _ _ _ _ _ us hl => match us, hl with | [_], _ => rfl⟩
    c_TooMany := ⟨C_TooMany, fI_TooMany, _, PySem.W.mg_of X G a_TooMany, a_TooMany, ⟨d_TooMany, e_TooMany, sa_TooMany, ke_TooMany, A_TooMany⟩, b_TooMany, c_TooMany, F_TooMany, F_TooMany.binds (ps := ["self"]) fun _ _ _ _ _ _ us hl => match us, hl with | [_], _ => rfl⟩
    c_CanNot := ⟨C_CanNot, fI_CanNot, _, PySem.W.mg_of X G a_CanNot, a_CanNot, ⟨d_CanNot, e_CanNot, sa_CanNot, ke_CanNot, A_CanNot⟩, b_CanNot, c_CanNot, F_CanNot, F_CanNot.binds (ps := ["self"]) fun _ _ _ _ _ _ us hl => match us, hl with | [_], _ => rfl⟩
    v_LookupError := v_LookupError
    v_ValueError := v_ValueError
    ox := ⟨o1, o2⟩
    i_ValueError := (tab_one [("NoPlace", false), ("BadText", true), ("Broken", true), ("CanNot", true), ("TooMany", true), ("Unfit", true)] (by refine .cons a_NoPlace A_NoPlace q1ValueError_NoPlace ?_; refine .cons a_BadText A_BadText q1ValueError_BadText ?_; refine .cons a_Broken A_Broken q1ValueError_Broken ?_; refine .cons a_CanNot A_CanNot q1ValueError_CanNot ?_; refine .cons a_TooMany A_TooMany q1ValueError_TooMany ?_; refine .cons a_Unfit A_Unfit q1ValueError_Unfit ?_; exact .nil))
    i_LookupError := (tab_one [("NoPlace", true), ("BadText", false), ("Broken", false), ("CanNot", false), ("TooMany", false), ("Unfit", false)] (by refine .cons a_NoPlace A_NoPlace q1LookupError_NoPlace ?_; refine .cons a_BadText A_BadText q1LookupError_BadText ?_; refine .cons a_Broken A_Broken q1LookupError_Broken ?_; refine .cons a_CanNot A_CanNot q1LookupError_CanNot ?_; refine .cons a_TooMany A_TooMany q1LookupError_TooMany ?_; refine .cons a_Unfit A_Unfit q1LookupError_Unfit ?_; exact .nil))
    i_Unfit := (tab_one [("NoPlace", false), ("BadText", false), ("Broken", false), ("CanNot", false), ("TooMany", false), ("Unfit", true)] (by refine .cons a_NoPlace A_NoPlace q1Unfit_NoPlace ?_; refine .cons a_BadText A_BadText q1Unfit_BadText ?_; refine .cons a_Broken A_Broken q1Unfit_Broken ?_; refine .cons a_CanNot A_CanNot q1Unfit_CanNot ?_; refine .cons a_TooMany A_TooMany q1Unfit_TooMany ?_; refine .cons a_Unfit A_Unfit q1Unfit_Unfit ?_; exact .nil))
    i_TooMany := (tab_one [("NoPlace", false), ("BadText", false), ("Broken", false), ("CanNot", false), ("TooMany", true), ("Unfit", false)] (by refine .cons a_NoPlace A_NoPlace q1TooMany_NoPlace ?_; refine .cons a_BadText A_BadText q1TooMany_BadText ?_; refine .cons a_Broken A_Broken q1TooMany_Broken ?_; refine .cons a_CanNot A_CanNot q1TooMany_CanNot ?_; refine .cons a_TooMany A_TooMany q1TooMany_TooMany ?_; refine .cons a_Unfit A_Unfit q1TooMany_Unfit ?_; exact .nil))
    i_CanNot := (tab_one [("NoPlace", false), ("BadText", false), ("Broken", false), ("CanNot", true), ("TooMany", false), ("Unfit", false)] (by refine .cons a_NoPlace A_NoPlace q1CanNot_NoPlace ?_; refine .cons a_BadText A_BadText q1CanNot_BadText ?_; refine .cons a_Broken A_Broken q1CanNot_Broken ?_; refine .cons a_CanNot A_CanNot q1CanNot_CanNot ?_; refine .cons a_TooMany A_TooMany q1CanNot_TooMany ?_; refine .cons a_Unfit A_Unfit q1CanNot_Unfit ?_; exact .nil))
    i_Broken := (tab_one [("NoPlace", false), ("BadText", false), ("Broken", true), ("CanNot", false), ("TooMany", false), ("Unfit", false)] (by refine .cons a_NoPlace A_NoPlace q1Broken_NoPlace ?_; refine .cons a_BadText A_BadText q1Broken_BadText ?_; refine .cons a_Broken A_Broken q1Broken_Broken ?_; refine .cons a_CanNot A_CanNot q1Broken_CanNot ?_; refine .cons a_TooMany A_TooMany q1Broken_TooMany ?_; refine .cons a_Unfit A_Unfit q1Broken_Unfit ?_; exact .nil))
    i_BadText := (tab_one [("NoPlace", false), ("BadText", true), ("Broken", false), ("CanNot", false), ("TooMany", false), ("Unfit", false)] (by refine .cons a_NoPlace A_NoPlace q1BadText_NoPlace ?_; refine .cons a_BadText A_BadText q1BadText_BadText ?_; refine .cons a_Broken A_Broken q1BadText_Broken ?_; refine .cons a_CanNot A_CanNot q1BadText_CanNot ?_; refine .cons a_TooMany A_TooMany q1BadText_TooMany ?_; refine .cons a_Unfit A_Unfit q1BadText_Unfit ?_; exact .nil))
    i_NoPlace := (tab_one [("NoPlace", true), ("BadText", false), ("Broken", false), ("CanNot", false), ("TooMany", false), ("Unfit", false)] (by refine .cons a_NoPlace A_NoPlace q1NoPlace_NoPlace ?_; refine .cons a_BadText A_BadText q1NoPlace_BadText ?_; refine .cons a_Broken A_Broken q1NoPlace_Broken ?_; refine .cons a_CanNot A_CanNot q1NoPlace_CanNot ?_; refine .cons a_TooMany A_TooMany q1NoPlace_TooMany ?_; refine .cons a_Unfit A_Unfit q1NoPlace_Unfit ?_; exact .nil))
    i_KeyError_IndexError := (tab_any [("NoPlace", false), ("BadText", false), ("Broken", false), ("CanNot", false), ("TooMany", false), ("Unfit", false)] (by refine .cons a_NoPlace A_NoPlace q2KeyError_IndexError_NoPlace ?_; refine .cons a_BadText A_BadText q2KeyError_IndexError_BadText ?_; refine .cons a_Broken A_Broken q2KeyError_IndexError_Broken ?_; refine .cons a_CanNot A_CanNot q2KeyError_IndexError_CanNot ?_; refine .cons a_TooMany A_TooMany q2KeyError_IndexError_TooMany ?_; refine .cons a_Unfit A_Unfit q2KeyError_IndexError_Unfit ?_; exact .nil))
    f_line := tab_fld (by refine .cons a_BadText A_BadText ff_BadText ?_; exact .nil)
    f_place := tab_fld (by refine .cons a_NoPlace A_NoPlace ff_NoPlace ?_; exact .nil)
    f_word := tab_fld (by refine .cons a_Broken A_Broken ff_Broken ?_; exact .nil)
    n_IndexError := PySem.W.mg_none_of X G n_IndexError
    n_KeyError := PySem.W.mg_none_of X G n_KeyError
    n_LookupError := PySem.W.mg_none_of X G n_LookupError
    n_ValueError := PySem.W.mg_none_of X G n_ValueError
    n_all := PySem.W.mg_none_of X G n_all
    n_bool := PySem.W.mg_none_of X G n_bool
    n_int := PySem.W.mg_none_of X G n_int
    n_isinstance := PySem.W.mg_none_of X G n_isinstance
    n_len := PySem.W.mg_none_of X G n_len
    n_list := PySem.W.mg_none_of X G n_list
    n_range := PySem.W.mg_none_of X G n_range
    n_str := PySem.W.mg_none_of X G n_str
    n_tuple := PySem.W.mg_none_of X G n_tuple
    n_zip := PySem.W.mg_none_of X G n_zip }, rfl, rfl⟩
  obtain ⟨T, t1, t2⟩ := T
  refine ⟨_, fun s v => ?_, fun base _ _ => t1 ▸ t2 ▸ ok_law (P := P) (w := w) (base := base) T⟩
  exact .of_eq rfl
def isT : R PV → Bool
  | .ok (.bl true) _ => true
  | _ => false

theorem law_true (ns : List Int) (hl : ns.length ≤ 63) (hb : ∀ z ∈ ns, Builtin.Int.intBits z ≤ 1048576) : isT (r_law [.fro (ns.map .int)] []) = true := by kernel_rfl
theorem ints_ok {K : PySem.W.Frag} {H : Hp} {ρ : Rh} : ∀ ns : List Int, RVs K H ρ (ns.map PV.int) (ns.map V.int)
  | [] => rfl
  | n :: ns => ⟨_, _, rfl, rfl, ints_ok ns⟩
theorem walk {l : PySem.W.OpenLaw} {q : Program} {loose : List Str} {XP : (Str → Option Value) → Heap → Prop} {YP : World → Heap → Prop} {d : DefRec} {K : Params → PySem.W.Frag} (hn : l.most = some 63) (hdf : d.params.defaults = [])
    (hY : ∀ (w : World) (h : Heap), YP w h → (K w.params).In h)
    (F : ∀ (w : World) (mg : Str → Option Value) (fa : Addr) (h : Heap), (K w.params).In h → h.Ns mainGlobals mg → mg d.name = some (.ref fa) →
      ∃ fd : FuncData, (∀ (s : Shared) (u : Value), BindsTo s fd ⟨[u], []⟩ [("script", u)]) ∧ ∀ base : Heap, (K w.params).In base → base.Ns mainGlobals mg → FnOk l.prog w (K w.params) mg base (L2.CX l.prog w) 13 fa fd ["script"] (spF (K w.params) 1 r_law)) :
    PySem.W.WalkO q loose XP YP l.row.toRowW d [] (fun f vs => PySem.call f vs) :=
  L2.walk_ofB (n := 63) (k := 13) (x := "script") (CX := fun w => L2.CX l.prog w) (sp := fun w => spF (K w.params) 1 r_law) hn (by decide) hdf ⟨rfl, by decide, by decide⟩ hY F (fun w H a ns hl hb hO hS => by
    refine ⟨rfl, [.fro (ns.map .int)], ⟨[], []⟩, [], ⟨_, _, rfl, ⟨a, _, rfl, hS.imp (fun h => ⟨h, by simp, by simp⟩) (fun h => .inr h), ints_ok ns⟩, rfl⟩, ⟨by simp, rfl, fun n a xs e => by simp at e, fun a e => by simp at e⟩, ?_⟩
    have t := law_true ns hl hb
    unfold isT at t
    split at t
    · rename_i e
      rw [e]
      intro H' ρ' _ _ x hx
      exact hx
    · cases t) fun _ _ _ _ _ ⟨_, _, _, _, _, _, _, _, _, _, _, _, z⟩ => z
end Lw
open PySem PySem.W PyProof.Rows
set_option maxRecDepth 100000 in
set_option maxHeartbeats 0 in
theorem PySem.Challenge.cw_plainlock_k00_errors_holds : PySem.Challenge.rw_plainlock_k00_errors.Holds := by
  w_on; o_law; k_head; (case hw => w_witness2)
  k_fill
  refine Lw.walk (l := PySem.Challenge.rw_plainlock_k00_errors) rfl rfl (fun w h Y => PySem.W.kIn_of Y) ?F
  case F =>
    intro w mg fa h KX G hmg
    refine' Lw.all_mk KX G hmg ?a_Broken ?b_Broken ?lXBroken ?ccXBroken ?kkXBroken ?c_Broken ?d_Broken ?e_Broken ?sa_Broken ?ke_Broken ?hd_Broken ?ga_Broken ?gg_Broken ?sx_Broken ?cl_Broken ?ob_Broken ?tf_Broken ?ff_Broken ?a_BadText ?b_BadText ?lXBadText ?ccXBadText ?kkXBadText ?c_BadText ?d_BadText ?e_BadText ?sa_BadText ?ke_BadText ?hd_BadText ?ga_BadText ?gg_BadText ?sx_BadText ?cl_BadText ?ob_BadText ?tf_BadText ?ff_BadText ?a_NoPlace ?b_NoPlace ?lXNoPlace ?ccXNoPlace ?kkXNoPlace ?c_NoPlace ?d_NoPlace ?e_NoPlace ?sa_NoPlace ?ke_NoPlace ?hd_NoPlace ?ga_NoPlace ?gg_NoPlace ?sx_NoPlace ?cl_NoPlace ?ob_NoPlace ?tf_NoPlace ?ff_NoPlace ?a_Unfit ?b_Unfit ?lXUnfit ?ccXUnfit ?kkXUnfit ?c_Unfit ?d_Unfit ?e_Unfit ?sa_Unfit ?ke_Unfit ?hd_Unfit ?ga_Unfit ?gg_Unfit ?sx_Unfit ?cl_Unfit ?ob_Unfit ?a_TooMany ?b_TooMany ?lXTooMany ?ccXTooMany ?kkXTooMany ?c_TooMany ?d_TooMany ?e_TooMany ?sa_TooMany ?ke_TooMany ?hd_TooMany ?ga_TooMany ?gg_TooMany ?sx_TooMany ?cl_TooMany ?ob_TooMany ?a_CanNot ?b_CanNot ?lXCanNot ?ccXCanNot ?kkXCanNot ?c_CanNot ?d_CanNot ?e_CanNot ?sa_CanNot ?ke_CanNot ?hd_CanNot ?ga_CanNot ?gg_CanNot ?sx_CanNot ?cl_CanNot ?ob_CanNot ?v_LookupError ?v_ValueError ?o1 ?o2 ?nD_law_same ?lD_law_same ?ccD_law_same ?kkD_law_same ?nDlaw ?lDlaw ?ccDlaw ?kkDlaw ?q1ValueError_NoPlace ?q1ValueError_BadText ?q1ValueError_Broken ?q1ValueError_CanNot ?q1ValueError_TooMany ?q1ValueError_Unfit ?q1LookupError_NoPlace ?q1LookupError_BadText ?q1LookupError_Broken ?q1LookupError_CanNot ?q1LookupError_TooMany ?q1LookupError_Unfit ?q1Unfit_NoPlace ?q1Unfit_BadText ?q1Unfit_Broken ?q1Unfit_CanNot ?q1Unfit_TooMany ?q1Unfit_Unfit ?q1TooMany_NoPlace ?q1TooMany_BadText ?q1TooMany_Broken ?q1TooMany_CanNot ?q1TooMany_TooMany ?q1TooMany_Unfit ?q1CanNot_NoPlace ?q1CanNot_BadText ?q1CanNot_Broken ?q1CanNot_CanNot ?q1CanNot_TooMany ?q1CanNot_Unfit ?q1Broken_NoPlace ?q1Broken_BadText ?q1Broken_Broken ?q1Broken_CanNot ?q1Broken_TooMany ?q1Broken_Unfit ?q1BadText_NoPlace ?q1BadText_BadText ?q1BadText_Broken ?q1BadText_CanNot ?q1BadText_TooMany ?q1BadText_Unfit ?q1NoPlace_NoPlace ?q1NoPlace_BadText ?q1NoPlace_Broken ?q1NoPlace_CanNot ?q1NoPlace_TooMany ?q1NoPlace_Unfit ?q2KeyError_IndexError_NoPlace ?q2KeyError_IndexError_BadText ?q2KeyError_IndexError_Broken ?q2KeyError_IndexError_CanNot ?q2KeyError_IndexError_TooMany ?q2KeyError_IndexError_Unfit ?n_IndexError ?n_KeyError ?n_LookupError ?n_ValueError ?n_all ?n_bool ?n_int ?n_isinstance ?n_len ?n_list ?n_range ?n_str ?n_tuple ?n_zip
    (case a_Broken => k_is)
    (case b_Broken => k_is)
    (case lXBroken => k_is)
    (case ccXBroken => k_is)
    (case kkXBroken => k_is)
    (case c_Broken => k_is)
    (case d_Broken => kx_is)
    (case e_Broken => kx_is)
    (case sa_Broken => k_is)
    (case ke_Broken => k_is)
    (case hd_Broken => k_is)
    (case ga_Broken => k_is)
    (case gg_Broken => k_is)
    (case sx_Broken => k_is)
    (case cl_Broken => k_is)
    (case ob_Broken => k_is)
    (case tf_Broken => k_is)
    (case ff_Broken => k_is)
    (case a_BadText => k_is)
    (case b_BadText => k_is)
    (case lXBadText => k_is)
    (case ccXBadText => k_is)
    (case kkXBadText => k_is)
    (case c_BadText => k_is)
    (case d_BadText => kx_is)
    (case e_BadText => kx_is)
    (case sa_BadText => k_is)
    (case ke_BadText => k_is)
    (case hd_BadText => k_is)
    (case ga_BadText => k_is)
    (case gg_BadText => k_is)
    (case sx_BadText => k_is)
    (case cl_BadText => k_is)
    (case ob_BadText => k_is)
    (case tf_BadText => k_is)
    (case ff_BadText => k_is)
    (case a_NoPlace => k_is)
    (case b_NoPlace => k_is)
    (case lXNoPlace => k_is)
    (case ccXNoPlace => k_is)
    (case kkXNoPlace => k_is)
    (case c_NoPlace => k_is)
    (case d_NoPlace => kx_is)
    (case e_NoPlace => kx_is)
    (case sa_NoPlace => k_is)
    (case ke_NoPlace => k_is)
    (case hd_NoPlace => k_is)
    (case ga_NoPlace => k_is)
    (case gg_NoPlace => k_is)
    (case sx_NoPlace => k_is)
    (case cl_NoPlace => k_is)
    (case ob_NoPlace => k_is)
    (case tf_NoPlace => k_is)
    (case ff_NoPlace => k_is)
    (case a_Unfit => k_is)
    (case b_Unfit => k_is)
    (case lXUnfit => k_is)
    (case ccXUnfit => k_is)
    (case kkXUnfit => k_is)
    (case c_Unfit => k_is)
    (case d_Unfit => kx_is)
    (case e_Unfit => kx_is)
    (case sa_Unfit => k_is)
    (case ke_Unfit => k_is)
    (case hd_Unfit => k_is)
    (case ga_Unfit => k_is)
    (case gg_Unfit => k_is)
    (case sx_Unfit => k_is)
    (case cl_Unfit => k_is)
    (case ob_Unfit => k_is)
    (case a_TooMany => k_is)
    (case b_TooMany => k_is)
    (case lXTooMany => k_is)
    (case ccXTooMany => k_is)
    (case kkXTooMany => k_is)
    (case c_TooMany => k_is)
    (case d_TooMany => kx_is)
    (case e_TooMany => kx_is)
    (case sa_TooMany => k_is)
    (case ke_TooMany => k_is)
    (case hd_TooMany => k_is)
    (case ga_TooMany => k_is)
    (case gg_TooMany => k_is)
    (case sx_TooMany => k_is)
    (case cl_TooMany => k_is)
    (case ob_TooMany => k_is)
    (case a_CanNot => k_is)
    (case b_CanNot => k_is)
    (case lXCanNot => k_is)
    (case ccXCanNot => k_is)
    (case kkXCanNot => k_is)
    (case c_CanNot => k_is)
    (case d_CanNot => kx_is)
    (case e_CanNot => kx_is)
    (case sa_CanNot => k_is)
    (case ke_CanNot => k_is)
    (case hd_CanNot => k_is)
    (case ga_CanNot => k_is)
    (case gg_CanNot => k_is)
    (case sx_CanNot => k_is)
    (case cl_CanNot => k_is)
    (case ob_CanNot => k_is)
    (case v_LookupError => k_is)
    (case v_ValueError => k_is)
    (case o1 => k_is)
    (case o2 => k_is)
    (case nD_law_same => k_is)
    (case lD_law_same => k_is)
    (case ccD_law_same => k_is)
    (case kkD_law_same => k_is)
    (case nDlaw => k_is)
    (case lDlaw => k_is)
    (case ccDlaw => k_is)
    (case kkDlaw => k_is)
    (case q1ValueError_NoPlace => kit_is)
    (case q1ValueError_BadText => kit_is)
    (case q1ValueError_Broken => kit_is)
    (case q1ValueError_CanNot => kit_is)
    (case q1ValueError_TooMany => kit_is)
    (case q1ValueError_Unfit => kit_is)
    (case q1LookupError_NoPlace => kit_is)
    (case q1LookupError_BadText => kit_is)
    (case q1LookupError_Broken => kit_is)
    (case q1LookupError_CanNot => kit_is)
    (case q1LookupError_TooMany => kit_is)
    (case q1LookupError_Unfit => kit_is)
    (case q1Unfit_NoPlace => kit_is)
    (case q1Unfit_BadText => kit_is)
    (case q1Unfit_Broken => kit_is)
    (case q1Unfit_CanNot => kit_is)
    (case q1Unfit_TooMany => kit_is)
    (case q1Unfit_Unfit => kit_is)
    (case q1TooMany_NoPlace => kit_is)
    (case q1TooMany_BadText => kit_is)
    (case q1TooMany_Broken => kit_is)
    (case q1TooMany_CanNot => kit_is)
    (case q1TooMany_TooMany => kit_is)
    (case q1TooMany_Unfit => kit_is)
    (case q1CanNot_NoPlace => kit_is)
    (case q1CanNot_BadText => kit_is)
    (case q1CanNot_Broken => kit_is)
    (case q1CanNot_CanNot => kit_is)
    (case q1CanNot_TooMany => kit_is)
    (case q1CanNot_Unfit => kit_is)
    (case q1Broken_NoPlace => kit_is)
    (case q1Broken_BadText => kit_is)
    (case q1Broken_Broken => kit_is)
    (case q1Broken_CanNot => kit_is)
    (case q1Broken_TooMany => kit_is)
    (case q1Broken_Unfit => kit_is)
    (case q1BadText_NoPlace => kit_is)
    (case q1BadText_BadText => kit_is)
    (case q1BadText_Broken => kit_is)
    (case q1BadText_CanNot => kit_is)
    (case q1BadText_TooMany => kit_is)
    (case q1BadText_Unfit => kit_is)
    (case q1NoPlace_NoPlace => kit_is)
    (case q1NoPlace_BadText => kit_is)
    (case q1NoPlace_Broken => kit_is)
    (case q1NoPlace_CanNot => kit_is)
    (case q1NoPlace_TooMany => kit_is)
    (case q1NoPlace_Unfit => kit_is)
    (case q2KeyError_IndexError_NoPlace => kit_is)
    (case q2KeyError_IndexError_BadText => kit_is)
    (case q2KeyError_IndexError_Broken => kit_is)
    (case q2KeyError_IndexError_CanNot => kit_is)
    (case q2KeyError_IndexError_TooMany => kit_is)
    (case q2KeyError_IndexError_Unfit => kit_is)
    (case n_IndexError => k_is)
    (case n_KeyError => k_is)
    (case n_LookupError => k_is)
    (case n_ValueError => k_is)
    (case n_all => k_is)
    (case n_bool => k_is)
    (case n_int => k_is)
    (case n_isinstance => k_is)
    (case n_len => k_is)
    (case n_list => k_is)
    (case n_range => k_is)
    (case n_str => k_is)
    (case n_tuple => k_is)
    (case n_zip => k_is)
