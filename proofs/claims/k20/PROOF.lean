import PyProof.Rows.All
import HandS.AnyAll
import HandS.GenList
import HandS.ForExc
import Wide.All
import OpenK.AllK
import Wide.FinOn
import HandS.ExcInit
import HandS.Dict
import HandS.Wide
import HandS.TupAny
import HandS.TupMul
import HandS.IsInst
import HandS.Gcd
import HandS.Flow
import HandS.ExcOwn
import HandS.TryOnly
import HandS.Zip
import HandS.Comp
import KE.KExcInit
import HandS.ExcField
import KE.KExcIs
import KE.KIsAll
import HandS.EndBits
import HandS.CallLocal
import HandS.SetKeys
import HandS.More
import HandS.SortInts
import HandS.Style
import KE.KSortedM
import HandS.WordsDict
import HandS.TryMany
import PyProof.FactsAll.list_4
import HandS.Deep
import KE.GoesEnum
import KE.DataCmp
import KE.SortData
import KE.RegKIsAll
import PySem.Challenge.RW_plainlock_k20_plans_by_hand_and_refused
set_option Elab.async false
set_option linter.all false
set_option maxRecDepth 100000
set_option maxHeartbeats 4000000
set_option autoImplicit false
/-! G0: all, any of a generator expression whose elements may do whatever they like. -/
namespace G0
open PySem PySem.Spec PyProof.Rows L2
/-- a code object's table: any, as long as it is one -/
def tabOk (P : Addr) : Heap → Prop := fun h => ∃ ps : Array Value, h.get? P = some (PySem.W.tabObj ps) ∧ TriplesOk ps.toList
theorem tabOk_stable {P : Addr} (h1 h2 : Heap) (x : tabOk P h1) (k : ∀ o, h1.get? P = some o → h2.get? P = some o) : tabOk P h2 := by
  obtain ⟨ps, e, t⟩ := x
  exact ⟨ps, k _ e, t⟩
theorem tabOk_obj {prog : Program} {w : World} {H : Hp} {h : Heap} {P : Addr} (x : tabOk P h) : ObjOk prog w H h P (.ext (tabOk P)) :=
  ⟨x, (let ⟨_, e, _⟩ := x; ⟨_, e⟩), tabOk_stable⟩
section
variable {X : Cx} {pins : List (Addr × Obj)} {σ : L2.St} {H : Hp} {s : Shared}
/-- the table may have grown; all else stands -/
theorem inv_tab {P : Addr} {h' : Heap} {g' : Array GenState} {d' : Drawn} {t' : Nat} (I : Inv X pins σ H s) (hP : H P = some (.ext (tabOk P))) (k : ∀ b o, b ≠ P → s.heap.get? b = some o → h'.get? b = some o) (hm : tabOk P h') (hg : AllBare g') :
    Inv X pins σ H { s with heap := h', gens := g', drawn := d', toks := t' } := by
  have nN : ∀ b, H b = none → b ≠ P := fun b e z => by rw [z, hP] at e; cases e
  have nO : ∀ b u, H b = some u → (∀ φ, u ≠ .ext φ) → b ≠ P := fun b u e q z => by
    rw [z, hP] at e
    exact q _ (Option.some.inj e).symm
  obtain ⟨ps, em, et⟩ := id hm
  refine I.step (g' := g') (d' := d') (ch := []) (fun b hb => by cases hb) (fun b o _ _ _ e n => k b o (nN b n) e) (fun b o _ _ _ e n => ⟨o.slots, k b o (nN b n) e⟩) (fun _ _ _ _ n => n) (fun b o _ e => ?_) (fun _ _ e => e) (fun _ _ _ e => e) (fun b qs e => ⟨#[], by rw [e]; simp⟩) (fun m hn => ?_) (fun b u e => ?_) hg
  · by_cases hb : b = P
    · exact ⟨_, hb ▸ em⟩
    · exact ⟨o, k b o hb e⟩
  · obtain ⟨ob, es, ep, ho, r⟩ := hn
    exact ⟨ob, es, ep, k _ ob (nN _ I.free) ho, r⟩
  · by_cases hb : b = P
    · subst hb
      rw [hP] at e; cases e
      exact tabOk_obj hm
    · refine (I.hok b u e).stay (fun c v hc q => k c v ?_ q) (fun _ q => q) fun _ _ q => q
      rcases hc with z | z
      · rw [z]; exact hb
      · exact nO c _ z (fun φ q => by cases q)
theorem inv_re {s' : Shared} (I : Inv X pins σ H s) (hh : s'.heap = s.heap) (os : s'.os = s.os) (hb : AllBare s'.gens) : Inv X pins σ H s' :=
  ⟨I.ok, os.trans I.os, hb, by rw [hh]; exact I.base, by rw [hh]; exact I.loc, by rw [hh]; exact I.cell, I.free, I.freeC, by rw [hh]; exact I.pin, by rw [hh]; exact I.hok, I.len⟩
end

/-- the context of a generator expression's body -/
abbrev gX (X : Cx) (A : Around) (s : Shared) (H : Hp) (cenv : Env) (fp : List Addr) : Cx := { X with A := A, s_0 := s, H_0 := H, env := cenv, outer := X.stack, stack := cenv :: X.stack, ex := fp, fn := fun _ => false, calm := true, pn := [], xe := fun _ _ => False }
/-- what is asked of a generator expression's scope -/
structure GSc (X : Cx) (scope : Scope) (own : List (Str × Nat)) : Prop where
  ok : BlkOk X.N X.env.scope scope own
  co : scope.isCoroutine = false
  cell : ∀ y ∈ scope.names, y.2 ≠ .cell
  dot : scope.names.lookup (".0" : Str) = some NameKind.local
section
variable {X : Cx} {pins : List (Addr × Obj)} {σ : L2.St} {H : Hp} {s : Shared}
theorem gen_start {scope : Scope} {own : List (Str × Nat)} {fp : List Addr} {A' : Around} {s' : Shared} {a : Addr} {go : Obj} {code : Value} {m : Str → Option Value} (I : Inv X pins σ H s) (S : GSc X scope own) (hN : X.N.Nodup)
    (hfp : ∀ b ∈ fp, FpOk X pins H b ∧ b < s.heap.objs.size) (hA : A'.handled = none) (hfr : A'.frames = some (genEnv scope (cloFrom X.env.cells scope.names []) s.heap.objs.size code builtinsNs X.env :: X.stack))
    (hC : s'.heap.Ns s.heap.objs.size m) (kp : ∀ b o, s.heap.get? b = some o → s'.heap.get? b = some o) (ha : s'.heap.get? a = some go) (hlt : s.heap.objs.size < a) (hgo : ∀ v, go.data ≠ .cell v) (os : s'.os = s.os) (hb : AllBare s'.gens) :
    Inv (gX X A' s H (genEnv scope (cloFrom X.env.cells scope.names []) s.heap.objs.size code builtinsNs X.env) fp) [(a, go)] (wipe σ (own.map (·.2))) H s' := by
  have ok := S.ok
  have cm : ∀ {y c}, (y, c) ∈ cloFrom X.env.cells scope.names [] → (y, NameKind.free) ∈ scope.names ∧ X.env.cells.lookup y = some c ∧ c < s.heap.objs.size := fun {y c} hm => by
    rcases cloFrom_mem hm with hm | ⟨h1, rfl⟩
    · cases hm
    · have : ∃ c, X.env.cells.lookup y = some c := (ok.free (y, .free) h1 rfl).elim (fun k => I.ok.has _ (.inl k)) fun k => I.ok.has _ (.inr k)
      obtain ⟨c, hc⟩ := this
      rw [hc]
      obtain ⟨w, z⟩ := I.cell _ _ hc
      exact ⟨h1, rfl, z.lt⟩
  have cl : ∀ {y c}, (cloFrom X.env.cells scope.names []).lookup y = some c → (y, NameKind.free) ∈ scope.names ∧ X.env.cells.lookup y = some c ∧ c < s.heap.objs.size := fun e => cm (PySem.mem_of_lookup e)
  have look : ∀ {y}, scope.names.lookup y = some .free → ∃ c, (cloFrom X.env.cells scope.names []).lookup y = some c ∧ X.env.cells.lookup y = some c := fun {y} hl => by
    obtain ⟨c', e'⟩ := L2.mem_lookup (cloFrom_has (cells := X.env.cells) (acc := []) (PySem.mem_of_lookup hl))
    exact ⟨c', e', (cl e').2.1⟩
  refine ⟨⟨I.ok.mod, ok.kind, I.ok.glob, rfl, Nat.le_refl _, fun y z c e1 e2 => I.ok.inj y z c (cl e1).2.1 (cl e2).2.1, fun y hy => ?_, fun y c z e => (by cases z), fun _ => hA, hfr, .inr ⟨rfl, rfl⟩, fun b hbm => ⟨Nat.ne_of_lt (hfp b hbm).2, fun y c e => (hfp b hbm).1.2.2.2.2.1 y c (cl e).2.1⟩, I.bs, Nat.le_trans I.ok.bsz I.sz, fun b o e hbm => ?_, fun b hbm z => ?_, I.stack, I.stkFree⟩,
    os, hb, Un.kept kp, ⟨m, hC, fun i y av e1 e2 e3 => ?_⟩, fun y c e => ?_, I.hok.fresh (Nat.le_refl _), fun y c e => I.freeC y c (cl e).2.1, fun p hp => ?_, I.hok.kept kp, by rw [wipe_length]; exact I.len⟩
  · rcases hy with hy | hy
    · exact absurd rfl (S.cell _ (PySem.mem_of_lookup hy))
    · obtain ⟨c, h1, _⟩ := look hy
      exact ⟨c, h1⟩
  · rcases (hfp b hbm).1.2.2.2.1 with z | z
    · exact I.ok.noex b o e z
    · exact absurd (Nat.lt_of_lt_of_le (Heap.lt_size e) (Nat.le_trans I.ok.bsz z)) (Nat.lt_irrefl _)
  · rcases List.mem_cons.mp (I.stkSub b z) with z | z
    · exact (hfp b hbm).1.2.1 z
    · exact (hfp b hbm).1.2.2.1 z
  · obtain ⟨e2, hne⟩ := wipe_some e2
    have no : ∀ k, scope.names.lookup y = some k → ¬ (k = .local ∨ k = .cell) := fun k hk hh => by
      rcases ok.own _ (PySem.mem_of_lookup hk) hh with e' | e'
      · obtain ⟨p, hp, hpy⟩ := List.mem_map.mp e'
        have e3 := ok.ix p hp
        have : p.1 = y := hpy
        rw [this] at e3
        exact hne (List.mem_map.mpr ⟨p, hp, nodup_ix hN e3 e1⟩)
      · exact e' (List.mem_of_getElem? e1)
    have hfr : scope.names.lookup y = some .free := by
      rcases e3 with e3 | e3 | e3
      · exact absurd (.inl rfl) (no _ e3)
      · exact absurd (.inr rfl) (no _ e3)
      · exact e3
    obtain ⟨m', hn, hl⟩ := I.loc
    have hv : Vis X.env.scope y := (ok.free _ (PySem.mem_of_lookup hfr) rfl).elim (fun k => .inr (.inl k)) (fun k => .inr (.inr k))
    obtain ⟨w, r, q⟩ := hl i y av e1 e2 hv
    refine ⟨w, r, .inr ⟨.inr hfr, ?_⟩⟩
    obtain ⟨c, h1, h2⟩ := look hfr
    rcases q with ⟨k, _⟩ | ⟨_, c', e', z⟩
    · have k : X.env.scope.names.lookup y = some .local := k
      rcases ok.free _ (PySem.mem_of_lookup hfr) rfl with k' | k' <;> rw [show X.env.scope.names.lookup y = _ from k'] at k <;> cases k
    · rw [h2] at e'; cases e'
      exact ⟨c, h1, z.keeps kp⟩
  · obtain ⟨w, z⟩ := I.cell y c (cl e).2.1
    exact ⟨w, z.keeps kp⟩
  · have hp : p ∈ ([] : List (Addr × Obj)) ++ [(a, go)] := hp
    rw [List.nil_append] at hp
    rw [List.mem_singleton.mp hp]
    refine ⟨ha, I.hok.fresh (Nat.le_of_lt hlt), Nat.ne_of_gt hlt, fun z => ?_, hgo⟩
    obtain ⟨_, o, ho, _⟩ := I.stack.mem z
    exact absurd (Nat.lt_trans hlt (Heap.lt_size ho)) (Nat.lt_irrefl _)

/-- the turns of a generator expression whose elements are truth values: on as long as they are not st, to the end with Qe, with Qs at the first one that is st -/
def tGen (st : Bool) (wi : TI) (g : TG) (te : TE) (vs : List Nat) : TE := fun σ H Q => wi σ H fun J H1 => ∃ W : Nat → Nat → Hp → Prop, (∃ m, W 0 m H1) ∧ ∀ i m H, W i m H →
  (J.stop i H ∧ Q (.bl (!st)) H) ∨ (J.go i H ∧ ∃ Nx : Hp → Prop, (∀ H', Nx H' → ∃ m', m' < m ∧ W (i + 1) m' H') ∧ ∀ x H', J.yld i H x H' → g x (wipe σ vs) H' fun σ2 H2 => wipe σ2 vs = wipe σ vs ∧
    te σ2 H2 fun y H3 => ∃ b, y = .bl b ∧ bif b == st then Q (.bl st) H3 else Nx H3)
/-- where a generator sleeps at turn i -/
def At (Y : Cx) (a : Addr) (go : Obj) (σ : L2.St) (fp : List Addr) (tn : Nat → Heap → Prop) (W : Nat → Nat → Hp → Prop) (i m : Nat) (s : Shared) : Prop :=
  ∃ H, Inv Y [(a, go)] σ H s ∧ tn i s.heap ∧ (∀ b ∈ fp, H b = none) ∧ W i m H
/-- the protocol: a truth value is handed out -/
def gY (Y : Cx) (a : Addr) (go : Obj) (σ : L2.St) (fp : List Addr) (tn : Nat → Heap → Prop) (W : Nat → Nat → Hp → Prop) (st : Bool) (Q : VK) : Protocol := fun _ _ v s κ =>
  ∃ b, v = .bool b ∧ s.heap.NoLimit ∧ s.heap.get? a = some go ∧ AllBare s.gens ∧ bif b == st then (∃ H, Inv Y [(a, go)] σ H s ∧ Q (.bl st) H) else
    (∃ i m, At Y a go σ fp tn W i m s) ∧ ∀ s', s'.heap = s.heap → s'.os = s.os → AllBare s'.gens → κ (.send .none) s'
def gR (Y : Cx) (a : Addr) (go : Obj) (σ : L2.St) (st : Bool) (Q : VK) : GenEnd := fun _ _ r s => r = .ok .next ∧ ∃ H, Inv Y [(a, go)] σ H s ∧ Q (.bl (!st)) H
theorem gen_turns {A : Around} {s4 : Shared} {H4 : Hp} {cenv : PySem.Env} {fp : List Addr} {a it : Addr} {go : Obj} {σ0 : L2.St} {tn : Nat → Heap → Prop} {J : It} {W : Nat → Nat → Hp → Prop} {st : Bool} {Q : VK} {elt tg iter : Expr} {scope : Scope} {pos : Pos} {g : TG} {te : TE} {vs : List Nat}
    (hco : cenv.scope.isCoroutine = false)
    (T : Turn X.prog X.w X.K tg J fp it tn) (pg : PG (gX X (A.over (.compLoop (.GeneratorExp elt [⟨tg, iter, [], 0⟩] scope pos) 0 (.ref it) .none cenv) []) s4 H4 cenv fp) tg g)
    (pe : PE (gX X (A.over (.compLoop (.GeneratorExp elt [⟨tg, iter, [], 0⟩] scope pos) 0 (.ref it) .none cenv) []) s4 H4 cenv fp) elt te)
    (hne : ∀ b ∈ fp, b ≠ a)
    (turn : ∀ i m H, W i m H → (J.stop i H ∧ Q (.bl (!st)) H) ∨ (J.go i H ∧ ∃ Nx : Hp → Prop, (∀ H', Nx H' → ∃ m', m' < m ∧ W (i + 1) m' H') ∧ ∀ x H', J.yld i H x H' → g x (wipe σ0 vs) H' fun σ2 H2 => wipe σ2 vs = wipe σ0 vs ∧
      te σ2 H2 fun y H3 => ∃ b, y = .bl b ∧ bif b == st then Q (.bl st) H3 else Nx H3)) :
    ∀ (m n i : Nat) (s₀ s : Shared), m < n → At (gX X (A.over (.compLoop (.GeneratorExp elt [⟨tg, iter, [], 0⟩] scope pos) 0 (.ref it) .none cenv) []) s4 H4 cenv fp) a go (wipe σ0 vs) fp tn W i m s →
      Seg (model X.prog X.w) A (gR (gX X (A.over (.compLoop (.GeneratorExp elt [⟨tg, iter, [], 0⟩] scope pos) 0 (.ref it) .none cenv) []) s4 H4 cenv fp) a go (wipe σ0 vs) st Q) (gY (gX X (A.over (.compLoop (.GeneratorExp elt [⟨tg, iter, [], 0⟩] scope pos) 0 (.ref it) .none cenv) []) s4 H4 cenv fp) a go (wipe σ0 vs) fp tn W st Q) n s₀
        (.compLoop (.GeneratorExp elt [⟨tg, iter, [], 0⟩] scope pos) 0 (.ref it) .none cenv) ((model X.prog X.w).den (.compLoop (.GeneratorExp elt [⟨tg, iter, [], 0⟩] scope pos) 0 (.ref it) .none cenv)) [] s := by
  generalize hY : gX X (A.over (.compLoop (.GeneratorExp elt [⟨tg, iter, [], 0⟩] scope pos) 0 (.ref it) .none cenv) []) s4 H4 cenv fp = Y at pg pe ⊢
  have yA : Y.A = A.over (.compLoop (.GeneratorExp elt [⟨tg, iter, [], 0⟩] scope pos) 0 (.ref it) .none cenv) [] := by rw [← hY]
  have yP : Y.prog = X.prog := by rw [← hY]
  have yw : Y.w = X.w := by rw [← hY]
  have yK : Y.K = X.K := by rw [← hY]
  have ye : Y.env = cenv := by rw [← hY]
  have yc : Y.calm = true := by rw [← hY]
  have yx : Y.ex = fp := by rw [← hY]
  have yn : Y.pn = [] := by rw [← hY]
  have yxe : Y.xe = fun _ _ => False := by rw [← hY]
  have fpok : ∀ {σ' : L2.St} {H' : Hp} {s' : Shared}, Inv Y [(a, go)] σ' H' s' → (∀ b ∈ fp, H' b = none) → ∀ b ∈ fp, FpOk Y [(a, go)] H' b := fun {σ' H' s'} I' hn b hb => by
    have hbx : b ∈ Y.ex := by rw [yx]; exact hb
    refine ⟨hn b hb, (I'.ok.exf b hbx).1, I'.ok.exfs b hbx, .inl hbx, fun x c e => (I'.ok.exf b hbx).2 x c e, fun p hp => ?_⟩
    rw [yn, List.nil_append] at hp
    rw [List.mem_singleton.mp hp]
    exact fun z => hne b hb z.symm
  intro m
  induction m using Nat.strongRecOn with
  | ind m ih =>
    intro n i s₀ s hmn ⟨H5, I5, st5, n5, w5⟩
    obtain ⟨n, rfl⟩ : ∃ k, n = k + 1 := ⟨n - 1, by omega⟩
    show Seg _ A _ _ _ s₀ _ ((compTurn (.GeneratorExp elt [⟨tg, iter, [], 0⟩] scope pos) 0 (.ref it) .none cenv).onRaise (leaving cenv)) [] s
    rw [compTurn_gen, Sem.onRaise_eq_wrap]
    refine seg_bind_wrap (wpAny_standAt ?_)
    rcases turn i m H5 w5 with ⟨stop, qq⟩ | ⟨go', Nx, hNx, step⟩
    · have td := T.done Y yP yw yK yc i [(a, go)] s _ H5 (fun _ _ => False) I5 (fpok I5 n5) st5 stop
      rw [yA] at td
      refine seg_bind_wrap (thnF td fun r s6 ⟨hr, I6⟩ => ?_)
      subst hr
      exact seg_end (.ok .next) ⟨rfl, H5, I6, qq⟩
    · have ti := T.item Y yP yw yK yc i [(a, go)] s _ H5 (fun _ _ => False) I5 (fpok I5 n5) st5 go'
      rw [yA] at ti
      refine seg_bind_wrap (thnF ti fun r s6 ⟨u, hr, h6⟩ => ?_)
      subst hr
      refine seg_bind_wrap (thnF h6 fun _ s7 ⟨x, H7, I7, r7, y7, st7, n7⟩ => ?_)
      have I7' := I7.pinned (fpok I7 n7) (T.obj _ _ st7)
      have pgr := pg.run _ s7 _ H7 x u _ I7' r7 (step x H7 y7)
      rw [yA, yP, yw, ye, yxe] at pgr
      refine seg_bind_wrap (thnF pgr fun _ s8 ⟨σ8, H8, I8, hw8, q8⟩ => ?_)
      refine seg_bind_wrap (wpAny_tests_nil ?_)
      simp only [if_true]
      have hy : ∀ v, yieldOut cenv v = yieldValue v := fun v => by simp only [yieldOut, hco, Bool.false_eq_true, if_false]
      simp only [hy]
      rw [Sem.bind_eq_wrap', Sem.bind_eq_wrap', Sem.wrap_wrap, Sem.wrap_wrap]
      have per := pe.run _ s8 σ8 H8 _ I8 q8
      rw [yA, yP, yw, ye, yxe] at per
      refine seg_wrap (thnF per fun y s10 ⟨yv, H10, I10, r10, b, eb, q10⟩ => ?_)
      subst eb
      obtain rfl : y = .bool b := r10
      have pin' : ∀ b ∈ fp, ∀ o, s7.heap.get? b = some o → s10.heap.get? b = some o ∧ H10 b = none := fun b hb o e =>
        let z := I10.pin (b, o) (List.mem_append_right _ (List.mem_append_right _ (mem_pinsAt hb e)))
        ⟨z.1, z.2.1⟩
      have hl : (wipe σ0 vs).length = σ8.length := by rw [← hw8, wipe_length]
      have I11 : Inv Y [(a, go)] (wipe σ0 vs) H10 s10 := (I10.unpinned (pins := [(a, go)])).weak hl fun j v e => by
        rw [← hw8] at e
        exact (wipe_some e).1
      refine seg_at (seg_yield rfl rfl rfl ⟨b, rfl, I11.nolimit, (I11.pin (a, go) (List.mem_append_right _ List.mem_cons_self)).1, I11.bare, ?_⟩)
      cases hb : (b == st) with
      | true =>
        rw [hb] at q10
        exact ⟨H10, I11, q10⟩
      | false =>
        rw [hb] at q10
        obtain ⟨m', hm, w'⟩ := hNx H10 q10
        have st11 : tn (i + 1) s10.heap := T.keep _ _ _ st7 fun b hb o e => (pin' b hb o e).1
        have n11 : ∀ b ∈ fp, H10 b = none := fun b hb => by
          obtain ⟨o, e, _⟩ := T.obj _ _ st7 b hb
          exact (pin' b hb o e).2
        refine ⟨⟨i + 1, m', H10, I11, st11, n11, w'⟩, fun s' e1 e2 e3 => seg_again rfl (ih m' hm n (i + 1) s' s' (by omega) ⟨H10, inv_re I11 e1 e2 e3, by rw [e1]; exact st11, n11, w'⟩)⟩

theorem all_drain {Y : Cx} {A : Around} {a : Addr} {g : Nat} {go : Obj} {σ0 : L2.St} {fp : List Addr} {tn : Nat → Heap → Prop} {W : Nat → Nat → Hp → Prop} {Q : VK} {R : Result → Shared → Prop} (hh : A.handled = none) (hd : A.depth < recursionLimit)
    (isg : ∀ h : Heap, h.get? a = some go → h.IsGen a g)
    (fin : ∀ s' H b, Inv Y [(a, go)] σ0 H s' → Q (.bl b) H → R (.ok (.ret (.bool b))) s') :
    ∀ (n : Nat) (s : Shared), s.heap.get? a = some go → s.heap.NoLimit → (∃ gs, s.gens[g]? = some gs ∧ gs.Goes (model X.prog X.w) A.in1.in1 (gR Y a go σ0 false Q) (gY Y a go σ0 fp tn W false Q) n (.send .none) (s.setGen g .running)) →
      codeAny (model X.prog X.w) A (.builtin "all.loop" ⟨[.ref a], []⟩) R s := by
  have goes : ∀ {gs : GenState} {n : Nat} {s : Shared}, gs.Goes (model X.prog X.w) A.in1.in1 (gR Y a go σ0 false Q) (gY Y a go σ0 fp tn W false Q) n (.send .none) s →
      gs.Goes (model X.prog X.w) A.in1.in1 (fun n s₀ r s₁ => r = .ok .next ∧ (fun (_ : Nat) (_ s₁ : Shared) => ∃ H, Inv Y [(a, go)] σ0 H s₁ ∧ Q (.bl (!false)) H) n s₀ s₁) (gY Y a go σ0 fp tn W false Q) n (.send .none) s := fun h => h
  intro n
  induction n with
  | zero =>
    intro s ha hl ⟨gs, hgs, hgo⟩
    have hg := isg _ ha
    refine codeAny_builtin (F.entry_all_loop) ?_; rw [Around.under_plainId (F.plain_all_loop) _]
    show wpAny _ A.in1 (pyNext (.ref a) >>= _) _ _ s
    refine wpAny_bind (wpAny_pyNext_genexpQ (A := A.in1) hh hl hd hg hgs (goes hgo) (fun v s₁ gs' hbare hv => ?_) (fun s₁ hp h' hk => ?_))
    · obtain ⟨b, rfl, hl1, ha1, hb1, q⟩ := hv
      cases hb : (b == false) with
      | true =>
        rw [hb] at q
        obtain ⟨H, I, q⟩ := q
        obtain rfl : b = false := by simpa using hb
        refine wpAny_bind (wpAny_holding (wpAny_truthy_bool ?_)); refine wpAny_bind (wpAny_letGo ?_)
        simp only [Bool.false_eq_true, if_false, if_true]
        refine wpAny_bind (wpAny_rule (wpAny_pure ?_)); exact fin _ H _ (inv_re I rfl rfl (allBare_setGen hb1 hbare)) q
      | false =>
        rw [hb] at q
        exact (q.2 s₁ rfl rfl hb1).elim
    · obtain ⟨H, I, q⟩ := hp
      refine wpAny_bind (wpAny_rule (wpAny_pure ?_)); exact fin _ H _ ((inv_re (s' := s₁.setGen g .finished) I rfl rfl (allBare_setGen I.bare rfl)).kept (t' := s₁.toks) hk) q
  | succ n ih =>
    intro s ha hl ⟨gs, hgs, hgo⟩
    have hg := isg _ ha
    have hgl : g < s.gens.size := (Array.getElem?_eq_some_iff.mp hgs).1
    refine codeAny_builtin (F.entry_all_loop) ?_; rw [Around.under_plainId (F.plain_all_loop) _]
    show wpAny _ A.in1 (pyNext (.ref a) >>= _) _ _ s
    refine wpAny_bind (GenW.wpAny_gsz (n := g + 1) hgl (wpAny_pyNext_genexpQ (A := A.in1) hh hl hd hg hgs (goes hgo) (fun v s₁ gs' hbare hv => ?_) (fun s₁ hp h' hk => ?_)))
    · intro hsz
      obtain ⟨b, rfl, hl1, ha1, hb1, q⟩ := hv
      cases hb : (b == false) with
      | true =>
        rw [hb] at q
        obtain ⟨H, I, q⟩ := q
        obtain rfl : b = false := by simpa using hb
        refine wpAny_bind (wpAny_holding (wpAny_truthy_bool ?_)); refine wpAny_bind (wpAny_letGo ?_)
        simp only [Bool.false_eq_true, if_false, if_true]
        refine wpAny_bind (wpAny_rule (wpAny_pure ?_)); exact fin _ H _ (inv_re I rfl rfl (allBare_setGen hb1 hbare)) q
      | false =>
        rw [hb] at q
        obtain rfl : b = true := by cases b <;> first | rfl | cases hb
        have hsz1 : g < s₁.gens.size := by
          have q1 : (s₁.setGen g gs').gens.size = s₁.gens.size := GenW.setGen_size _ _ _
          have q2 : g + 1 ≤ (s₁.setGen g gs').gens.size := hsz
          omega
        refine wpAny_bind (wpAny_holding (wpAny_truthy_bool ?_)); refine wpAny_bind (wpAny_letGo ?_)
        simp only [Bool.false_eq_true, if_false, if_true]
        refine wpAny_pure ⟨plainId_quiet (F.plain_all_loop) _, ih _ ha1 hl1 ⟨gs', setGen_at hsz1, ?_⟩⟩
        exact q.2 _ rfl rfl (allBare_setGen (s := s₁.setGen g gs') (allBare_setGen hb1 hbare) rfl)
    · intro hsz
      obtain ⟨H, I, q⟩ := hp
      refine wpAny_bind (wpAny_rule (wpAny_pure ?_)); exact fin _ H _ ((inv_re (s' := s₁.setGen g .finished) I rfl rfl (allBare_setGen I.bare rfl)).kept (t' := s₁.toks) hk) q

theorem any_drain {Y : Cx} {A : Around} {a : Addr} {g : Nat} {go : Obj} {σ0 : L2.St} {fp : List Addr} {tn : Nat → Heap → Prop} {W : Nat → Nat → Hp → Prop} {Q : VK} {R : Result → Shared → Prop} (hh : A.handled = none) (hd : A.depth < recursionLimit)
    (isg : ∀ h : Heap, h.get? a = some go → h.IsGen a g)
    (fin : ∀ s' H b, Inv Y [(a, go)] σ0 H s' → Q (.bl b) H → R (.ok (.ret (.bool b))) s') :
    ∀ (n : Nat) (s : Shared), s.heap.get? a = some go → s.heap.NoLimit → (∃ gs, s.gens[g]? = some gs ∧ gs.Goes (model X.prog X.w) A.in1.in1 (gR Y a go σ0 true Q) (gY Y a go σ0 fp tn W true Q) n (.send .none) (s.setGen g .running)) →
      codeAny (model X.prog X.w) A (.builtin "any.loop" ⟨[.ref a], []⟩) R s := by
  have goes : ∀ {gs : GenState} {n : Nat} {s : Shared}, gs.Goes (model X.prog X.w) A.in1.in1 (gR Y a go σ0 true Q) (gY Y a go σ0 fp tn W true Q) n (.send .none) s →
      gs.Goes (model X.prog X.w) A.in1.in1 (fun n s₀ r s₁ => r = .ok .next ∧ (fun (_ : Nat) (_ s₁ : Shared) => ∃ H, Inv Y [(a, go)] σ0 H s₁ ∧ Q (.bl (!true)) H) n s₀ s₁) (gY Y a go σ0 fp tn W true Q) n (.send .none) s := fun h => h
  intro n
  induction n with
  | zero =>
    intro s ha hl ⟨gs, hgs, hgo⟩
    have hg := isg _ ha
    refine codeAny_builtin (F.entry_any_loop) ?_; rw [Around.under_plainId (F.plain_any_loop) _]
    show wpAny _ A.in1 (pyNext (.ref a) >>= _) _ _ s
    refine wpAny_bind (wpAny_pyNext_genexpQ (A := A.in1) hh hl hd hg hgs (goes hgo) (fun v s₁ gs' hbare hv => ?_) (fun s₁ hp h' hk => ?_))
    · obtain ⟨b, rfl, hl1, ha1, hb1, q⟩ := hv
      cases hb : (b == true) with
      | true =>
        rw [hb] at q
        obtain ⟨H, I, q⟩ := q
        obtain rfl : b = true := by simpa using hb
        refine wpAny_bind (wpAny_holding (wpAny_truthy_bool ?_)); refine wpAny_bind (wpAny_letGo ?_)
        simp only [Bool.false_eq_true, if_false, if_true]
        refine wpAny_bind (wpAny_rule (wpAny_pure ?_)); exact fin _ H _ (inv_re I rfl rfl (allBare_setGen hb1 hbare)) q
      | false =>
        rw [hb] at q
        exact (q.2 s₁ rfl rfl hb1).elim
    · obtain ⟨H, I, q⟩ := hp
      refine wpAny_bind (wpAny_rule (wpAny_pure ?_)); exact fin _ H _ ((inv_re (s' := s₁.setGen g .finished) I rfl rfl (allBare_setGen I.bare rfl)).kept (t' := s₁.toks) hk) q
  | succ n ih =>
    intro s ha hl ⟨gs, hgs, hgo⟩
    have hg := isg _ ha
    have hgl : g < s.gens.size := (Array.getElem?_eq_some_iff.mp hgs).1
    refine codeAny_builtin (F.entry_any_loop) ?_; rw [Around.under_plainId (F.plain_any_loop) _]
    show wpAny _ A.in1 (pyNext (.ref a) >>= _) _ _ s
    refine wpAny_bind (GenW.wpAny_gsz (n := g + 1) hgl (wpAny_pyNext_genexpQ (A := A.in1) hh hl hd hg hgs (goes hgo) (fun v s₁ gs' hbare hv => ?_) (fun s₁ hp h' hk => ?_)))
    · intro hsz
      obtain ⟨b, rfl, hl1, ha1, hb1, q⟩ := hv
      cases hb : (b == true) with
      | true =>
        rw [hb] at q
        obtain ⟨H, I, q⟩ := q
        obtain rfl : b = true := by simpa using hb
        refine wpAny_bind (wpAny_holding (wpAny_truthy_bool ?_)); refine wpAny_bind (wpAny_letGo ?_)
        simp only [Bool.false_eq_true, if_false, if_true]
        refine wpAny_bind (wpAny_rule (wpAny_pure ?_)); exact fin _ H _ (inv_re I rfl rfl (allBare_setGen hb1 hbare)) q
      | false =>
        rw [hb] at q
        obtain rfl : b = false := by cases b <;> first | rfl | cases hb
        have hsz1 : g < s₁.gens.size := by
          have q1 : (s₁.setGen g gs').gens.size = s₁.gens.size := GenW.setGen_size _ _ _
          have q2 : g + 1 ≤ (s₁.setGen g gs').gens.size := hsz
          omega
        refine wpAny_bind (wpAny_holding (wpAny_truthy_bool ?_)); refine wpAny_bind (wpAny_letGo ?_)
        simp only [Bool.false_eq_true, if_false, if_true]
        refine wpAny_pure ⟨plainId_quiet (F.plain_any_loop) _, ih _ ha1 hl1 ⟨gs', setGen_at hsz1, ?_⟩⟩
        exact q.2 _ rfl rfl (allBare_setGen (s := s₁.setGen g gs') (allBare_setGen hb1 hbare) rfl)
    · intro hsz
      obtain ⟨H, I, q⟩ := hp
      refine wpAny_bind (wpAny_rule (wpAny_pure ?_)); exact fin _ H _ ((inv_re (s' := s₁.setGen g .finished) I rfl rfl (allBare_setGen I.bare rfl)).kept (t' := s₁.toks) hk) q


/-- the reading with the table at P -/
def tGenP (P : Addr) (st : Bool) (wi : TI) (g : TG) (te : TE) (vs : List Nat) : TE := fun σ H Q => wi σ H fun J H1 => H1 P = some (.ext (tabOk P)) ∧ ∃ W : Nat → Nat → Hp → Prop, (∃ m, W 0 m H1) ∧ ∀ i m H, W i m H →
  (J.stop i H ∧ Q (.bl (!st)) H) ∨ (J.go i H ∧ ∃ Nx : Hp → Prop, (∀ H', Nx H' → ∃ m', m' < m ∧ W (i + 1) m' H') ∧ ∀ x H', J.yld i H x H' → g x (wipe σ vs) H' fun σ2 H2 => wipe σ2 vs = wipe σ vs ∧
    te σ2 H2 fun y H3 => ∃ b, y = .bl b ∧ bif b == st then Q (.bl st) H3 else Nx H3)
abbrev gEnv (X : Cx) (scope : Scope) (C : Addr) (code : Value) : PySem.Env := genEnv scope (cloFrom X.env.cells scope.names []) C code builtinsNs X.env
/-- the generator that was made, ready to be woken -/
structure Ready (X : Cx) (pins : List (Addr × Obj)) (σ : L2.St) (st : Bool) (Q : VK) (a : Addr) (s : Shared) : Prop where
  ex : ∃ (Y : Cx) (g : Nat) (go : Obj) (σ0 : L2.St) (fp : List Addr) (tn : Nat → Heap → Prop) (W : Nat → Nat → Hp → Prop) (n : Nat) (gs : GenState), s.heap.get? a = some go ∧ (∀ h : Heap, h.get? a = some go → h.IsGen a g) ∧ s.heap.NoLimit ∧
    s.gens[g]? = some gs ∧ gs.Goes (model X.prog X.w) X.A.in1.in1 (gR Y a go σ0 st Q) (gY Y a go σ0 fp tn W st Q) n (.send .none) (s.setGen g .running) ∧
    ∀ s' H b, Inv Y [(a, go)] σ0 H s' → Q (.bl b) H → EP X pins σ Q (.bool b) s'
theorem gen_make {k : Nat} {st : Bool} {c P : Addr} {elt tg iter : Expr} {scope : Scope} {own : List (Str × Nat)} {gpos : Pos} {wi : TI} {g : TG} {te : TE} {Q : VK} {Q' : Value → Shared → Prop}
    (hr : Room (k + 1) X.A) (TB : GxR.TabB X.base X.mg c P) (hcode : X.env.code = .ref c) (S : GSc X scope own) (hN : X.N.Nodup) (hi : PI X tg iter wi)
    (hg : ∀ (A' : Around) (s : Shared) (H : Hp) (C : Addr) (code : Value) (fp : List Addr), Room k A' → PG (gX X A' s H (gEnv X scope C code) fp) tg g)
    (he : ∀ (A' : Around) (s : Shared) (H : Hp) (C : Addr) (code : Value) (fp : List Addr), Room k A' → PE (gX X A' s H (gEnv X scope C code) fp) elt te)
    (hs : ∀ v, genFold iter X.env v = pure v) (I : Inv X pins σ H s) (h : tGenP P st wi g te (own.map (·.2)) σ H Q) (hQ : ∀ a s5, Ready X pins σ st Q a s5 → Q' (.ref a) s5) :
    wpAny (model X.prog X.w) X.A (eval (.GeneratorExp elt [⟨tg, iter, [], 0⟩] scope gpos) X.env) Q' X.xe s := by
  have hfree : ∀ y ∈ scope.names, y.2 = .free → ∃ c, X.env.cells.lookup y.1 = some c := fun y hy e => by
    rcases S.ok.free y hy e with q | q
    · exact I.ok.has _ (.inl q)
    · exact I.ok.has _ (.inr q)
  refine wpAny_GeneratorExp_make S.co (closure_ok hfree) S.cell S.dot S.ok.kind (by have := hr.dp; omega) ?_ hs
  refine thn (hi.run pins s σ H _ I h) fun xv s1 hx => thn hx fun itv s2 h2 => ?_
  obtain ⟨it, fp, tn, J, H2, rfl, I2, T, st2, f2, hP, W, ⟨m0, w0⟩, turn⟩ := h2
  refine ⟨I2.nolimit, ?_⟩
  obtain ⟨⟨ps, hPs, hPt⟩, _⟩ := I2.hok P _ hP
  have cd : PySem.W.CodeHd s2.heap c P := TB.code.keeps I2.bk
  have main : ∀ (code : Value) (h3 : Heap) (tk : Nat), (∀ b o, b ≠ P → s2.heap.get? b = some o → h3.get? b = some o) → tabOk P h3 → s2.heap.objs.size ≤ h3.objs.size →
      wpAny (model X.prog X.w) X.A (builtinsFor X.env.globals X.env.builtins) (fun bi s₄ =>
        ∀ h', h'.Ns s₄.heap.objs.size (fun y => if y = ".0" then some (.ref it) else none) → Heap.SameBut s₄.heap.objs.size (s₄.heap.push { cls := .type "frame", data := .dict #[] }) h' →
          Q' (.ref h'.objs.size) { s₄ with
            gens := s₄.gens.push (.fresh (.compStart (.GeneratorExp elt [⟨tg, iter, [], 0⟩] scope gpos) 0 (.ref it) .none (genEnv scope (cloFrom X.env.cells scope.names []) s₄.heap.objs.size code bi X.env))),
            toks := s₄.toks + 1 + 1 + 1,
            heap := h'.push { cls := .type "generator", data := .fields #[.int s₄.gens.size 0, .str "<genexpr>" (s₄.toks + 1), .str (X.env.qual ++ "<genexpr>") (s₄.toks + 1 + 1)] } }) X.xe { s2 with heap := h3, toks := tk } := by
    intro code h3 tk k3 t3 z3
    have I3 : Inv X pins σ H2 { s2 with heap := h3, toks := tk } := inv_tab (g' := s2.gens) (d' := s2.drawn) (t' := tk) I2 hP k3 t3 I2.bare
    obtain ⟨bm, ob, e1, e2, e3, e4, e5, e6, e7, e8⟩ := TB.bm
    refine wpAny_builtinsFor (m := X.mg) (by rw [I3.ok.glob]; exact I3.mod.glob.keeps I3.bk) e1 e2 (I3.bk _ _ e5) e6 e7 e8 ?_
    intro h' hn' hs'
    generalize hs3 : ({ s2 with heap := h3, toks := tk } : Shared) = s3 at I3 hn' hs' ⊢
    have hh3 : s3.heap = h3 := by rw [← hs3]
    have hsz : h'.objs.size = s3.heap.objs.size + 1 := by rw [hs'.1, Heap.size_push]
    have keep' : ∀ b o, s3.heap.get? b = some o → h'.get? b = some o := fun b o e => hs'.extBut b o (Nat.ne_of_lt (Heap.lt_size e)) (Heap.get?_push_of_some _ e)
    have nP : ∀ b ∈ fp, b ≠ P := fun b hb z => by
      have q := (f2 b hb).1
      rw [z, hP] at q; cases q
    have st3 : tn 0 s3.heap := T.keep _ _ _ st2 fun b hb o e => by rw [hh3]; exact k3 b o (nP b hb) e
    have f3 : ∀ b ∈ fp, FpOk X pins H2 b ∧ b < s3.heap.objs.size := fun b hb => ⟨f2 b hb, by
      obtain ⟨o, e, _⟩ := T.obj _ _ st3 b hb
      exact Heap.lt_size e⟩
    generalize hgo : ({ cls := .type "generator", data := .fields #[.int s3.gens.size 0, .str "<genexpr>" (s3.toks + 1), .str (X.env.qual ++ "<genexpr>") (s3.toks + 1 + 1)] } : Obj) = go
    generalize hce : genEnv scope (cloFrom X.env.cells scope.names []) s3.heap.objs.size code builtinsNs X.env = cenv
    generalize hs6 : ({ s3 with gens := s3.gens.push (.fresh (.compStart (.GeneratorExp elt [⟨tg, iter, [], 0⟩] scope gpos) 0 (.ref it) .none cenv)), toks := s3.toks + 1 + 1 + 1, heap := h'.push go } : Shared) = s6
    have gh6 : s6.heap = h'.push go := by rw [← hs6]
    have ha6 : s6.heap.get? h'.objs.size = some go := by rw [gh6]; exact Heap.get?_push_size _ (by rw [← hgo]; rfl)
    have kp6 : ∀ b o, s3.heap.get? b = some o → s6.heap.get? b = some o := fun b o e => by rw [gh6]; exact Heap.get?_push_of_some _ (keep' b o e)
    have bare6 : AllBare s6.gens := by rw [← hs6]; exact I3.bare.push rfl
    have os6 : s6.os = s3.os := by rw [← hs6]
    have rA : Room k (X.A.in1.in1.over (.compLoop (.GeneratorExp elt [⟨tg, iter, [], 0⟩] scope gpos) 0 (.ref it) .none cenv) []) := ⟨hr.hd, by have := hr.dp; show X.A.depth + 0 + 1 + 3 * k + 5 < _; omega, by have := hr.un; show X.A.units + 1 + 1 + 0 + 3 + 16 * k + 200 < _; omega⟩
    have fA : (X.A.in1.in1.over (.compLoop (.GeneratorExp elt [⟨tg, iter, [], 0⟩] scope gpos) 0 (.ref it) .none cenv) []).frames = some (cenv :: X.stack) := by
      show pushEnvs [cenv] (pushEnvs [] X.A.frames) = _
      rw [I.ok.frames]; rfl
    have I6 : Inv (gX X (X.A.in1.in1.over (.compLoop (.GeneratorExp elt [⟨tg, iter, [], 0⟩] scope gpos) 0 (.ref it) .none cenv) []) s3 H2 cenv fp) [(h'.objs.size, go)] (wipe σ (own.map (·.2))) H2 s6 := by
      subst hce
      exact gen_start I3 S hN f3 hr.hd fA (by rw [gh6]; exact hn'.push _) kp6 ha6 (by omega) (fun v z => by rw [← hgo] at z; cases z) os6 bare6
    have st6 : tn 0 s6.heap := T.keep _ _ _ st3 fun b _ o e => kp6 b o e
    have ne6 : ∀ b ∈ fp, b ≠ h'.objs.size := fun b hb => Nat.ne_of_lt (Nat.lt_trans (f3 b hb).2 (by omega))
    have pg := hg _ s3 H2 s3.heap.objs.size code fp rA
    have pe := he _ s3 H2 s3.heap.objs.size code fp rA
    have cco : cenv.scope.isCoroutine = false := by rw [← hce]; exact S.co
    rw [show gEnv X scope s3.heap.objs.size code = cenv from hce] at pg pe
    have loop := fun (s' : Shared) (e1 : s'.heap = s6.heap) (e2 : s'.os = s6.os) (e3 : AllBare s'.gens) => gen_turns (A := X.A.in1.in1) (st := st) (Q := Q) (σ0 := σ) (vs := own.map (·.2)) (W := W) cco T pg pe ne6 turn m0 (m0 + 1) 0 s' s' (Nat.lt_succ_self _) ⟨H2, inv_re I6 e1 e2 e3, by rw [e1]; exact st6, fun b hb => (f3 b hb).1.1, w0⟩
    refine hQ h'.objs.size s6 ⟨⟨gX X (X.A.in1.in1.over (.compLoop (.GeneratorExp elt [⟨tg, iter, [], 0⟩] scope gpos) 0 (.ref it) .none cenv) []) s3 H2 cenv fp, s3.gens.size, go, wipe σ (own.map (·.2)), fp, tn, W, m0 + 1, .fresh (.compStart (.GeneratorExp elt [⟨tg, iter, [], 0⟩] scope gpos) 0 (.ref it) .none cenv), ha6, fun hh e => ⟨go, _, _, e, by rw [← hgo], by rw [← hgo], by rw [← hgo]⟩, I6.nolimit, by rw [← hs6]; exact Array.getElem?_push_size .., ⟨rfl, ?_⟩, ?_⟩⟩
    · have lp := loop (s6.setGen s3.gens.size .running) rfl rfl (allBare_setGen bare6 rfl)
      show Seg _ _ _ _ _ _ _ ((compStart (.GeneratorExp elt [⟨tg, iter, [], 0⟩] scope gpos) 0 (.ref it) .none cenv).onRaise (leaving cenv)) [] _
      unfold compStart
      rw [Sem.onRaise_eq_wrap]
      show Seg _ _ _ _ _ _ _ ((ask >>= _).wrap _ _ _ _) [] _
      refine seg_bind_wrap (wpAny_askSetting ?_)
      split
      · exact seg_again rfl lp
      · refine seg_bind_wrap (wpAny_rule ?_)
        show Seg _ _ _ _ _ _ _ ((standAt iter.pos >>= _).wrap _ _ _ _) [] _
        exact seg_bind_wrap (wpAny_standAt (seg_bind_wrap (T.self _ 0 _ _ _ (by exact st6) (seg_again rfl lp))))
    · intro s' H5 b I5 q
      have I7 : Inv X pins σ H5 s' := I3.call' (ch := fp) I5.os I5.base I5.hok I5.bare fun b hb => ⟨(f3 b hb).1.2.2.2.1, (f3 b hb).1.2.1, (f3 b hb).1.2.2.2.2.1, (f3 b hb).1.2.2.2.2.2⟩
      exact ⟨.bl b, H5, I7, rfl, q⟩
  cases hf : codeAmong gpos ps.toList with
  | none =>
    refine wpAny_genexprCodeX hcode (cd.code hPs hPt) (cd.tab hPs) hf fun c' h' tk hx hge hlt hco' _ htab' _ => ?_
    obtain ⟨o1, vs, f1, tf, fl, tg', inF, tx, tt, op, _, _, _, _, _, _, _, _, _, htr, _⟩ := hco'
    exact main _ h' tk (fun b o hb e => hx b o hb e) ⟨_, htab'.2, htr⟩ (Nat.le_trans hge (Nat.le_of_lt hlt))
  | some cv =>
    refine wpAny_genexprCode_hit hcode (cd.code hPs hPt) hf ?_
    exact main cv s2.heap s2.toks (fun _ _ _ e => e) ⟨ps, hPs, hPt⟩ (Nat.le_refl _)

/-- all(elt for target in iter) -/
theorem pe_allG {k : Nat} {c P : Addr} {elt tg iter : Expr} {scope : Scope} {own : List (Str × Nat)} {p pos gpos : Pos} {wi : TI} {g : TG} {te : TE}
    (hr : Room (k + 1) X.A) (hgl : Gl X "all") (hm : X.mg "all" = none) (hb : bootBuiltins "all" = some (.builtin "all")) (TB : GxR.TabB X.base X.mg c P) (hcode : X.env.code = .ref c) (S : GSc X scope own) (hN : X.N.Nodup) (hi : PI X tg iter wi)
    (hg : ∀ (A' : Around) (s : Shared) (H : Hp) (C : Addr) (code : Value) (fp : List Addr), Room k A' → PG (gX X A' s H (gEnv X scope C code) fp) tg g)
    (hel : ∀ (A' : Around) (s : Shared) (H : Hp) (C : Addr) (code : Value) (fp : List Addr), Room k A' → PE (gX X A' s H (gEnv X scope C code) fp) elt te)
    (hs : ∀ v, genFold iter X.env v = pure v)
    (he : starEach [.GeneratorExp elt [⟨tg, iter, [], 0⟩] scope gpos] X.env = (false, eval (.GeneratorExp elt [⟨tg, iter, [], 0⟩] scope gpos) X.env) :: starEach [] X.env := by rfl) :
    PE X (.Call (.Name "all" p) [.GeneratorExp elt [⟨tg, iter, [], 0⟩] scope gpos] [] pos) (tGenP P false wi g te (own.map (·.2))) := by
  refine ⟨fun pins s σ H Q I h => ?_⟩
  refine wpAny_Call_Name_kw (ld_blt I hgl hm hb ?_)
  refine PyProof.Rows.callWith_builtin1 ?_ he (by rfl); rw [he]
  show wpAny _ _ (spliced ((false, eval (.GeneratorExp elt [⟨tg, iter, [], 0⟩] scope gpos) X.env) :: backTo pos (starEach [] X.env))) _ _ s
  refine Calls.spliced_cons (gen_make hr TB hcode S hN hi hg hel hs I h fun a s5 G => Calls.spliced_nil ?_)
  obtain ⟨Y, g, go, σ0, fp, tn, W, n, gs, ha, isg, hl, hgs, hgo, fin⟩ := G.ex
  refine call_function_tree F.kind_all F.plain_all F.entry_all (F.args_all1 _) ?_
  unfold Builtin.«all»; refine wpAny_bind (m := oneArg "all" _) (wpAny_pure ?_)
  refine wpAny_bind (wpAny_pyIter_gen (isg _ ha) ?_)
  exact wpAny_pure ⟨plainId_quiet (F.plain_all_loop) _, all_drain (X := X) (A := X.A) hr.hd (by have := hr.dp; omega) isg (fun s' H b I q => fin s' H b I q) n s5 ha hl ⟨gs, hgs, hgo⟩⟩

/-- any(elt for target in iter) -/
theorem pe_anyG {k : Nat} {c P : Addr} {elt tg iter : Expr} {scope : Scope} {own : List (Str × Nat)} {p pos gpos : Pos} {wi : TI} {g : TG} {te : TE}
    (hr : Room (k + 1) X.A) (hgl : Gl X "any") (hm : X.mg "any" = none) (hb : bootBuiltins "any" = some (.builtin "any")) (TB : GxR.TabB X.base X.mg c P) (hcode : X.env.code = .ref c) (S : GSc X scope own) (hN : X.N.Nodup) (hi : PI X tg iter wi)
    (hg : ∀ (A' : Around) (s : Shared) (H : Hp) (C : Addr) (code : Value) (fp : List Addr), Room k A' → PG (gX X A' s H (gEnv X scope C code) fp) tg g)
    (hel : ∀ (A' : Around) (s : Shared) (H : Hp) (C : Addr) (code : Value) (fp : List Addr), Room k A' → PE (gX X A' s H (gEnv X scope C code) fp) elt te)
    (hs : ∀ v, genFold iter X.env v = pure v)
    (he : starEach [.GeneratorExp elt [⟨tg, iter, [], 0⟩] scope gpos] X.env = (false, eval (.GeneratorExp elt [⟨tg, iter, [], 0⟩] scope gpos) X.env) :: starEach [] X.env := by rfl) :
    PE X (.Call (.Name "any" p) [.GeneratorExp elt [⟨tg, iter, [], 0⟩] scope gpos] [] pos) (tGenP P true wi g te (own.map (·.2))) := by
  refine ⟨fun pins s σ H Q I h => ?_⟩
  refine wpAny_Call_Name_kw (ld_blt I hgl hm hb ?_)
  refine PyProof.Rows.callWith_builtin1 ?_ he (by rfl); rw [he]
  show wpAny _ _ (spliced ((false, eval (.GeneratorExp elt [⟨tg, iter, [], 0⟩] scope gpos) X.env) :: backTo pos (starEach [] X.env))) _ _ s
  refine Calls.spliced_cons (gen_make hr TB hcode S hN hi hg hel hs I h fun a s5 G => Calls.spliced_nil ?_)
  obtain ⟨Y, g, go, σ0, fp, tn, W, n, gs, ha, isg, hl, hgs, hgo, fin⟩ := G.ex
  refine call_function_tree F.kind_any F.plain_any F.entry_any (F.args_any1 _) ?_
  unfold Builtin.«any»; refine wpAny_bind (m := oneArg "any" _) (wpAny_pure ?_)
  refine wpAny_bind (wpAny_pyIter_gen (isg _ ha) ?_)
  exact wpAny_pure ⟨plainId_quiet (F.plain_any_loop) _, any_drain (X := X) (A := X.A) hr.hd (by have := hr.dp; omega) isg (fun s' H b I q => fin s' H b I q) n s5 ha hl ⟨gs, hgs, hgo⟩⟩

end
end G0

/-! Mi: a shallow functional reading of defs over the hand layer: values PV, a store of lists that change, M (an expression's meaning), MS (a statement's); SE, SS tie them to the hand layer's readings. -/
noncomputable section
namespace Mi
open PySem PySem.Spec PyProof.Rows L2

/-- a value: tuples and lists that nobody changes are what they hold; box n: the n-th list that may change -/
inductive PV where
  | non | bl (b : Bool) | int (i : Int) | str (x : Str) | tup (xs : List PV) | lst (xs : List PV) | fro (xs : List PV) | box (n : Nat) | ty (n : String) | obj (a : Addr) | fn (k : Nat) | cat (a dx : Addr) (ns : List Str) (xs : List PV) | exc (n : Str) (ns : List Str) (xs : List PV)

/-- what stands in the store: a list, a dict (keys ints and texts; tuples of such), an instance of a class of clsTab (its number, its fields) -/
inductive Bx where
  | l (xs : List PV) | d (kvs : List (Key × PV)) | e (kvs : List (List Key × PV)) | i (c : Nat) (xs : List (Option PV))
abbrev Sto := List Bx
def lsO : Option Bx → Option (List PV)
  | some (.l xs) => some xs
  | _ => none
theorem lsO_ok : ∀ {b : Option Bx} {xs : List PV}, lsO b = some xs → b = some (.l xs)
  | some (.l _), _, h => by cases h; rfl
  | some (.d _), _, h => by cases h
  | some (.e _), _, h => by cases h
  | some (.i _ _), _, h => by cases h
  | none, _, h => by cases h
/-- the defs that hold a generator expression; their code objects' tables may grow -/
def gdefs : List Str := ["is_tuple_of", "goes_up", "_path", "is_answer", "edges"]
def GenTab (K : PySem.W.Frag) (P : Addr) : Prop := ∃ n ∈ gdefs, ∃ c, PySem.W.tabIn K n = some (c, P)
abbrev Env := List (Option PV)

structure Exn where
  cls : Str
  flds : List (Str × PV)

inductive R (α : Type) where
  | ok (a : α) (s : Sto)
  | ex (e : Exn) (s : Sto)
  | bad

def R.bind {α β : Type} : R α → (α → Sto → R β) → R β
  | .ok a s, f => f a s
  | .ex e s, _ => .ex e s
  | .bad, _ => .bad

/-! the text's classes and the names of their fields -/
def slTable : List Str := ["many", "below", "rows", "basic", "loose", "aside", "goal", "guide", "patience"]
def slRough : List Str := ["many", "below", "rows", "basic", "loose", "aside", "goal", "guide", "patience", "figures", "dust", "left"]
def slWeighing : List Str := ["names", "rows", "scales", "goal", "told"]
def slOutcome : List Str := ["places", "table", "stuck", "is_topped"]
def slPledge : List Str := ["keeps", "grace", "wanted", "granted", "place", "newest", "call", "till", "called", "was_released", "has_fallen", "last_fall"]
def slLogReader : List Str := ["world", "log", "last_place", "pledges", "asked", "released"]
def clsT0 : List (Str × List Str) := [("Table", slTable), ("Rough", slRough), ("Weighing", slWeighing), ("Outcome", slOutcome), ("Pledge", slPledge), ("LogReader", slLogReader)]
def slOutlook : List Str := ["world", "view", "web", "end", "reader", "had", "slack"]
def slStrangers : List Str := ["outlook", "log", "moments", "client", "heard"]
def slStand : List Str := ["count", "asking", "present", "is_told", "is_over", "newest", "sendings", "starts", "unsealed", "unanswered", "owed"]
def slLibrary : List Str := ["_plan", "_client", "_reading", "_serial", "_stands", "_let"]
def slKeeper : List Str := ["_plan", "_keeper", "_reading", "_kept", "_unheard"]
def slStore : List Str := ["_plan", "_lock", "_place", "_integer", "_seen", "_top", "_asks", "_keeps"]
def clsT1 : List (Str × List Str) := [("Outlook", slOutlook), ("Strangers", slStrangers), ("Stand", slStand), ("Library", slLibrary), ("Keeper", slKeeper), ("Store", slStore)]
def slMachine : List Str := ["_plan", "_events", "_letters", "_entries", "_houses", "_newest", "_taken", "_newer"]
def slCourse : List Str := ["machine", "_plan", "_acts", "_begin"]
def slMeeting : List Str := ["_plan", "lot", "other", "place", "common", "least", "round", "course"]
def slLateGrant : List Str := ["_plan", "lot", "other", "place", "common", "least", "round", "course"]
def slForgotten : List Str := ["_plan", "lot", "other", "place", "common", "least", "round", "course"]
def slRevived : List Str := ["_plan", "lot", "other", "place", "common", "least", "round", "course"]
def clsT2 : List (Str × List Str) := [("Machine", slMachine), ("Course", slCourse), ("Meeting", slMeeting), ("LateGrant", slLateGrant), ("Forgotten", slForgotten), ("Revived", slRevived)]
def slEnded : List Str := ["_plan", "lot", "other", "place", "common", "least", "round", "course", "sent", "late", "ends", "asked", "grants", "believed", "sealing", "wanted", "taken", "told", "passed"]
def slRegion : List Str := ["unknowns", "pairs", "lines", "weighing"]
def slSearch : List Str := ["unknowns", "start", "nodes", "forms"]
def slTree : List Str := ["unknowns", "view", "forms"]
def slMixing : List Str := ["old", "new", "stages", "fast", "ask_leg", "grant_leg"]
def slOvertaking : List Str := ["mixing", "waits", "keepers", "course", "ends", "moments", "a", "b", "ask_leg", "grant_leg"]
def clsT3 : List (Str × List Str) := [("Ended", slEnded), ("Region", slRegion), ("Search", slSearch), ("Tree", slTree), ("Mixing", slMixing), ("Overtaking", slOvertaking)]
def slKindRun : List Str := ["_kinds", "_heard", "_refused", "_holds", "_stores", "_borne", "_outcomes", "_answers", "_earlier", "_listened", "_known", "_rows", "_table", "_grants", "_carry"]
def slListener : List Str := ["client", "asking", "standing", "newest", "serial", "deeds", "answered"]
def slPlainLock : List Str := ["holders", "granted", "promised", "listeners", "integers", "done"]
def slNodes : List Str := ["named", "places", "later", "heard", "answers", "grants", "under"]
def slStaging : List Str := ["terms", "lot", "least", "course", "now", "newest"]
def slLinesClaim : List Str := ["parts"]
def clsT4 : List (Str × List Str) := [("KindRun", slKindRun), ("Listener", slListener), ("PlainLock", slPlainLock), ("Nodes", slNodes), ("Staging", slStaging), ("LinesClaim", slLinesClaim)]
def slSheetClaim : List Str := ["parts"]
def slWithinClaim : List Str := ["parts"]
def slRunClaim : List Str := ["parts"]
def slPlainClaim : List Str := ["parts"]
def slRightClaim : List Str := ["parts"]
def slRosterClaim : List Str := ["parts"]
def clsT5 : List (Str × List Str) := [("SheetClaim", slSheetClaim), ("WithinClaim", slWithinClaim), ("RunClaim", slRunClaim), ("PlainClaim", slPlainClaim), ("RightClaim", slRightClaim), ("RosterClaim", slRosterClaim)]
def slKindsClaim : List Str := ["parts"]
def slSmoothClaim : List Str := ["parts"]
def slClaim : List Str := ["parts"]
def slDoing : List Str := ["left", "waits", "hearing"]
def slStandings : List Str := ["parts", "stores", "locks", "after", "lapse", "came", "rows"]
def slPlanReader : List Str := ["lots", "kept", "clocks", "legs", "parts", "stores", "faults"]
def clsT6 : List (Str × List Str) := [("KindsClaim", slKindsClaim), ("SmoothClaim", slSmoothClaim), ("Claim", slClaim), ("Doing", slDoing), ("Standings", slStandings), ("PlanReader", slPlanReader)]
def slWorldReader : List Str := ["clocks", "legs", "kept", "flight", "lots"]
def slEventsReader : List Str := ["terms", "found"]
def slEntriesReader : List Str := ["many", "reader"]
def slDesk : List Str := ["_past", "_future"]
def slDiary : List Str := ["lock", "machine", "log", "moments", "beliefs", "stands_for"]
def slUnsure : List Str := ["_plan", "lot", "keeper", "ask_least", "grant_least", "kept", "falls"]
def clsT7 : List (Str × List Str) := [("WorldReader", slWorldReader), ("EventsReader", slEventsReader), ("EntriesReader", slEntriesReader), ("Desk", slDesk), ("Diary", slDiary), ("Unsure", slUnsure)]
def clsTab : List (Str × List Str) := clsT0 ++ (clsT1 ++ (clsT2 ++ (clsT3 ++ (clsT4 ++ (clsT5 ++ (clsT6 ++ (clsT7)))))))
theorem clsTab_ok : ∀ (c : Nat) (nm : Str) (sl : List Str), clsTab[c]? = some (nm, sl) → sl.Nodup ∧ sl.length ≤ 100 := by
  intro c nm sl h
  have : ∀ p ∈ clsTab, p.2.Nodup ∧ p.2.length ≤ 100 := by decide +kernel
  exact this _ (List.mem_of_getElem? h)
/-- the defs that are handed to others -/
def hofs1 : List Str := ["is_fraction", "is_from_zero", "is_truth", "is_count", "_is_line", "_is_term", "_is_fault", "_is_keeper", "_is_store", "is_clock", "is_leg", "_is_lot", "_is_stand", "_is_step", "_is_list_step", "is_step", "_law_judged_right", "_law_changed_right", "_law_soft_right", "_law_kept_right", "_law_refused_right", "_law_keeper_right", "_law_events_right", "_law_pair_right", "_law_hows_right", "_law_sheets_right", "_law_looks_right", "is_kept", "is_kept_pair", "is_sure_leg"]
def hofs2 : List Str := ["let_go", "fallen", "overlap", "way_ends", "sheet", "shut_sum", "widest", "open_run", "sent", "telling", "kind_rows", "kind_list", "kind_loop", "is_so", "is_paper_for", "is_paper_against", "paper", "read_fraction", "read_told", "read_truth", "_is_stage", "is_claim", "_is_item", "schedule"]
def hofs : List Str := hofs1 ++ hofs2
/-- the lists that may change, by their places; and what is reserved -/
structure Rh where
  bx : List Addr
  rs : List Addr
  cg : Addr
/-- a list that nobody changes; one that is only read; a tuple -/
def FzL (H : Hp) (ρ : Rh) (a : Addr) (ys : List V) : Prop := H a = some (.lst ys) ∧ a ∉ ρ.bx ∧ a ∉ ρ.rs
def FzF (K : PySem.W.Frag) (H : Hp) (ρ : Rh) (a : Addr) (ys : List V) : Prop := (Rd H a (.lst ys) ∧ a ∉ ρ.bx ∧ a ∉ ρ.rs) ∨ SqL K (fun _ => none) a ys
def FzT (K : PySem.W.Frag) (H : Hp) (ρ : Rh) (a : Addr) (ys : List V) : Prop := (H a = some (.tup ys) ∧ a ∉ ρ.bx ∧ a ∉ ρ.rs) ∨ SqT K (fun _ => none) a ys

/-- the dict of a caught exception -/
def FzD (H : Hp) (ρ : Rh) (dx : Addr) (fs : List (Str × V)) : Prop := H dx = some (.xd fs) ∧ dx ∉ ρ.bx ∧ dx ∉ ρ.rs

/-- an exception in hand: its class, the names of its fields -/
def FzX (K : PySem.W.Frag) (H : Hp) (ρ : Rh) (a : Addr) (n : Str) (ns : List Str) (ys : List V) : Prop := a ∉ ρ.bx ∧ a ∉ ρ.rs ∧ ∃ C, PySem.W.nsIn K mainGlobals n = some (some (.ref C)) ∧ ((ns = [] ∧ H a = some (exo a C none)) ∨ ∃ dx, dx ∉ ρ.bx ∧ dx ∉ ρ.rs ∧ H a = some (exo a C (some dx)) ∧ H dx = some (exd dx (ns.zip ys)))

mutual
def RV (K : PySem.W.Frag) (H : Hp) (ρ : Rh) : PV → V → Prop
  | .non, v => v = .non
  | .bl b, v => v = .bl b
  | .int i, v => v = .int i
  | .str x, v => v = .str x
  | .ty n, v => v = .ty n
  | .obj a, v => v = .ref a
  | .fn k, v => ∃ x f, hofs[k]? = some x ∧ PySem.W.nsIn K mainGlobals x = some (some (.ref f)) ∧ v = .ref f
  | .cat a dx ns xs, v => ∃ ys, v = .ref a ∧ FzD H ρ dx (ns.zip ys) ∧ RVs K H ρ xs ys
  | .box n, v => ∃ a, v = .ref a ∧ ρ.bx[n]? = some a
  | .tup xs, v => ∃ a ys, v = .ref a ∧ FzT K H ρ a ys ∧ RVs K H ρ xs ys
  | .lst xs, v => ∃ a ys, v = .ref a ∧ FzL H ρ a ys ∧ RVs K H ρ xs ys
  | .fro xs, v => ∃ a ys, v = .ref a ∧ FzF K H ρ a ys ∧ RVs K H ρ xs ys
  | .exc n ns xs, v => ∃ a ys, v = .ref a ∧ FzX K H ρ a n ns ys ∧ RVs K H ρ xs ys
def RVs (K : PySem.W.Frag) (H : Hp) (ρ : Rh) : List PV → List V → Prop
  | [], vs => vs = []
  | x :: xs, vs => ∃ v ws, vs = v :: ws ∧ RV K H ρ x v ∧ RVs K H ρ xs ws
end

/-- of one kind -/
def alike : HO → HO → Prop
  | .lst _, o => ∃ ys, o = .lst ys
  | .dK _, o => ∃ ys, o = .dK ys
  | .dT _, o => ∃ ys, o = .dT ys
  | .ins C dx _, o => ∃ fs, o = .ins C dx fs
  | u, o => o = u
theorem alike_refl : ∀ o, alike o o
  | .lst _ => ⟨_, rfl⟩
  | .dK _ => ⟨_, rfl⟩
  | .dT _ => ⟨_, rfl⟩
  | .ins _ _ _ => ⟨_, rfl⟩
  | .tup _ => rfl
  | .set _ _ => rfl
  | .own _ => rfl
  | .xd _ => rfl
  | .met _ _ => rfl
  | .rng _ _ => rfl
  | .frz _ _ => rfl
  | .tbl _ => rfl
  | .ext _ => rfl
theorem alike_trans : ∀ {o u v}, alike o u → alike u v → alike o v
  | .lst _, _, _, ⟨_, rfl⟩, h => h
  | .dK _, _, _, ⟨_, rfl⟩, h => h
  | .dT _, _, _, ⟨_, rfl⟩, h => h
  | .ins _ _ _, _, _, ⟨_, rfl⟩, h => h
  | .tup _, _, _, rfl, h => h
  | .set _ _, _, _, rfl, h => h
  | .own _, _, _, rfl, h => h
  | .xd _, _, _, rfl, h => h
  | .met _ _, _, _, rfl, h => h
  | .rng _ _, _, _, rfl, h => h
  | .frz _ _, _, _, rfl, h => h
  | .tbl _, _, _, rfl, h => h
  | .ext _, _, _, rfl, h => h
/-- what a value's relation leans on is kept -/
structure ExtW (ρ : Rh) (H : Hp) (ρ' : Rh) (H' : Hp) : Prop where
  pre : ∃ r, ρ'.bx = ρ.bx ++ r ∧ ∀ a ∈ r, H a = none
  rs : ((∀ a ∈ ρ.rs, a ∈ ρ'.rs) ∧ ∀ a ∈ ρ'.rs, a ∈ ρ.rs ∨ H a = none) ∧ ρ'.cg = ρ.cg
  keep : ∀ a o, H a = some o → a ∉ ρ.bx → a ∉ ρ.rs → H' a = some o
  has : ∀ a, H a ≠ none → H' a ≠ none
  kd : ∀ a o, a ∈ ρ.bx → H a = some o → ∃ o', H' a = some o' ∧ alike o o'
structure Ext (ρ : Rh) (H : Hp) (ρ' : Rh) (H' : Hp) : Prop extends ExtW ρ H ρ' H' where
  rse : ρ'.rs = ρ.rs
  res : ∀ a, a ∈ ρ.rs → a ∉ ρ.bx → H' a = H a

section
variable {K : PySem.W.Frag} {H H1 H2 : Hp} {ρ ρ1 ρ2 : Rh} {a : Addr} {xs ys : List V}
theorem rs_refl {ρ : Rh} {H : Hp} : ((∀ a ∈ ρ.rs, a ∈ ρ.rs) ∧ ∀ a ∈ ρ.rs, a ∈ ρ.rs ∨ H a = none) ∧ ρ.cg = ρ.cg := ⟨⟨fun _ h => h, fun _ h => .inl h⟩, rfl⟩
theorem kd_refl : ∀ a o, a ∈ ρ.bx → H a = some o → ∃ o', H a = some o' ∧ alike o o' := fun _ o _ h => ⟨o, h, alike_refl o⟩
theorem Ext.refl : Ext ρ H ρ H := ⟨⟨⟨[], by simp, by simp⟩, rs_refl, fun _ _ h _ _ => h, fun _ h => h, kd_refl⟩, rfl, fun _ _ _ => rfl⟩
theorem ExtW.notin (e : ExtW ρ H ρ1 H1) (h : H a ≠ none) (n : a ∉ ρ.bx) : a ∉ ρ1.bx := by
  obtain ⟨r, hr, hn⟩ := e.pre
  intro hm
  rw [hr] at hm
  rcases List.mem_append.mp hm with h1 | h1
  · exact n h1
  · exact h (hn a h1)
theorem ExtW.nores (e : ExtW ρ H ρ1 H1) (h : H a ≠ none) (n : a ∉ ρ.rs) : a ∉ ρ1.rs := fun z => (e.rs.1.2 a z).elim n h
theorem sm {o : HO} (h : H a = some o) : H a ≠ none := by rw [h]; exact fun z => by cases z
theorem ExtW.trans (e : ExtW ρ H ρ1 H1) (f : ExtW ρ1 H1 ρ2 H2) : ExtW ρ H ρ2 H2 := by
  refine ⟨?_, ⟨⟨fun a h => f.rs.1.1 a (e.rs.1.1 a h), fun a h => ?_⟩, f.rs.2.trans e.rs.2⟩, fun a o h n m => f.keep a o (e.keep a o h n m) (e.notin (sm h) n) (e.nores (sm h) m), fun a h => f.has a (e.has a h), fun a o hb h => ?_⟩
  rotate_left
  rotate_left
  · obtain ⟨o1, h1, k1⟩ := e.kd a o hb h
    obtain ⟨r, hr, _⟩ := e.pre
    obtain ⟨o2, h2, k2⟩ := f.kd a o1 (by rw [hr]; exact List.mem_append_left _ hb) h1
    exact ⟨o2, h2, alike_trans k1 k2⟩
  rotate_left
  · rcases f.rs.1.2 a h with z | z
    · exact e.rs.1.2 a z
    · cases q : H a with
      | none => exact .inr rfl
      | some o => exact absurd z (e.has a (sm q))
  obtain ⟨r, hr, hn⟩ := e.pre
  obtain ⟨r2, hr2, hn2⟩ := f.pre
  refine ⟨r ++ r2, by rw [hr2, hr, List.append_assoc], fun a h => ?_⟩
  rcases List.mem_append.mp h with h1 | h1
  · exact hn a h1
  · have := hn2 a h1
    cases q : H a with
    | none => rfl
    | some o => exact absurd this (e.has a (sm q))
theorem Ext.trans (e : Ext ρ H ρ1 H1) (f : Ext ρ1 H1 ρ2 H2) (hh : ∀ a ∈ ρ.rs, H a ≠ none) : Ext ρ H ρ2 H2 :=
  ⟨e.toExtW.trans f.toExtW, f.rse.trans e.rse, fun a h n => (f.res a (by rw [e.rse]; exact h) (e.toExtW.notin (hh a h) n)).trans (e.res a h n)⟩
theorem FzL.mono (e : ExtW ρ H ρ1 H1) (h : FzL H ρ a xs) : FzL H1 ρ1 a xs := ⟨e.keep _ _ h.1 h.2.1 h.2.2, e.notin (sm h.1) h.2.1, e.nores (sm h.1) h.2.2⟩
theorem Rd.some' {u : HO} (h : Rd H a u) : H a ≠ none := by rcases h with h | ⟨_, h⟩ <;> exact sm h
theorem Rd.keep' (e : ExtW ρ H ρ1 H1) {u : HO} (h : Rd H a u) (n : a ∉ ρ.bx) (m : a ∉ ρ.rs) : Rd H1 a u := by
  rcases h with h | ⟨o, h⟩
  · exact .inl (e.keep _ _ h n m)
  · exact .inr ⟨o, e.keep _ _ h n m⟩
theorem FzF.mono (e : ExtW ρ H ρ1 H1) (h : FzF K H ρ a xs) : FzF K H1 ρ1 a xs := by
  rcases h with ⟨h, n, m⟩ | h
  · exact .inl ⟨Rd.keep' e h n m, e.notin (Rd.some' h) n, e.nores (Rd.some' h) m⟩
  · exact .inr h
theorem FzT.mono (e : ExtW ρ H ρ1 H1) (h : FzT K H ρ a xs) : FzT K H1 ρ1 a xs := by
  rcases h with ⟨h, n, m⟩ | h
  · exact .inl ⟨e.keep _ _ h n m, e.notin (sm h) n, e.nores (sm h) m⟩
  · exact .inr h
theorem FzX.mono {c : Str} {ns : List Str} (e : ExtW ρ H ρ1 H1) (h : FzX K H ρ a c ns xs) : FzX K H1 ρ1 a c ns xs := by
  obtain ⟨n, m, C, hc, h⟩ := h
  rcases h with ⟨q, h⟩ | ⟨dx, dn, dm, h, hd⟩
  · exact ⟨e.notin (sm h) n, e.nores (sm h) m, C, hc, .inl ⟨q, e.keep _ _ h n m⟩⟩
  · exact ⟨e.notin (sm h) n, e.nores (sm h) m, C, hc, .inr ⟨dx, e.notin (sm hd) dn, e.nores (sm hd) dm, e.keep _ _ h n m, e.keep _ _ hd dn dm⟩⟩
theorem FzL.sq (h : FzL H ρ a xs) : SqL K H a xs := .of h.1
theorem FzF.sq (h : FzF K H ρ a xs) : SqL K H a xs := by
  rcases h with ⟨h, _⟩ | h
  · exact .inl h
  · rcases h with h | h
    · rcases h with h | ⟨_, h⟩ <;> cases h
    · exact .inr h
theorem FzT.sq (h : FzT K H ρ a xs) : SqT K H a xs := by
  rcases h with ⟨h, _⟩ | h
  · exact .of h
  · rcases h with h | h
    · rcases h with h | ⟨_, h⟩ <;> cases h
    · exact .inr h
end

mutual
theorem RV.mono {K : PySem.W.Frag} {H H1 : Hp} {ρ ρ1 : Rh} (e : ExtW ρ H ρ1 H1) : ∀ {p : PV} {v : V}, RV K H ρ p v → RV K H1 ρ1 p v
  | .non, _, h => h
  | .bl _, _, h => h
  | .int _, _, h => h
  | .str _, _, h => h
  | .ty _, _, h => h
  | .obj _, _, h => h
  | .fn _, _, h => h
  | .cat a dx ns xs, _, h => by
    obtain ⟨ys, h1, ⟨k1, k2, k3⟩, h3⟩ := h
    exact ⟨ys, h1, ⟨e.keep _ _ k1 k2 k3, e.notin (sm k1) k2, e.nores (sm k1) k3⟩, RVs.mono e h3⟩
  | .box n, _, h => by
    obtain ⟨a, h1, h2⟩ := h
    obtain ⟨r, hr, _⟩ := e.pre
    refine ⟨a, h1, ?_⟩
    rw [hr, List.getElem?_append_left (List.getElem?_eq_some_iff.mp h2).1]
    exact h2
  | .tup xs, _, h => by
    obtain ⟨a, ys, h1, h2, h3⟩ := h
    exact ⟨a, ys, h1, h2.mono e, RVs.mono e h3⟩
  | .lst xs, _, h => by
    obtain ⟨a, ys, h1, h2, h3⟩ := h
    exact ⟨a, ys, h1, h2.mono e, RVs.mono e h3⟩
  | .fro xs, _, h => by
    obtain ⟨a, ys, h1, h2, h3⟩ := h
    exact ⟨a, ys, h1, h2.mono e, RVs.mono e h3⟩
  | .exc C ns xs, _, h => by
    obtain ⟨a, ys, h1, h2, h3⟩ := h
    exact ⟨a, ys, h1, h2.mono e, RVs.mono e h3⟩
theorem RVs.mono {K : PySem.W.Frag} {H H1 : Hp} {ρ ρ1 : Rh} (e : ExtW ρ H ρ1 H1) : ∀ {p : List PV} {v : List V}, RVs K H ρ p v → RVs K H1 ρ1 p v
  | [], _, h => h
  | x :: xs, _, h => by
    obtain ⟨v, ws, h1, h2, h3⟩ := h
    exact ⟨v, ws, h1, RV.mono e h2, RVs.mono e h3⟩
end
/-! fewer reservations -/
mutual
theorem RV.unres {K : PySem.W.Frag} {H : Hp} {b r r' : List Addr} {g : Addr} (e : ∀ a, a ∈ r' → a ∈ r) : ∀ {p : PV} {v : V}, RV K H ⟨b, r, g⟩ p v → RV K H ⟨b, r', g⟩ p v
  | .non, _, h => h
  | .bl _, _, h => h
  | .int _, _, h => h
  | .str _, _, h => h
  | .ty _, _, h => h
  | .obj _, _, h => h
  | .fn _, _, h => h
  | .cat a dx ns xs, _, h => by
    obtain ⟨ys, h1, ⟨k1, k2, k3⟩, h3⟩ := h
    exact ⟨ys, h1, ⟨k1, k2, fun z => k3 (e _ z)⟩, RVs.unres e h3⟩
  | .box n, _, h => h
  | .tup xs, _, h => by
    obtain ⟨a, ys, h1, h2, h3⟩ := h
    exact ⟨a, ys, h1, h2.imp (fun q => ⟨q.1, q.2.1, fun z => q.2.2 (e _ z)⟩) id, RVs.unres e h3⟩
  | .lst xs, _, h => by
    obtain ⟨a, ys, h1, h2, h3⟩ := h
    exact ⟨a, ys, h1, ⟨h2.1, h2.2.1, fun z => h2.2.2 (e _ z)⟩, RVs.unres e h3⟩
  | .fro xs, _, h => by
    obtain ⟨a, ys, h1, h2, h3⟩ := h
    exact ⟨a, ys, h1, h2.imp (fun q => ⟨q.1, q.2.1, fun z => q.2.2 (e _ z)⟩) id, RVs.unres e h3⟩
  | .exc C ns xs, _, h => by
    obtain ⟨a, ys, h1, h2, h3⟩ := h
    obtain ⟨q1, q2, C, hc, q3⟩ := h2
    refine ⟨a, ys, h1, ⟨q1, fun z => q2 (e _ z), C, hc, ?_⟩, RVs.unres e h3⟩
    rcases q3 with h | ⟨dx, dn, dm, h⟩
    · exact .inl h
    · exact .inr ⟨dx, dn, fun z => dm (e _ z), h⟩
theorem RVs.unres {K : PySem.W.Frag} {H : Hp} {b r r' : List Addr} {g : Addr} (e : ∀ a, a ∈ r' → a ∈ r) : ∀ {p : List PV} {v : List V}, RVs K H ⟨b, r, g⟩ p v → RVs K H ⟨b, r', g⟩ p v
  | [], _, h => h
  | x :: xs, _, h => by
    obtain ⟨v, ws, h1, h2, h3⟩ := h
    exact ⟨v, ws, h1, RV.unres e h2, RVs.unres e h3⟩
end
section
variable {K : PySem.W.Frag} {H H1 H2 : Hp} {ρ ρ1 ρ2 : Rh}
theorem RVs.length : ∀ {p : List PV} {v : List V}, RVs K H ρ p v → p.length = v.length
  | [], _, h => by cases h; rfl
  | x :: xs, _, h => by
    obtain ⟨v, ws, rfl, _, h3⟩ := h
    simp [RVs.length h3]
theorem RVs.nil : RVs K H ρ [] [] := rfl
theorem RVs.cons {p : PV} {ps : List PV} {v : V} {vs : List V} (h : RV K H ρ p v) (t : RVs K H ρ ps vs) : RVs K H ρ (p :: ps) (v :: vs) := ⟨v, vs, rfl, h, t⟩
theorem RVs.append : ∀ {p q : List PV} {v w : List V}, RVs K H ρ p v → RVs K H ρ q w → RVs K H ρ (p ++ q) (v ++ w)
  | [], _, _, _, h, t => by cases h; exact t
  | x :: xs, _, _, _, h, t => by
    obtain ⟨v, ws, rfl, h2, h3⟩ := h
    exact ⟨v, ws ++ _, rfl, h2, RVs.append h3 t⟩
theorem RVs.get : ∀ {p : List PV} {v : List V} {i : Nat} {x : PV}, RVs K H ρ p v → p[i]? = some x → ∃ y, v[i]? = some y ∧ RV K H ρ x y
  | [], _, _, _, _, e => by simp at e
  | q :: qs, _, 0, _, h, e => by
    obtain ⟨v, ws, rfl, h2, h3⟩ := h
    simp at e; subst e
    exact ⟨v, rfl, h2⟩
  | q :: qs, _, i + 1, _, h, e => by
    obtain ⟨v, ws, rfl, h2, h3⟩ := h
    obtain ⟨y, e1, e2⟩ := RVs.get (i := i) h3 (by simpa using e)
    exact ⟨y, by simpa using e1, e2⟩
theorem RVs.get' : ∀ {p : List PV} {v : List V} {i : Nat} {y : V}, RVs K H ρ p v → v[i]? = some y → ∃ x, p[i]? = some x ∧ RV K H ρ x y
  | [], _, _, _, h, e => by cases h; simp at e
  | q :: qs, _, 0, _, h, e => by
    obtain ⟨v, ws, rfl, h2, h3⟩ := h
    simp at e; subst e
    exact ⟨q, rfl, h2⟩
  | q :: qs, _, i + 1, _, h, e => by
    obtain ⟨v, ws, rfl, h2, h3⟩ := h
    obtain ⟨y, e1, e2⟩ := RVs.get' (i := i) h3 (by simpa using e)
    exact ⟨y, by simpa using e1, e2⟩
theorem RVs.set {x : PV} {y : V} (r : RV K H ρ x y) : ∀ {p : List PV} {v : List V} (i : Nat), RVs K H ρ p v → RVs K H ρ (p.set i x) (v.set i y)
  | [], _, _, h => by cases h; exact rfl
  | q :: qs, _, 0, h => by
    obtain ⟨v, ws, rfl, h2, h3⟩ := h
    exact ⟨y, ws, rfl, r, h3⟩
  | q :: qs, _, i + 1, h => by
    obtain ⟨v, ws, rfl, h2, h3⟩ := h
    exact ⟨v, ws.set i y, rfl, h2, RVs.set r i h3⟩
theorem RVs.drop : ∀ {p : List PV} {v : List V} (n : Nat), RVs K H ρ p v → RVs K H ρ (p.drop n) (v.drop n)
  | _, _, 0, h => h
  | [], _, n + 1, h => by cases h; exact rfl
  | q :: qs, _, n + 1, h => by
    obtain ⟨v, ws, rfl, h2, h3⟩ := h
    exact RVs.drop n h3
theorem RVs.take : ∀ {p : List PV} {v : List V} (n : Nat), RVs K H ρ p v → RVs K H ρ (p.take n) (v.take n)
  | _, _, 0, h => rfl
  | [], _, n + 1, h => by cases h; exact rfl
  | q :: qs, _, n + 1, h => by
    obtain ⟨v, ws, rfl, h2, h3⟩ := h
    exact ⟨v, ws.take n, rfl, h2, RVs.take n h3⟩

/-- a field, set or not -/
def RO (K : PySem.W.Frag) (H : Hp) (ρ : Rh) : Option PV → Option V → Prop
  | none, none => True
  | some p, some v => RVs K H ρ [p] [v]
  | _, _ => False
theorem RO.imp (hv : ∀ {xs : List PV} {ys : List V}, RVs K H ρ xs ys → RVs K H1 ρ1 xs ys) : ∀ {o : Option PV} {v : Option V}, RO K H ρ o v → RO K H1 ρ1 o v
  | none, none, h => h
  | some _, some _, h => hv h
  | none, some _, h => h
  | some _, none, h => h
/-- the fields by their names -/
def slotOf : List Str → List (Option PV) → Str → Option PV
  | g :: gs, x :: xs, f => if g = f then x else slotOf gs xs f
  | _, _, _ => none
def cntS : List (Option PV) → Nat
  | [] => 0
  | some _ :: r => cntS r + 1
  | none :: r => cntS r
/-- what stands at a is this box -/
def RB (K : PySem.W.Frag) (H : Hp) (ρ : Rh) (a : Addr) : Bx → Prop
  | .l xs => ∃ ys, H a = some (.lst ys) ∧ RVs K H ρ xs ys
  | .d kvs => ∃ yvs, H a = some (.dK yvs) ∧ kvs.map (·.1) = yvs.map (·.1) ∧ RVs K H ρ (kvs.map (·.2)) (yvs.map (·.2))
  | .e kvs => ∃ yvs, H a = some (.dT yvs) ∧ kvs.map (·.1) = yvs.map (·.1) ∧ RVs K H ρ (kvs.map (·.2)) (yvs.map (·.2))
  | .i c xs => ∃ nm sl C dx fs, H a = some (.ins C dx fs) ∧ (clsTab[c]? = some (nm, sl) ∧ PySem.W.nsIn K mainGlobals nm = some (some (.ref C)) ∧ fs.length ≤ cntS xs ∧ xs.length = sl.length) ∧ ∀ f, RO K H ρ (slotOf sl xs f) (fs.lookup f)
theorem RB.imp {a : Addr} (hv : ∀ {xs : List PV} {ys : List V}, RVs K H ρ xs ys → RVs K H1 ρ1 xs ys) (ha : ∀ o, H a = some o → H1 a = some o) : ∀ {b : Bx}, RB K H ρ a b → RB K H1 ρ1 a b
  | .l _, ⟨ys, h1, h2⟩ => ⟨ys, ha _ h1, hv h2⟩
  | .d _, ⟨ys, h1, h2, h3⟩ => ⟨ys, ha _ h1, h2, hv h3⟩
  | .e _, ⟨ys, h1, h2, h3⟩ => ⟨ys, ha _ h1, h2, hv h3⟩
  | .i _ _, ⟨nm, sl, C, dx, fs, h1, h2, h3⟩ => ⟨nm, sl, C, dx, fs, ha _ h1, h2, fun f => (h3 f).imp hv⟩
theorem RB.some {a : Addr} : ∀ {b : Bx}, RB K H ρ a b → ∃ o, H a = some o ∧ Mut (some o)
  | .l _, ⟨ys, h1, _⟩ => ⟨_, h1, trivial⟩
  | .d _, ⟨ys, h1, _⟩ => ⟨_, h1, trivial⟩
  | .e _, ⟨ys, h1, _⟩ => ⟨_, h1, trivial⟩
  | .i _ _, ⟨_, _, _, _, fs, h1, _⟩ => ⟨_, h1, trivial⟩
/-- the store: what may change, at unlike addresses; the tables of code objects -/
structure RSt (K : PySem.W.Frag) (H : Hp) (ρ : Rh) (sto : Sto) : Prop where
  nd : ρ.bx.Nodup
  len : ρ.bx.length = sto.length
  at_ : ∀ (n : Nat) (a : Addr) (b : Bx), ρ.bx[n]? = some a → sto[n]? = some b → RB K H ρ a b
  rsv : ∀ a ∈ ρ.rs, H a ≠ none ∧ a ∉ ρ.bx
  tb : ∀ a, GenTab K a → H a = some (.ext (G0.tabOk a)) ∧ a ∉ ρ.bx ∧ a ∉ ρ.rs
theorem RSt.tbw {sto : Sto} (S : RSt K H ρ sto) (e : ExtW ρ H ρ1 H1) : ∀ a, GenTab K a → H1 a = some (.ext (G0.tabOk a)) ∧ a ∉ ρ1.bx ∧ a ∉ ρ1.rs := fun a h =>
  let ⟨h1, h2, h3⟩ := S.tb a h
  ⟨e.keep a _ h1 h2 h3, e.notin (sm h1) h2, e.nores (sm h1) h3⟩

def REnv (K : PySem.W.Frag) (H : Hp) (ρ : Rh) (env : Env) (σ : L2.St) : Prop :=
  env.length = σ.length ∧ ∀ (i : Nat) (p : PV), env[i]? = some (some p) → ∃ v, σ[i]? = some (some v) ∧ RV K H ρ p v
theorem REnv.mono (e : ExtW ρ H ρ1 H1) {env : Env} {σ : L2.St} (h : REnv K H ρ env σ) : REnv K H1 ρ1 env σ :=
  ⟨h.1, fun i p q => let ⟨v, h1, h2⟩ := h.2 i p q; ⟨v, h1, h2.mono e⟩⟩
theorem REnv.set {env : Env} {σ : L2.St} {p : PV} {v : V} (h : REnv K H ρ env σ) (i : Nat) (r : RV K H ρ p v) : REnv K H ρ (env.set i (some p)) (σ.set i (some v)) := by
  refine ⟨by simp [h.1], fun j q e => ?_⟩
  by_cases hj : i = j
  · subst hj
    by_cases hl : i < env.length
    · rw [List.getElem?_set_self hl] at e
      cases e
      exact ⟨v, by rw [List.getElem?_set_self (h.1 ▸ hl)], r⟩
    · rw [List.getElem?_eq_none_iff.mpr (by simpa using hl)] at e; cases e
  · rw [List.getElem?_set_ne hj] at e
    obtain ⟨w, h1, h2⟩ := h.2 j q e
    exact ⟨w, by rw [List.getElem?_set_ne hj]; exact h1, h2⟩
/-- an exception: its class, its own dict -/
def RX (K : PySem.W.Frag) (H : Hp) (ρ : Rh) (e : Exn) (cls : Value) (d : Option Addr) : Prop :=
  (∃ C, PySem.W.nsIn K mainGlobals e.cls = some (some (.ref C)) ∧ cls = .ref C) ∧ (match d with
    | none => e.flds = []
    | some d => e.flds ≠ [] ∧ ∃ fs, H d = some (.xd fs) ∧ d ∉ ρ.bx ∧ d ∉ ρ.rs ∧ e.flds.map (·.1) = fs.map (·.1) ∧ RVs K H ρ (e.flds.map (·.2)) (fs.map (·.2)))
theorem RX.mono (x : ExtW ρ H ρ1 H1) {e : Exn} {cls : Value} {d : Option Addr} (h : RX K H ρ e cls d) : RX K H1 ρ1 e cls d := by
  refine ⟨h.1, ?_⟩
  cases d with
  | none => exact h.2
  | some d =>
    obtain ⟨h0, fs, h1, h2, h2', h3, h4⟩ := h.2
    exact ⟨h0, fs, x.keep _ _ h1 h2 h2', x.notin (sm h1) h2, x.nores (sm h1) h2', h3, h4.mono x⟩
end

/-- what is wanted behind a meaning -/
def Post {α : Type} (K : PySem.W.Frag) (W : XK) (H : Hp) (ρ : Rh) (G : α → Sto → Hp → Rh → Prop) : R α → Prop
  | .ok v s => ∀ H' ρ', Ext ρ H ρ' H' → RSt K H' ρ' s → G v s H' ρ'
  | .ex e s => ∀ cls d H' ρ', Ext ρ H ρ' H' → RSt K H' ρ' s → RX K H' ρ' e cls d → W cls d H'
  | .bad => False
section
variable {α β : Type} {K : PySem.W.Frag} {W : XK} {H H1 : Hp} {ρ ρ1 : Rh} {G G' : α → Sto → Hp → Rh → Prop} {G2 : β → Sto → Hp → Rh → Prop}
theorem Post.shift (e : Ext ρ H ρ1 H1) (hh : ∀ a ∈ ρ.rs, H a ≠ none) : ∀ {r : R α}, Post K W H ρ G r → Post K W H1 ρ1 G r
  | .ok _ _, h => fun H' ρ' x y => h H' ρ' (e.trans x hh) y
  | .ex _ _, h => fun c d H' ρ' x y => h c d H' ρ' (e.trans x hh) y
  | .bad, h => h
theorem Post.imp (hG : ∀ v s H' ρ', Ext ρ H ρ' H' → RSt K H' ρ' s → G v s H' ρ' → G' v s H' ρ') : ∀ {r : R α}, Post K W H ρ G r → Post K W H ρ G' r
  | .ok _ _, h => fun H' ρ' x y => hG _ _ H' ρ' x y (h H' ρ' x y)
  | .ex _ _, h => h
  | .bad, h => h
theorem Post.bind {f : α → Sto → R β} {sto : Sto} (S : RSt K H ρ sto) : ∀ {r : R α}, Post K W H ρ G2 (r.bind f) → Post K W H ρ (fun v s H' ρ' => Post K W H' ρ' G2 (f v s)) r
  | .ok v s, h => fun H' ρ' x _ => Post.shift x (fun a ha => (S.rsv a ha).1) h
  | .ex _ _, h => h
  | .bad, h => h
end

abbrev M := Env → Sto → R PV
abbrev MA := Env → Sto → R (List PV)
abbrev MT := Env → Sto → R Bool
abbrev WK := WX

def GV (K : PySem.W.Frag) (Q : VK) : PV → Sto → Hp → Rh → Prop := fun v _ H' ρ' => ∀ x, RV K H' ρ' v x → Q x H'
def GA (K : PySem.W.Frag) (Q : List V → Hp → Prop) : List PV → Sto → Hp → Rh → Prop := fun v _ H' ρ' => ∀ x, RVs K H' ρ' v x → Q x H'
def GT (Q : Bool → Hp → Prop) : Bool → Sto → Hp → Rh → Prop := fun b _ H' _ => Q b H'

def SE (K : PySem.W.Frag) (W : WK) (t : TE) (m : M) : Prop := ∀ (σ : L2.St) (H : Hp) (ρ : Rh) (env : Env) (sto : Sto) (Q : VK),
  REnv K H ρ env σ → RSt K H ρ sto → Post K (fun c d h => W c d σ h) H ρ (GV K Q) (m env sto) → t σ H Q
def SA (K : PySem.W.Frag) (W : WK) (t : TA) (m : MA) : Prop := ∀ (σ : L2.St) (H : Hp) (ρ : Rh) (env : Env) (sto : Sto) (Q : List V → Hp → Prop),
  REnv K H ρ env σ → RSt K H ρ sto → Post K (fun c d h => W c d σ h) H ρ (GA K Q) (m env sto) → t σ H Q
def ST (K : PySem.W.Frag) (W : WK) (t : TT) (m : MT) : Prop := ∀ (σ : L2.St) (H : Hp) (ρ : Rh) (env : Env) (sto : Sto) (Q : Bool → Hp → Prop),
  REnv K H ρ env σ → RSt K H ρ sto → Post K (fun c d h => W c d σ h) H ρ (GT Q) (m env sto) → t σ H Q

/-- an expression means m -/
def ME (X : Cx) (W : WK) (e : Expr) (m : M) : Prop := ∃ t, PE X e t ∧ SE X.K W t m
def MEs (X : Cx) (W : WK) (es : List Expr) (m : MA) : Prop := ∃ t, PA X es t ∧ SA X.K W t m
def MTe (X : Cx) (W : WK) (e : Expr) (m : MT) : Prop := ∃ t, PT X e t ∧ ST X.K W t m

/-! ### names, constants, displays -/
/-! set, nth by the recursors themselves -/
def setR {α : Type} (l : List α) (i : Nat) (v : α) : List α := List.rec (motive := fun _ => Nat → List α) (fun _ => []) (fun a t ih i => Nat.rec (motive := fun _ => List α) (v :: t) (fun j _ => a :: ih j) i) l i
theorem setR_eq {α : Type} (v : α) : ∀ (l : List α) (i : Nat), setR l i v = l.set i v
  | [], _ => rfl
  | _ :: _, 0 => rfl
  | a :: t, i + 1 => congrArg (a :: ·) (setR_eq v t i)
def nthR {α : Type} (l : List α) (i : Nat) : Option α := List.rec (motive := fun _ => Nat → Option α) (fun _ => none) (fun a _ ih i => Nat.rec (motive := fun _ => Option α) (some a) (fun j _ => ih j) i) l i
theorem nthR_eq {α : Type} : ∀ (l : List α) (i : Nat), nthR l i = l[i]?
  | [], _ => rfl
  | _ :: _, 0 => rfl
  | _ :: t, i + 1 => (nthR_eq t i).trans (by simp)
def mVar (i : Nat) : M := fun env s => match nthR env i with
  | some (some v) => .ok v s
  | _ => .bad
def mC (v : PV) : M := fun _ s => .ok v s
def mNil : MA := fun _ s => .ok [] s
def mCons (m : M) (ms : MA) : MA := fun env s => (m env s).bind fun v s1 => (ms env s1).bind fun vs s2 => .ok (v :: vs) s2
def isFlat : PV → Bool
  | .non | .bl _ | .int _ | .str _ | .ty _ | .obj _ | .fn _ => true
  | _ => false
section
variable {X : Cx} {W : WK} {e a b c : Expr} {m ma mb mc : M} {pos : Pos}
theorem e_var {i : Nat} {x : Str} (hN : X.N[i]? = some x) (hv : Vis X.env.scope x) (hd : (x == ("__debug__" : Str)) = false := by decide) (hcd : (x == ("__classdict__" : Str)) = false := by decide) : ME X W (.Name x pos) (mVar i) := by
  refine ⟨_, pe_var hN hv hd hcd, fun σ H ρ env sto Q hE hS hP => ?_⟩
  unfold mVar at hP
  rw [nthR_eq] at hP
  cases h : env[i]? with
  | none => rw [h] at hP; exact hP.elim
  | some o =>
    cases o with
    | none => rw [h] at hP; exact hP.elim
    | some p =>
      rw [h] at hP
      obtain ⟨v, h1, h2⟩ := hE.2 i p h
      exact ⟨v, h1, hP H ρ .refl hS v h2⟩
theorem e_int {i : Int} {j} : ME X W (.Constant (.int i) j pos) (mC (.int i)) := ⟨_, pe_int, fun _ H ρ _ _ _ _ hS hP => hP H ρ .refl hS _ rfl⟩
theorem e_bl {i : Bool} {j} : ME X W (.Constant (.bool i) j pos) (mC (.bl i)) := ⟨_, pe_bl, fun _ H ρ _ _ _ _ hS hP => hP H ρ .refl hS _ rfl⟩
theorem e_non {j} : ME X W (.Constant .none j pos) (mC .non) := ⟨_, pe_non, fun _ H ρ _ _ _ _ hS hP => hP H ρ .refl hS _ rfl⟩
theorem e_str {i : Str} {j} : ME X W (.Constant (.str i) j pos) (mC (.str i)) := ⟨_, pe_str, fun _ H ρ _ _ _ _ hS hP => hP H ρ .refl hS _ rfl⟩
/-- a class or def of the module's own, as a value -/
theorem e_obj {x : Str} {f : Addr} (hg : Gl X x) (hm : X.mg x = some (.ref f)) (hd : (x == ("__debug__" : Str)) = false := by decide) : ME X W (.Name x pos) (mC (.obj f)) :=
  ⟨_, pe_glob (v := .ref f) hg hm rfl hd, fun _ H ρ _ _ _ _ hS hP => hP H ρ .refl hS _ rfl⟩
theorem a_nil : MEs X W [] mNil := ⟨_, pa_nil, fun _ H ρ _ _ _ _ hS hP => hP H ρ .refl hS _ rfl⟩
theorem a_cons {es : List Expr} {ms : MA} (h1 : ME X W e m) (h2 : MEs X W es ms) (hs : starEach (e :: es) X.env = (false, eval e X.env) :: starEach es X.env := by rfl) : MEs X W (e :: es) (mCons m ms) := by
  obtain ⟨t, p, s⟩ := h1
  obtain ⟨u, q, r⟩ := h2
  refine ⟨_, pa_cons p q hs, fun σ H ρ env sto Q hE hS hP => ?_⟩
  refine s σ H ρ env sto _ hE hS ((hP.bind hS).imp fun v s1 H1 ρ1 x1 S1 P1 y hy => ?_)
  refine r σ H1 ρ1 env s1 _ (hE.mono x1.toExtW) S1 ((P1.bind S1).imp fun vs s2 H2 ρ2 x2 S2 P2 ys hys => ?_)
  exact P2 H2 ρ2 .refl S2 _ (.cons (hy.mono x2.toExtW) hys)
def mTup (ms : MA) : M := fun env s => (ms env s).bind fun vs s1 => bif Nat.ble vs.length sizeLine then .ok (.tup vs) s1 else .bad
def mLst (ms : MA) : M := fun env s => (ms env s).bind fun vs s1 => bif Nat.ble vs.length sizeLine then .ok (.lst vs) s1 else .bad
def mBox (ms : MA) : M := fun env s => (ms env s).bind fun vs s1 => bif Nat.ble vs.length sizeLine then .ok (.box s1.length) (s1 ++ [.l vs]) else .bad
section
variable {K : PySem.W.Frag} {H H1 : Hp} {ρ ρ1 : Rh} {sto : Sto} {p : Addr} {o : HO}
theorem RSt.fresh (h : RSt K H ρ sto) (hp : H p = none) : p ∉ ρ.bx := fun hm => by
  obtain ⟨n, hn, e⟩ := List.getElem_of_mem hm
  have hl : n < sto.length := h.len ▸ hn
  obtain ⟨o, h1, _⟩ := (h.at_ n p sto[n] (by rw [List.getElem?_eq_getElem hn, e]) (List.getElem?_eq_getElem hl)).some
  rw [hp] at h1; cases h1
theorem RSt.freshR (h : RSt K H ρ sto) (hp : H p = none) : p ∉ ρ.rs := fun hm => (h.rsv p hm).1 hp
theorem RSt.hh (h : RSt K H ρ sto) : ∀ a ∈ ρ.rs, H a ≠ none := fun a ha => (h.rsv a ha).1
theorem has_upd (a : Addr) (h : H a ≠ none) : (upd H p o) a ≠ none := by
  by_cases q : a = p
  · subst q; rw [upd_same]; exact fun z => by cases z
  · rw [upd_ne q]; exact h
theorem kd_new (hp : H p = none) : ∀ a u, a ∈ ρ.bx → H a = some u → ∃ o', (upd H p o) a = some o' ∧ alike u o' := fun a u _ h => ⟨u, by rw [upd_ne (ne_of_none h hp)]; exact h, alike_refl u⟩
theorem Ext.new (hp : H p = none) (hr : ∀ a ∈ ρ.rs, H a ≠ none) : Ext ρ H ρ (upd H p o) :=
  ⟨⟨⟨[], by simp, by simp⟩, rs_refl, fun a u h _ _ => by rw [upd_ne (ne_of_none h hp)]; exact h, fun a h => has_upd a h, kd_new hp⟩, rfl, fun a ha _ => upd_ne fun q => hr a ha (q ▸ hp)⟩
theorem RSt.mono' (h : RSt K H ρ sto) (x : Ext ρ H ρ H1) (k : ∀ a ∈ ρ.bx, H1 a = H a) : RSt K H1 ρ sto :=
  ⟨h.nd, h.len, fun n a b e1 e2 => (h.at_ n a b e1 e2).imp (fun r => r.mono x.toExtW) fun o q => by rw [k a (List.mem_of_getElem? e1)]; exact q, fun a ha => ⟨x.has a (h.rsv a ha).1, (h.rsv a ha).2⟩, h.tbw x.toExtW⟩
theorem RSt.ext (h : RSt K H ρ sto) (hp : H p = none) : Ext ρ H ρ (upd H p o) := .new hp h.hh
theorem RSt.new (h : RSt K H ρ sto) (hp : H p = none) : RSt K (upd H p o) ρ sto :=
  h.mono' (h.ext hp) fun a ha => upd_ne fun q => h.fresh hp (q ▸ ha)
theorem RSt.newBx (h : RSt K H ρ sto) {b : Bx} {o : HO} (hp : H p = none) (r : ∀ H1, ExtW ρ H ⟨ρ.bx ++ [p], ρ.rs, ρ.cg⟩ H1 → H1 p = some o → RB K H1 ⟨ρ.bx ++ [p], ρ.rs, ρ.cg⟩ p b) : Ext ρ H ⟨ρ.bx ++ [p], ρ.rs, ρ.cg⟩ (upd H p o) ∧ RSt K (upd H p o) ⟨ρ.bx ++ [p], ρ.rs, ρ.cg⟩ (sto ++ [b]) := by
  have hx : Ext ρ H ⟨ρ.bx ++ [p], ρ.rs, ρ.cg⟩ (upd H p o) :=
    ⟨⟨⟨[p], rfl, fun a ha => by rw [List.mem_singleton.mp ha]; exact hp⟩, rs_refl, (h.ext (o := o) hp).keep, (h.ext (o := o) hp).has, kd_new hp⟩, rfl, (h.ext (o := o) hp).res⟩
  refine ⟨hx, ⟨?_, by simp [h.len], fun n a zs e1 e2 => ?_, fun a ha => ⟨hx.has a (h.rsv a ha).1, fun hm => ?_⟩, h.tbw hx.toExtW⟩⟩
  · refine List.nodup_append.mpr ⟨h.nd, by simp, fun a ha b hb => ?_⟩
    rw [List.mem_singleton.mp hb]
    exact fun q => h.fresh hp (q ▸ ha)
  · by_cases hn : n < ρ.bx.length
    · rw [List.getElem?_append_left hn] at e1
      rw [List.getElem?_append_left (h.len ▸ hn)] at e2
      exact (h.at_ n a zs e1 e2).imp (fun r => r.mono hx.toExtW) fun u q => by rw [upd_ne (ne_of_none q hp)]; exact q
    · have hn' : n = ρ.bx.length := by
        have := (List.getElem?_eq_some_iff.mp e1).1
        simp at this; omega
      subst hn'
      simp at e1
      rw [h.len] at e2
      simp at e2
      subst e1; subst e2
      exact r _ hx.toExtW upd_same
  · rcases List.mem_append.mp hm with z | z
    · exact (h.rsv a ha).2 z
    · exact h.freshR hp (by rw [← List.mem_singleton.mp z]; exact ha)
theorem RSt.newBox (h : RSt K H ρ sto) {xs : List PV} {ys : List V} (hp : H p = none) (r : RVs K H ρ xs ys) : Ext ρ H ⟨ρ.bx ++ [p], ρ.rs, ρ.cg⟩ (upd H p (.lst ys)) ∧ RSt K (upd H p (.lst ys)) ⟨ρ.bx ++ [p], ρ.rs, ρ.cg⟩ (sto ++ [.l xs]) :=
  h.newBx hp fun H1 x e => ⟨ys, e, r.mono x⟩
end
theorem e_tup {es : List Expr} {ms : MA} {x1} (h : MEs X W es ms) : ME X W (.Tuple es x1 pos) (mTup ms) := by
  obtain ⟨t, p, s⟩ := h
  refine ⟨_, pe_tup p, fun σ H ρ env sto Q hE hS hP => ?_⟩
  refine s σ H ρ env sto _ hE hS ((hP.bind hS).imp fun vs s1 H1 ρ1 x1 S1 P1 ys hys => ?_)
  cases q : Nat.ble vs.length sizeLine with
  | false => rw [q] at P1; exact P1.elim
  | true =>
    rw [q] at P1
    refine ⟨by rw [← hys.length]; exact Nat.le_of_ble_eq_true q, fun p hp => ?_⟩
    exact P1 _ ρ1 (S1.ext hp) (S1.new hp) _ ⟨p, ys, rfl, .inl ⟨upd_same, S1.fresh hp, S1.freshR hp⟩, hys.mono (S1.ext hp).toExtW⟩
theorem e_lst {es : List Expr} {ms : MA} (h : MEs X W es ms) : ME X W (.List es pos) (mLst ms) := by
  obtain ⟨t, p, s⟩ := h
  refine ⟨_, pe_lst p, fun σ H ρ env sto Q hE hS hP => ?_⟩
  refine s σ H ρ env sto _ hE hS ((hP.bind hS).imp fun vs s1 H1 ρ1 x1 S1 P1 ys hys => ?_)
  cases q : Nat.ble vs.length sizeLine with
  | false => rw [q] at P1; exact P1.elim
  | true =>
    rw [q] at P1
    refine ⟨by rw [← hys.length]; exact Nat.le_of_ble_eq_true q, fun p hp => ?_⟩
    exact P1 _ ρ1 (S1.ext hp) (S1.new hp) _ ⟨p, ys, rfl, ⟨upd_same, S1.fresh hp, S1.freshR hp⟩, hys.mono (S1.ext hp).toExtW⟩
theorem e_box {es : List Expr} {ms : MA} (h : MEs X W es ms) : ME X W (.List es pos) (mBox ms) := by
  obtain ⟨t, p, s⟩ := h
  refine ⟨_, pe_lst p, fun σ H ρ env sto Q hE hS hP => ?_⟩
  refine s σ H ρ env sto _ hE hS ((hP.bind hS).imp fun vs s1 H1 ρ1 x1 S1 P1 ys hys => ?_)
  cases q : Nat.ble vs.length sizeLine with
  | false => rw [q] at P1; exact P1.elim
  | true =>
    rw [q] at P1
    refine ⟨by rw [← hys.length]; exact Nat.le_of_ble_eq_true q, fun p hp => ?_⟩
    obtain ⟨x2, S2⟩ := S1.newBox hp hys
    exact P1 _ _ x2 S2 _ ⟨p, rfl, by rw [← S1.len]; simp⟩
end
end Mi

noncomputable section
namespace Mi
open PySem PySem.Spec PyProof.Rows L2

/-! the i-th of a list, by its tails (the kernel keeps what it has met) -/
def dropC {α : Type} (xs : List α) : Nat → List α
  | 0 => xs
  | n + 1 => (dropC xs n).tail
def nthC {α : Type} (xs : List α) (i : Nat) : Option α := (dropC xs i).head?
theorem dropC_eq {α : Type} (xs : List α) : ∀ n, dropC xs n = xs.drop n
  | 0 => rfl
  | n + 1 => by
    show (dropC xs n).tail = xs.drop (n + 1)
    rw [dropC_eq xs n, List.tail_drop]
theorem nthC_eq {α : Type} (xs : List α) (i : Nat) : nthC xs i = xs[i]? := by
  unfold nthC
  rw [dropC_eq, List.head?_drop]
/-! ### what a value holds -/
def getL (sto : Sto) : PV → Option (List PV)
  | .lst xs => some xs
  | .box n => lsO sto[n]?
  | _ => none
def getF (sto : Sto) : PV → Option (List PV)
  | .lst xs => some xs
  | .fro xs => some xs
  | .box n => lsO sto[n]?
  | _ => none
def getT : PV → Option (List PV)
  | .tup xs => some xs
  | _ => none
def getQ (sto : Sto) : PV → Option (List PV)
  | .tup xs => some xs
  | v => getF sto v
section
variable {K : PySem.W.Frag} {H : Hp} {ρ : Rh} {sto : Sto} {x : PV} {v : V} {xs : List PV}
theorem getL_ok (S : RSt K H ρ sto) (r : RV K H ρ x v) (h : getL sto x = some xs) : ∃ a ys, v = .ref a ∧ H a = some (.lst ys) ∧ RVs K H ρ xs ys := by
  cases x <;> simp only [getL] at h <;> try cases h
  · obtain ⟨a, ys, h1, h2, h3⟩ := r
    exact ⟨a, ys, h1, h2.1, h3⟩
  · obtain ⟨a, h1, h2⟩ := r
    obtain ⟨ys, h3, h4⟩ := S.at_ _ a _ h2 (lsO_ok h)
    exact ⟨a, ys, h1, h3, h4⟩
theorem getF_ok (S : RSt K H ρ sto) (r : RV K H ρ x v) (h : getF sto x = some xs) : ∃ a ys, v = .ref a ∧ SqL K H a ys ∧ RVs K H ρ xs ys := by
  cases x <;> simp only [getF] at h <;> try cases h
  · obtain ⟨a, ys, h1, h2, h3⟩ := r
    exact ⟨a, ys, h1, .of h2.1, h3⟩
  · obtain ⟨a, ys, h1, h2, h3⟩ := r
    exact ⟨a, ys, h1, h2.sq, h3⟩
  · obtain ⟨a, h1, h2⟩ := r
    obtain ⟨ys, h3, h4⟩ := S.at_ _ a _ h2 (lsO_ok h)
    exact ⟨a, ys, h1, .of h3, h4⟩
theorem getT_ok (r : RV K H ρ x v) (h : getT x = some xs) : ∃ a ys, v = .ref a ∧ SqT K H a ys ∧ RVs K H ρ xs ys := by
  cases x <;> simp only [getT] at h <;> try cases h
  obtain ⟨a, ys, h1, h2, h3⟩ := r
  exact ⟨a, ys, h1, h2.sq, h3⟩
theorem getQ_ok (S : RSt K H ρ sto) (r : RV K H ρ x v) (h : getQ sto x = some xs) : ∃ a ys, v = .ref a ∧ (SqL K H a ys ∨ SqT K H a ys) ∧ RVs K H ρ xs ys := by
  cases x with
  | tup zs =>
    obtain ⟨a, ys, h1, h2, h3⟩ := getT_ok r (show getT (.tup zs) = some xs from h)
    exact ⟨a, ys, h1, .inr h2, h3⟩
  | _ =>
    obtain ⟨a, ys, h1, h2, h3⟩ := getF_ok S r (show getF sto _ = some xs from h)
    exact ⟨a, ys, h1, .inl h2, h3⟩
end
def fresh (b : Bool) (xs : List PV) (s : Sto) : R PV := bif b then .ok (.box s.length) (s ++ [.l xs]) else .ok (.lst xs) s
section
variable {K : PySem.W.Frag} {H : Hp} {ρ : Rh} {sto : Sto} {WP : XK} {Q : VK}
theorem fresh_ok {b : Bool} {xs : List PV} {ys : List V} (S : RSt K H ρ sto) (r : RVs K H ρ xs ys) (P : Post K WP H ρ (GV K Q) (fresh b xs sto)) {p : Addr} (hp : H p = none) : Q (.ref p) (upd H p (.lst ys)) := by
  cases b with
  | false => exact P _ ρ (S.ext hp) (S.new hp) _ ⟨p, ys, rfl, ⟨upd_same, S.fresh hp, S.freshR hp⟩, r.mono (S.ext hp).toExtW⟩
  | true =>
    obtain ⟨x2, S2⟩ := S.newBox hp r
    exact P _ _ x2 S2 _ ⟨p, rfl, by rw [← S.len]; simp⟩
theorem tup_ok {xs : List PV} {ys : List V} {s : Sto} (S : RSt K H ρ s) (r : RVs K H ρ xs ys) (P : Post K WP H ρ (GV K Q) (.ok (.tup xs) s)) {p : Addr} (hp : H p = none) : Q (.ref p) (upd H p (.tup ys)) :=
  P _ ρ (S.ext hp) (S.new hp) _ ⟨p, ys, rfl, .inl ⟨upd_same, S.fresh hp, S.freshR hp⟩, r.mono (S.ext hp).toExtW⟩
theorem now {v : PV} {x : V} (S : RSt K H ρ sto) (P : Post K WP H ρ (GV K Q) (.ok v sto)) (r : RV K H ρ v x) : Q x H := P H ρ .refl S x r
end

/-! ### two-place operations -/
abbrev G2 := PV → PV → Sto → R PV
def mBin (g : G2) (ma mb : M) : M := fun env s => (ma env s).bind fun x s1 => (mb env s1).bind fun y s2 => g x y s2
def SR2 (K : PySem.W.Frag) (r : R2) (g : G2) : Prop := ∀ (WP : XK) (H : Hp) (ρ : Rh) (sto : Sto) (x y : PV) (v u : V) (Q : VK),
  RSt K H ρ sto → RV K H ρ x v → RV K H ρ y u → Post K WP H ρ (GV K Q) (g x y sto) → r v u H Q
def mUn (g : PV → Sto → R PV) (m : M) : M := fun env s => (m env s).bind g
def SR1 (K : PySem.W.Frag) (r : V → Hp → VK → Prop) (g : PV → Sto → R PV) : Prop := ∀ (WP : XK) (H : Hp) (ρ : Rh) (sto : Sto) (x : PV) (v : V) (Q : VK),
  RSt K H ρ sto → RV K H ρ x v → Post K WP H ρ (GV K Q) (g x sto) → r v H Q
section
variable {X : Cx} {W : WK} {a b c : Expr} {ma mb mc : M} {pos : Pos} {g : G2} {r : R2}
theorem se_bin {ta tb : TE} (sa : SE X.K W ta ma) (sb : SE X.K W tb mb) (hg : SR2 X.K r g) : SE X.K W (tOp r ta tb) (mBin g ma mb) := by
  intro σ H ρ env sto Q hE hS hP
  refine sa σ H ρ env sto _ hE hS ((hP.bind hS).imp fun v s1 H1 ρ1 x1 S1 P1 y hy => ?_)
  refine sb σ H1 ρ1 env s1 _ (hE.mono x1.toExtW) S1 ((P1.bind S1).imp fun u s2 H2 ρ2 x2 S2 P2 z hz => ?_)
  exact hg _ H2 ρ2 s2 v u y z Q S2 (hy.mono x2.toExtW) hz P2
theorem e_op {op : Operator} (ho : OpR X (binaryOp op) r) (hg : SR2 X.K r g) (ha : ME X W a ma) (hb : ME X W b mb) : ME X W (.BinOp a op b pos) (mBin g ma mb) := by
  obtain ⟨ta, pa, sa⟩ := ha
  obtain ⟨tb, pb, sb⟩ := hb
  exact ⟨_, pe_op ho pa pb, se_bin sa sb hg⟩
theorem e_cmp {op : CmpOp} (ho : OpR X (compareOp op) r) (hg : SR2 X.K r g) (ha : ME X W a ma) (hb : ME X W b mb) (hm : behindInMarks op b = false) : ME X W (.Compare a [op] [b] pos) (mBin g ma mb) := by
  obtain ⟨ta, pa, sa⟩ := ha
  obtain ⟨tb, pb, sb⟩ := hb
  exact ⟨_, pe_cmpR ho pa pb hm, se_bin sa sb hg⟩
theorem e_un {op : UnaryOp} {r : V → Hp → VK → Prop} {g : PV → Sto → R PV} (ho : UnR X (unaryOp op) r) (hg : SR1 X.K r g) (ha : ME X W a ma) : ME X W (.UnaryOp op a pos) (mUn g ma) := by
  obtain ⟨ta, pa, sa⟩ := ha
  refine ⟨_, pe_un ho pa, fun σ H ρ env sto Q hE hS hP => ?_⟩
  exact sa σ H ρ env sto _ hE hS ((hP.bind hS).imp fun v s1 H1 ρ1 x1 S1 P1 y hy => hg _ H1 ρ1 s1 v y Q S1 hy P1)
end
def gAdd (fr : Bool) : G2 := fun x y s => match x, y with
  | .int i, .int j => .ok (.int (i + j)) s
  | .int i, .bl k => .ok (.int (i + b2i k)) s
  | .tup xs, .tup ys => bif Nat.ble (xs.length + ys.length) sizeLine then .ok (.tup (xs ++ ys)) s else .bad
  | x, y => match getL s x, getL s y with
    | some xs, some ys => bif Nat.ble (xs.length + ys.length) sizeLine then fresh fr (xs ++ ys) s else .bad
    | _, _ => .bad
def rAdd' (K : PySem.W.Frag) : R2 := fun x y H Q => (((∃ i j, x = .int i ∧ y = .int j ∧ Q (.int (i + j)) H) ∨ (∃ i k, x = .int i ∧ y = .bl k ∧ Q (.int (i + b2i k)) H)) ∨ rCatA K x y H Q) ∨ rCat x y H Q
theorem op_add' {X : Cx} : OpR X (binaryOp .Add) (rAdd' X.K) := ((OpR.or op_add op_add_ib).or op_catA).or op_cat
theorem ble_of {a b : Nat} {α : Type} {r r' : α} {C : α → Prop} (h : C (bif Nat.ble a b then r else r')) (hn : ¬ C r') : a ≤ b ∧ C r := by
  cases q : Nat.ble a b with
  | false => rw [q] at h; exact absurd h hn
  | true => rw [q] at h; exact ⟨Nat.le_of_ble_eq_true q, h⟩
section
variable {K : PySem.W.Frag}
theorem cat_list {WP : XK} {H : Hp} {ρ : Rh} {sto : Sto} {x y : PV} {v u : V} {Q : VK} {fr : Bool} (S : RSt K H ρ sto) (rx : RV K H ρ x v) (ry : RV K H ρ y u)
    (P : Post K WP H ρ (GV K Q) (match getL sto x, getL sto y with
    | some xs, some ys => bif Nat.ble (xs.length + ys.length) sizeLine then fresh fr (xs ++ ys) sto else .bad
    | _, _ => .bad)) : rCat v u H Q := by
  cases e1 : getL sto x with
  | none => rw [e1] at P; exact P.elim
  | some xs =>
    cases e2 : getL sto y with
    | none => rw [e1, e2] at P; exact P.elim
    | some ys =>
      rw [e1, e2] at P
      obtain ⟨hz, P⟩ := ble_of (C := Post K WP H ρ (GV K Q)) P (fun z => z)
      obtain ⟨a, as, rfl, ha, ra⟩ := getL_ok S rx e1
      obtain ⟨b, bs, rfl, hb, rb⟩ := getL_ok S ry e2
      exact ⟨a, b, as, bs, rfl, rfl, ha, hb, by rw [← ra.length, ← rb.length]; exact hz, fun p hp => fresh_ok S (ra.append rb) P hp⟩
theorem g_add {fr : Bool} : SR2 K (rAdd' K) (gAdd fr) := by
  intro WP H ρ sto x y v u Q S rx ry P
  unfold gAdd at P
  split at P
  · cases rx; cases ry
    exact .inl (.inl (.inl ⟨_, _, rfl, rfl, now S P rfl⟩))
  · cases rx; cases ry
    exact .inl (.inl (.inr ⟨_, _, rfl, rfl, now S P rfl⟩))
  · rename_i xs ys
    obtain ⟨hz, P⟩ := ble_of (C := Post K WP H ρ (GV K Q)) P (fun z => z)
    obtain ⟨a, as, rfl, ha, ra⟩ := getT_ok rx rfl
    obtain ⟨b, bs, rfl, hb, rb⟩ := getT_ok ry rfl
    refine .inl (.inr ⟨a, b, as, bs, rfl, rfl, ha, hb, by rw [← ra.length, ← rb.length]; exact hz, fun e => ?_, fun _ e => ?_, fun _ _ p hp => tup_ok S (ra.append rb) P hp⟩)
    · subst e
      have : xs = [] := List.length_eq_zero_iff.mp ra.length
      subst this
      exact now S P ry
    · subst e
      have : ys = [] := List.length_eq_zero_iff.mp rb.length
      subst this
      rw [List.append_nil] at P
      exact now S P rx
  · exact .inr (cat_list S rx ry P)
end
def gI (C : Int → Int → Bool) (f : Int → Int → PV) : G2 := fun x y s => match x, y with
  | .int i, .int j => bif C i j then .ok (f i j) s else .bad
  | _, _ => .bad
theorem g_I {K : PySem.W.Frag} {C : Int → Int → Bool} {C' : Int → Int → Prop} {f : Int → Int → PV} {f' : Int → Int → V} (hC : ∀ i j, C i j = true → C' i j) (hf : ∀ H ρ i j, RV K H ρ (f i j) (f' i j)) : SR2 K (rI C' f') (gI C f) := by
  intro WP H ρ sto x y v u Q S rx ry P
  unfold gI at P
  split at P
  · rename_i i j
    cases rx; cases ry
    cases q : C i j with
    | false => rw [q] at P; exact P.elim
    | true =>
      rw [q] at P
      exact ⟨i, j, rfl, rfl, hC i j q, now S P (hf H ρ i j)⟩
  · exact P.elim
def gI0 (f : Int → Int → PV) : G2 := fun x y s => match x, y with
  | .int i, .int j => .ok (f i j) s
  | _, _ => .bad
theorem g_I0 {K : PySem.W.Frag} {f : Int → Int → PV} {f' : Int → Int → V} (hf : ∀ H ρ i j, RV K H ρ (f i j) (f' i j)) : SR2 K (rI0 f') (gI0 f) := by
  intro WP H ρ sto x y v u Q S rx ry P
  unfold gI0 at P
  split at P
  · rename_i i j
    cases rx; cases ry
    exact ⟨i, j, rfl, rfl, now S P (hf H ρ i j)⟩
  · exact P.elim
/-- * of two factors of together less than 100 million bits -/
def CMulZ (i j : Int) : Prop := i.natAbs.log2 + j.natAbs.log2 < 100000000
theorem CMulZ.ok {i j : Int} (h : CMulZ i j) : IntMulOk i j := by
  have b : ∀ x : Int, Builtin.Int.intBits x ≤ x.natAbs.log2 + 1 := fun x => by
    unfold Builtin.Int.intBits
    split <;> omega
  have b1 := b i
  have b2 := b j
  have b3 : i.natAbs.log2 + j.natAbs.log2 < 100000000 := h
  have bl : bitsLine = 134217728 := by decide
  intro z
  have z2 := (Bool.and_eq_true_iff.mp z).2
  unfold Builtin.Int.intTooBig at z2
  have z3 := of_decide_eq_true z2
  rw [bl] at z3
  omega
theorem op_mulZ {X : Cx} : OpR X (binaryOp .Mult) (rI CMulZ fun i j => .int (i * j)) := opI fun _ _ _ _ _ _ _ hc q => mul_int q hc.ok
def cMul (i j : Int) : Bool := Nat.blt (i.natAbs.log2 + j.natAbs.log2) 100000000
def cDiv (_ j : Int) : Bool := match j with
  | .ofNat n => bif Nat.beq n 0 then false else Nat.blt n.log2 9000
  | .negSucc n => Nat.blt (n + 1).log2 9000
def CDivZ (_ j : Int) : Prop := j ≠ 0 ∧ j.natAbs.log2 < 9000
theorem op_fdivZ {X : Cx} : OpR X (binaryOp .FloorDiv) (rI CDivZ fun i j => .int (i.fdiv j)) := opI fun _ _ _ _ _ _ _ hc q => floordiv_int hc.1 q (.inl (PyProof.noPylong_of_log2 hc.2))
def cMod (_ j : Int) : Bool := match j with
  | .ofNat n => bif Nat.beq n 0 then false else true
  | .negSucc _ => false
def cPow (i j : Int) : Bool := match j with
  | .ofNat n => Nat.ble n 1000000 && Nat.blt i.natAbs (2 ^ 64)
  | .negSucc _ => false
theorem beq_ne {n : Nat} (h : (bif Nat.beq n 0 then false else true) = true) : n ≠ 0 := by
  intro e; subst e; cases h
theorem cDiv_ok (i j : Int) (h : cDiv i j = true) : CDivZ i j := by
  unfold cDiv at h
  split at h
  · rename_i n
    cases q : Nat.beq n 0 with
    | true => rw [q] at h; cases h
    | false =>
      rw [q] at h
      have h1 : n ≠ 0 := fun e => by rw [e] at q; cases q
      exact ⟨by show (n : Int) ≠ 0; omega, Nat.le_of_ble_eq_true h⟩
  · rename_i n
    exact ⟨(fun z => nomatch z), Nat.le_of_ble_eq_true h⟩
theorem cMod_ok (i j : Int) (h : cMod i j = true) : 0 < j := by
  unfold cMod at h
  split at h
  · rename_i n
    have := beq_ne h
    show (0 : Int) < (n : Int); omega
  · cases h
theorem cPow_ok (i j : Int) (h : cPow i j = true) : CPow i j := by
  unfold cPow at h
  split at h
  · rename_i n
    rw [Bool.and_eq_true] at h
    have h1 := Nat.le_of_ble_eq_true h.1
    exact ⟨Int.natCast_nonneg n, by show (n : Int) ≤ 1000000; omega, Nat.le_of_ble_eq_true h.2⟩
  · cases h
def gSub : G2 := gI0 fun i j => .int (i - j)
def gDiv : G2 := gI cDiv fun i j => .int (i.fdiv j)
def gMod : G2 := gI cMod fun i j => .int (i % j)
def gPow : G2 := gI cPow fun i j => .int (i ^ j.toNat)
def rep (n : Nat) (xs : List PV) : List PV := (List.replicate n xs).flatten
theorem RVs.flat {K : PySem.W.Frag} {H : Hp} {ρ : Rh} {xs : List PV} {ys : List V} (r : RVs K H ρ xs ys) : ∀ n, RVs K H ρ (rep n xs) (List.replicate n ys).flatten
  | 0 => rfl
  | n + 1 => by
    unfold rep
    rw [List.replicate_succ, List.replicate_succ, List.flatten_cons, List.flatten_cons]
    exact r.append (RVs.flat r n)
def gMul (fr : Bool) : G2 := fun x y s => match x, y with
  | .int i, .int j => bif cMul i j then .ok (.int (i * j)) s else .bad
  | .tup xs, .int (.ofNat k) => bif Nat.ble 2 k && Nat.ble k 1000 && Nat.ble xs.length 1000 && Nat.ble 1 xs.length then .ok (.tup (rep k xs)) s else .bad
  | x, .int (.ofNat k) => match getL s x with
    | some xs => bif Nat.ble (xs.length * k) sizeLine && Nat.blt k (2 ^ 63) then fresh fr (rep k xs) s else .bad
    | none => .bad
  | _, _ => .bad
def rMul' (K : PySem.W.Frag) : R2 := fun x y H Q => (rI CMulZ (fun i j => .int (i * j)) x y H Q ∨ rRepT K x y H Q) ∨ rRep x y H Q
theorem op_mul' {X : Cx} : OpR X (binaryOp .Mult) (rMul' X.K) := (OpR.or op_mulZ op_repT).or op_rep
theorem and_of {p : Bool} {α : Type} {r r' : α} {C : α → Prop} (h : C (bif p then r else r')) (hn : ¬ C r') : p = true ∧ C r := by
  cases p with
  | false => exact absurd h hn
  | true => exact ⟨rfl, h⟩
theorem g_mul {K : PySem.W.Frag} {fr : Bool} : SR2 K (rMul' K) (gMul fr) := by
  intro WP H ρ sto x y v u Q S rx ry P
  unfold gMul at P
  split at P
  · rename_i i j
    cases rx; cases ry
    obtain ⟨hc, P⟩ := and_of (C := Post K WP H ρ (GV K Q)) P (fun z => z)
    exact .inl (.inl ⟨i, j, rfl, rfl, Nat.le_of_ble_eq_true hc, now S P rfl⟩)
  · rename_i xs k
    cases ry
    obtain ⟨hc, P⟩ := and_of (C := Post K WP H ρ (GV K Q)) P (fun z => z)
    simp only [Bool.and_eq_true] at hc
    obtain ⟨⟨⟨h1, h2⟩, h3⟩, h4⟩ := hc
    have h1 := Nat.le_of_ble_eq_true h1
    have h2 := Nat.le_of_ble_eq_true h2
    have h3 := Nat.le_of_ble_eq_true h3
    have h4 := Nat.le_of_ble_eq_true h4
    obtain ⟨a, as, rfl, ha, ra⟩ := getT_ok rx rfl
    refine .inl (.inr ⟨a, (k : Int), as, rfl, rfl, ha, fun e => ?_, by omega, by omega, by rw [← ra.length]; exact h3, fun p hp => ?_⟩)
    · subst e
      have := ra.length
      simp at this; subst this; simp at h4
    · exact tup_ok S (ra.flat k) P hp
  · rename_i k _ _
    cases ry
    cases e1 : getL sto x with
    | none => rw [e1] at P; exact P.elim
    | some xs =>
      rw [e1] at P
      obtain ⟨hc, P⟩ := and_of (C := Post K WP H ρ (GV K Q)) P (fun z => z)
      simp only [Bool.and_eq_true] at hc
      have h1 := Nat.le_of_ble_eq_true hc.1
      have h2 : k < 2 ^ 63 := Nat.le_of_ble_eq_true hc.2
      obtain ⟨a, as, rfl, ha, ra⟩ := getL_ok S rx e1
      exact .inr ⟨a, (k : Int), as, rfl, rfl, ha, by omega, by omega, by rw [← ra.length]; exact h1, fun p hp => fresh_ok S (ra.flat k) P hp⟩
  · exact P.elim
def gNeg : PV → Sto → R PV := fun x s => match x with
  | .int i => .ok (.int (-i)) s
  | _ => .bad
theorem g_neg {K : PySem.W.Frag} : SR1 K (rU fun i => .int (-i)) gNeg := by
  intro WP H ρ sto x v Q S rx P
  unfold gNeg at P
  split at P
  · cases rx
    exact ⟨_, rfl, now S P rfl⟩
  · exact P.elim

/-! ### comparisons -/
mutual
def toD (sto : Sto) : PV → Option PyData
  | .non => some .none
  | .bl b => some (.bool b)
  | .int i => some (.int i)
  | .str x => some (.str x)
  | .tup xs => (toDs sto xs).map .tuple
  | .lst xs => (toDs sto xs).map .list
  | .fro xs => (toDs sto xs).map .list
  | .box n => none
  | .ty _ => none
  | .obj _ => none
  | .fn _ => none
  | .cat _ _ _ _ => none
  | .exc _ _ _ => none
def toDs (sto : Sto) : List PV → Option (List PyData)
  | [] => some []
  | x :: xs => match toD sto x with
    | some d => match toDs sto xs with
      | some ds => some (d :: ds)
      | none => none
    | none => none
end
mutual
theorem toD_ok {K : PySem.W.Frag} {H : Hp} {ρ : Rh} {sto : Sto} : ∀ {x : PV} {v : V} {d : PyData}, RV K H ρ x v → toD sto x = some d → Dp K H v d
  | .non, _, _, r, h => by cases r; cases h; exact .non
  | .bl b, _, _, r, h => by cases r; cases h; exact .bl b
  | .int b, _, _, r, h => by cases r; cases h; exact .int b
  | .str b, _, _, r, h => by cases r; cases h; exact .str b
  | .tup xs, _, _, r, h => by
    obtain ⟨a, ys, rfl, h2, h3⟩ := r
    unfold toD at h
    cases e : toDs sto xs with
    | none => rw [e] at h; cases h
    | some ds => rw [e] at h; cases h; exact .tup h2.sq (toDs_ok h3 e)
  | .lst xs, _, _, r, h => by
    obtain ⟨a, ys, rfl, h2, h3⟩ := r
    unfold toD at h
    cases e : toDs sto xs with
    | none => rw [e] at h; cases h
    | some ds => rw [e] at h; cases h; exact .lst h2.sq (toDs_ok h3 e)
  | .fro xs, _, _, r, h => by
    obtain ⟨a, ys, rfl, h2, h3⟩ := r
    unfold toD at h
    cases e : toDs sto xs with
    | none => rw [e] at h; cases h
    | some ds => rw [e] at h; cases h; exact .lst h2.sq (toDs_ok h3 e)
  | .box _, _, _, _, h => by cases h
  | .ty _, _, _, _, h => by cases h
  | .obj _, _, _, _, h => by cases h
  | .fn _, _, _, _, h => by cases h
  | .cat _ _ _ _, _, _, _, h => by cases h
  | .exc _ _ _, _, _, _, h => by cases h
theorem toDs_ok {K : PySem.W.Frag} {H : Hp} {ρ : Rh} {sto : Sto} : ∀ {xs : List PV} {vs : List V} {ds : List PyData}, RVs K H ρ xs vs → toDs sto xs = some ds → DpAll K H vs ds
  | [], _, _, r, h => by cases r; cases h; exact .nil
  | x :: xs, _, _, r, h => by
    obtain ⟨v, ws, rfl, h2, h3⟩ := r
    unfold toDs at h
    cases e1 : toD sto x with
    | none => rw [e1] at h; cases h
    | some d =>
      cases e2 : toDs sto xs with
      | none => rw [e1, e2] at h; cases h
      | some ds => rw [e1, e2] at h; cases h; exact .cons (toD_ok h2 e1) (toDs_ok h3 e2)
end
def gEqD (f : Bool → Bool) : G2 := fun x y s => match toD s x, toD s y with
  | some d, some e => bif SeqAt.shaped d && SeqAt.shaped e then .ok (.bl (f (PyData.eqv d e))) s else .bad
  | _, _ => .bad
/-- == of flat values first -/
def gEq : G2 := fun x y s => match x, y with
  | .int i, .int j => .ok (.bl (decide (i = j))) s
  | .bl i, .bl j => .ok (.bl (decide (i = j))) s
  | .str i, .str j => .ok (.bl (decide (i = j))) s
  | .non, .non => .ok (.bl true) s
  | x, y => gEqD id x y s
def gNe : G2 := fun x y s => match x, y with
  | .int i, .int j => .ok (.bl (!decide (i = j))) s
  | .bl i, .bl j => .ok (.bl (!decide (i = j))) s
  | .str i, .str j => .ok (.bl (!decide (i = j))) s
  | .non, .non => .ok (.bl false) s
  | x, y => gEqD not x y s
theorem g_eqD {K : PySem.W.Frag} : SR2 K (rEqD K) (gEqD id) := by
  intro WP H ρ sto x y v u Q S rx ry P
  unfold gEqD at P
  split at P
  · rename_i d e h1 h2
    obtain ⟨hc, P⟩ := and_of (C := Post K WP H ρ (GV K Q)) P (fun z => z)
    rw [Bool.and_eq_true] at hc
    exact ⟨d, e, toD_ok rx h1, toD_ok ry h2, hc.1, hc.2, now S P rfl⟩
  · exact P.elim
theorem g_neD {K : PySem.W.Frag} : SR2 K (rNeD K) (gEqD not) := by
  intro WP H ρ sto x y v u Q S rx ry P
  unfold gEqD at P
  split at P
  · rename_i d e h1 h2
    obtain ⟨hc, P⟩ := and_of (C := Post K WP H ρ (GV K Q)) P (fun z => z)
    rw [Bool.and_eq_true] at hc
    exact ⟨d, e, toD_ok rx h1, toD_ok ry h2, hc.1, hc.2, now S P rfl⟩
  · exact P.elim
theorem vint {i j : Int} : decide (V.int i = V.int j) = decide (i = j) := by simp
theorem vbl {i j : Bool} : decide (V.bl i = V.bl j) = decide (i = j) := by simp
theorem vstr {i j : Str} : decide (V.str i = V.str j) = decide (i = j) := by simp
theorem g_eq {K : PySem.W.Frag} : SR2 K (fun x y H Q => rEq x y H Q ∨ rEqD K x y H Q) gEq := by
  intro WP H ρ sto x y v u Q S rx ry P
  unfold gEq at P
  split at P
  · cases rx; cases ry; exact .inl ⟨rfl, now S P (by rw [vint]; rfl)⟩
  · cases rx; cases ry; exact .inl ⟨rfl, now S P (by rw [vbl]; rfl)⟩
  · cases rx; cases ry; exact .inl ⟨rfl, now S P (by rw [vstr]; rfl)⟩
  · cases rx; cases ry; exact .inl ⟨rfl, now S P rfl⟩
  · exact .inr (g_eqD WP H ρ sto _ _ v u Q S rx ry P)
theorem g_ne {K : PySem.W.Frag} : SR2 K (fun x y H Q => rNe x y H Q ∨ rNeD K x y H Q) gNe := by
  intro WP H ρ sto x y v u Q S rx ry P
  unfold gNe at P
  split at P
  · cases rx; cases ry; exact .inl ⟨rfl, now S P (by rw [vint]; rfl)⟩
  · cases rx; cases ry; exact .inl ⟨rfl, now S P (by rw [vbl]; rfl)⟩
  · cases rx; cases ry; exact .inl ⟨rfl, now S P (by rw [vstr]; rfl)⟩
  · cases rx; cases ry; exact .inl ⟨rfl, now S P rfl⟩
  · exact .inr (g_neD WP H ρ sto _ _ v u Q S rx ry P)
theorem op_eq' {X : Cx} (hu : X.A.units + 64 < cLine) : OpR X (compareOp .Eq) (fun x y H Q => rEq x y H Q ∨ rEqD X.K x y H Q) := .or op_eq (op_eqD hu)
theorem op_ne' {X : Cx} (hu : X.A.units + 64 < cLine) : OpR X (compareOp .NotEq) (fun x y H Q => rNe x y H Q ∨ rNeD X.K x y H Q) := .or op_ne (op_neD hu)
def gLt : G2 := gI0 fun i j => .bl (decide (i < j))
def gLe : G2 := gI0 fun i j => .bl (decide (i ≤ j))
def gGt : G2 := gI0 fun i j => .bl (decide (j < i))
def gGe : G2 := gI0 fun i j => .bl (decide (j ≤ i))
def isNon : PV → Bool
  | .non => true
  | _ => false
theorem isNon_ok {K : PySem.W.Frag} {H : Hp} {ρ : Rh} : ∀ {x : PV} {v : V}, RV K H ρ x v → decide (v = .non) = isNon x
  | .non, _, r => by cases r; rfl
  | .bl _, _, r => by cases r; rfl
  | .int _, _, r => by cases r; rfl
  | .str _, _, r => by cases r; rfl
  | .ty _, _, r => by cases r; rfl
  | .obj _, _, r => by cases r; rfl
  | .fn _, _, r => by obtain ⟨_, _, _, _, rfl⟩ := r; rfl
  | .cat _ _ _ _, _, r => by obtain ⟨_, rfl, _⟩ := r; rfl
  | .box _, _, r => by obtain ⟨a, rfl, _⟩ := r; rfl
  | .tup _, _, r => by obtain ⟨a, _, rfl, _⟩ := r; rfl
  | .lst _, _, r => by obtain ⟨a, _, rfl, _⟩ := r; rfl
  | .fro _, _, r => by obtain ⟨a, _, rfl, _⟩ := r; rfl
  | .exc _ _ _, _, r => by obtain ⟨a, _, rfl, _⟩ := r; rfl
def gIs (f : Bool → Bool) : G2 := fun x y s => match y with
  | .non => .ok (.bl (f (isNon x))) s
  | _ => .bad
theorem g_is {K : PySem.W.Frag} : SR2 K (fun x y H Q => y = .non ∧ Q (.bl (decide (x = .non))) H) (gIs id) := by
  intro WP H ρ sto x y v u Q S rx ry P
  unfold gIs at P
  split at P
  · cases ry; exact ⟨rfl, now S P (by rw [isNon_ok rx]; rfl)⟩
  · exact P.elim
theorem g_isnot {K : PySem.W.Frag} : SR2 K (fun x y H Q => y = .non ∧ Q (.bl (!decide (x = .non))) H) (gIs not) := by
  intro WP H ρ sto x y v u Q S rx ry P
  unfold gIs at P
  split at P
  · cases ry; exact ⟨rfl, now S P (by rw [isNon_ok rx]; rfl)⟩
  · exact P.elim
section
variable {X : Cx} {W : WK} {a b : Expr} {ma mb : M} {pos : Pos}
theorem e_add {fr : Bool} (ha : ME X W a ma) (hb : ME X W b mb) : ME X W (.BinOp a .Add b pos) (mBin (gAdd fr) ma mb) := e_op op_add' g_add ha hb
theorem e_sub (ha : ME X W a ma) (hb : ME X W b mb) : ME X W (.BinOp a .Sub b pos) (mBin gSub ma mb) := e_op op_sub (g_I0 fun _ _ _ _ => rfl) ha hb
theorem e_mul {fr : Bool} (ha : ME X W a ma) (hb : ME X W b mb) : ME X W (.BinOp a .Mult b pos) (mBin (gMul fr) ma mb) := e_op op_mul' g_mul ha hb
theorem e_div (ha : ME X W a ma) (hb : ME X W b mb) : ME X W (.BinOp a .FloorDiv b pos) (mBin gDiv ma mb) := e_op op_fdivZ (g_I cDiv_ok fun _ _ _ _ => rfl) ha hb
theorem e_mod (ha : ME X W a ma) (hb : ME X W b mb) : ME X W (.BinOp a .Mod b pos) (mBin gMod ma mb) := e_op op_mod (g_I cMod_ok fun _ _ _ _ => rfl) ha hb
theorem e_pow (ha : ME X W a ma) (hb : ME X W b mb) : ME X W (.BinOp a .Pow b pos) (mBin gPow ma mb) := e_op op_pow (g_I cPow_ok fun _ _ _ _ => rfl) ha hb
theorem e_neg (ha : ME X W a ma) : ME X W (.UnaryOp .USub a pos) (mUn gNeg ma) := e_un un_neg g_neg ha
theorem e_eq (hu : X.A.units + 64 < cLine) (ha : ME X W a ma) (hb : ME X W b mb) : ME X W (.Compare a [.Eq] [b] pos) (mBin gEq ma mb) := e_cmp (op_eq' hu) g_eq ha hb (nomark _)
theorem e_ne (hu : X.A.units + 64 < cLine) (ha : ME X W a ma) (hb : ME X W b mb) : ME X W (.Compare a [.NotEq] [b] pos) (mBin gNe ma mb) := e_cmp (op_ne' hu) g_ne ha hb (nomark _)
theorem e_lt (ha : ME X W a ma) (hb : ME X W b mb) : ME X W (.Compare a [.Lt] [b] pos) (mBin gLt ma mb) := e_cmp op_lt (g_I0 fun _ _ _ _ => rfl) ha hb (nomark _)
theorem e_le (ha : ME X W a ma) (hb : ME X W b mb) : ME X W (.Compare a [.LtE] [b] pos) (mBin gLe ma mb) := e_cmp op_le (g_I0 fun _ _ _ _ => rfl) ha hb (nomark _)
theorem e_gt (ha : ME X W a ma) (hb : ME X W b mb) : ME X W (.Compare a [.Gt] [b] pos) (mBin gGt ma mb) := e_cmp op_gt (g_I0 fun _ _ _ _ => rfl) ha hb (nomark _)
theorem e_ge (ha : ME X W a ma) (hb : ME X W b mb) : ME X W (.Compare a [.GtE] [b] pos) (mBin gGe ma mb) := e_cmp op_ge (g_I0 fun _ _ _ _ => rfl) ha hb (nomark _)
theorem e_is (ha : ME X W a ma) (hb : ME X W b mb) : ME X W (.Compare a [.Is] [b] pos) (mBin (gIs id) ma mb) := e_cmp op_isN g_is ha hb (nomark _)
theorem e_isnot (ha : ME X W a ma) (hb : ME X W b mb) : ME X W (.Compare a [.IsNot] [b] pos) (mBin (gIs not) ma mb) := e_cmp op_notN g_isnot ha hb (nomark _)
end
end Mi

noncomputable section
namespace Mi
open PySem PySem.Spec PyProof.Rows L2

/-! ### tests -/
def vB : PV → Sto → R Bool := fun v s => match v with
  | .bl b => .ok b s
  | _ => .bad
def mT (m : M) : MT := fun env s => (m env s).bind vB
def mAndT (a b : MT) : MT := fun env s => (a env s).bind fun c s1 => bif c then b env s1 else .ok false s1
def mOrT (a b : MT) : MT := fun env s => (a env s).bind fun c s1 => bif c then .ok true s1 else b env s1
def mNotT (a : MT) : MT := fun env s => (a env s).bind fun c s1 => .ok (!c) s1
def mIf (t : MT) (a b : M) : M := fun env s => (t env s).bind fun c s1 => bif c then a env s1 else b env s1
def mAnd (a b : M) : M := fun env s => (a env s).bind fun v s1 => match v with
  | .bl c => bif c then b env s1 else .ok (.bl false) s1
  | _ => .bad
def mOr (a b : M) : M := fun env s => (a env s).bind fun v s1 => match v with
  | .bl c => bif c then .ok (.bl true) s1 else b env s1
  | _ => .bad
def mNot (a : M) : M := fun env s => (a env s).bind fun v s1 => match v with
  | .bl c => .ok (.bl (!c)) s1
  | _ => .bad
def truB : Option Bx → Option Bool
  | some (.l xs) => some (!xs.isEmpty)
  | some (.d kvs) => some (!kvs.isEmpty)
  | _ => none
def tru (s : Sto) : PV → Option Bool
  | .non => some false
  | .bl b => some b
  | .int i => some (i != 0)
  | .tup xs => some (!xs.isEmpty)
  | .lst xs => some (!xs.isEmpty)
  | .fro xs => some (!xs.isEmpty)
  | .str x => bif Nat.ble x.length sizeLine then some ((x.length : Int) != 0) else none
  | .box n => truB s[n]?
  | _ => none
def mOrV (a b : M) : M := fun env s => (a env s).bind fun v s1 => match tru s1 v with
  | some c => bif c then .ok v s1 else b env s1
  | none => .bad
def mAndV (a b : M) : M := fun env s => (a env s).bind fun v s1 => match tru s1 v with
  | some c => bif c then b env s1 else .ok v s1
  | none => .bad
def mTru (m : M) : MT := fun env s => (m env s).bind fun v s1 => match tru s1 v with
  | some c => .ok c s1
  | none => .bad
section
variable {K : PySem.W.Frag} {W : WK} {H : Hp} {ρ : Rh} {sto : Sto}
theorem RVs.isEmpty {xs : List PV} {ys : List V} (r : RVs K H ρ xs ys) : xs.isEmpty = ys.isEmpty := by
  cases xs with
  | nil => cases r; rfl
  | cons x xs => obtain ⟨v, ws, rfl, _⟩ := r; rfl
theorem tru_ok' (S : RSt K H ρ sto) : ∀ {x : PV} {v : V} {c : Bool}, RV K H ρ x v → tru sto x = some c → TruV K v H c
  | .non, _, _, r, h => by cases r; cases h; exact rfl
  | .bl _, _, _, r, h => by cases r; cases h; exact rfl
  | .int _, _, _, r, h => by cases r; cases h; exact rfl
  | .tup xs, _, _, r, h => by
    obtain ⟨a, ys, rfl, h2, h3⟩ := r
    cases h
    exact .inr (.inl ⟨ys, h2.sq, by rw [h3.isEmpty]⟩)
  | .lst xs, _, _, r, h => by
    obtain ⟨a, ys, rfl, h2, h3⟩ := r
    cases h
    exact .inl ⟨ys, h2.sq, by rw [h3.isEmpty]⟩
  | .fro xs, _, _, r, h => by
    obtain ⟨a, ys, rfl, h2, h3⟩ := r
    cases h
    exact .inl ⟨ys, h2.sq, by rw [h3.isEmpty]⟩
  | .str x, _, c, r, h => by
    cases r
    have h : (bif Nat.ble x.length sizeLine then some ((x.length : Int) != 0) else none) = some c := h
    cases q : Nat.ble x.length sizeLine with
    | false => rw [q] at h; cases h
    | true => rw [q] at h; cases h; exact ⟨Nat.le_of_ble_eq_true q, rfl⟩
  | .box n, _, c, r, h => by
    obtain ⟨a, rfl, h2⟩ := r
    have h : truB sto[n]? = some c := h
    cases e : sto[n]? with
    | none => rw [e] at h; cases h
    | some b =>
      rw [e] at h
      have h1 := S.at_ n a b h2 e
      cases b with
      | l xs =>
        cases h
        obtain ⟨ys, h3, h4⟩ := h1
        exact .inl ⟨ys, .of h3, by show (!xs.isEmpty) = _; rw [h4.isEmpty]⟩
      | d kvs =>
        cases h
        obtain ⟨yvs, h3, h5, h4⟩ := h1
        refine .inr (.inr ⟨_, h3, ?_⟩)
        cases kvs <;> cases yvs <;> first | rfl | cases h5
      | e _ => cases h
      | i _ _ => cases h
theorem st_test {t : TE} {m : M} (h : SE K W t m) : ST K W (fun σ H Q => t σ H fun x H' => ∃ k, x = .bl k ∧ Q k H') (mT m) := by
  intro σ H ρ env sto Q hE hS hP
  refine h σ H ρ env sto _ hE hS ((hP.bind hS).imp fun v s1 H1 ρ1 x1 S1 P1 y hy => ?_)
  unfold vB at P1
  split at P1
  · cases hy
    exact ⟨_, rfl, P1 H1 ρ1 .refl S1⟩
  · exact P1.elim
end
section
variable {X : Cx} {W : WK} {a b c e : Expr} {rest : List Expr} {m ma mb : M} {pos : Pos} {ta tb tc : MT}
def MW (X : Cx) (W : WK) (e : Expr) (m : MT) : Prop := ∃ t, PW X e t ∧ ST X.K W t m
theorem MW.t (h : MW X W e tc) : MTe X W e tc := let ⟨t, p, s⟩ := h; ⟨t, p.pt, s⟩
theorem t_cmp {op : CmpOp} {r : R2} {g : G2} (ho : OpR X (compareOp op) r) (hg : SR2 X.K r g) (ha : ME X W a ma) (hb : ME X W b mb) (hm : behindInMarks op b = false) : MTe X W (.Compare a [op] [b] pos) (mT (mBin g ma mb)) := by
  obtain ⟨ta, pa, sa⟩ := ha
  obtain ⟨tb, pb, sb⟩ := hb
  exact ⟨_, pt_cmpR ho pa pb hm, st_test (se_bin sa sb hg)⟩
theorem t_val (h : ME X W e m) (he : ∀ whole, isTrue e X.env whole = (do let v ← whole; standAt e.pos; holding [v] (truthy v)) := by intro _; rfl) : MTe X W e (mT m) := by
  obtain ⟨t, p, s⟩ := h
  exact ⟨_, pt_val p he, st_test s⟩
theorem t_tru (h : ME X W e m) (he : ∀ whole, isTrue e X.env whole = (do let v ← whole; standAt e.pos; holding [v] (truthy v)) := by intro _; rfl) : MTe X W e (mTru m) := by
  obtain ⟨t, p, s⟩ := h
  refine ⟨_, pt_truth p he, fun σ H ρ env sto Q hE hS hP => ?_⟩
  refine s σ H ρ env sto _ hE hS ((hP.bind hS).imp fun v s1 H1 ρ1 x1 S1 P1 y hy => ?_)
  cases q : tru s1 v with
  | none => rw [q] at P1; exact P1.elim
  | some c => rw [q] at P1; exact ⟨c, tru_ok' S1 hy q, P1 H1 ρ1 .refl S1⟩
theorem t_eq (hu : X.A.units + 64 < cLine) (ha : ME X W a ma) (hb : ME X W b mb) : MTe X W (.Compare a [.Eq] [b] pos) (mT (mBin gEq ma mb)) := t_cmp (op_eq' hu) g_eq ha hb (nomark _)
theorem t_ne (hu : X.A.units + 64 < cLine) (ha : ME X W a ma) (hb : ME X W b mb) : MTe X W (.Compare a [.NotEq] [b] pos) (mT (mBin gNe ma mb)) := t_cmp (op_ne' hu) g_ne ha hb (nomark _)
theorem t_lt (ha : ME X W a ma) (hb : ME X W b mb) : MTe X W (.Compare a [.Lt] [b] pos) (mT (mBin gLt ma mb)) := t_cmp op_lt (g_I0 fun _ _ _ _ => rfl) ha hb (nomark _)
theorem t_le (ha : ME X W a ma) (hb : ME X W b mb) : MTe X W (.Compare a [.LtE] [b] pos) (mT (mBin gLe ma mb)) := t_cmp op_le (g_I0 fun _ _ _ _ => rfl) ha hb (nomark _)
theorem t_gt (ha : ME X W a ma) (hb : ME X W b mb) : MTe X W (.Compare a [.Gt] [b] pos) (mT (mBin gGt ma mb)) := t_cmp op_gt (g_I0 fun _ _ _ _ => rfl) ha hb (nomark _)
theorem t_ge (ha : ME X W a ma) (hb : ME X W b mb) : MTe X W (.Compare a [.GtE] [b] pos) (mT (mBin gGe ma mb)) := t_cmp op_ge (g_I0 fun _ _ _ _ => rfl) ha hb (nomark _)
theorem t_is (ha : ME X W a ma) (hb : ME X W b mb) : MTe X W (.Compare a [.Is] [b] pos) (mT (mBin (gIs id) ma mb)) := t_cmp op_isN g_is ha hb (nomark _)
theorem t_isnot (ha : ME X W a ma) (hb : ME X W b mb) : MTe X W (.Compare a [.IsNot] [b] pos) (mT (mBin (gIs not) ma mb)) := t_cmp op_notN g_isnot ha hb (nomark _)
theorem w_and1 (h : MTe X W a ta) : MW X W (.BoolOp .And [a] pos) ta := let ⟨t, p, s⟩ := h; ⟨t, pw_and1 p, s⟩
theorem w_or1 (h : MTe X W a ta) : MW X W (.BoolOp .Or [a] pos) ta := let ⟨t, p, s⟩ := h; ⟨t, pw_or1 p, s⟩
theorem w_and (ha : MTe X W a ta) (hb : MW X W (.BoolOp .And (b :: rest) pos) tb) : MW X W (.BoolOp .And (a :: b :: rest) pos) (mAndT ta tb) := by
  obtain ⟨t, p, s⟩ := ha
  obtain ⟨u, q, r⟩ := hb
  refine ⟨_, pw_and p q, fun σ H ρ env sto Q hE hS hP => ?_⟩
  refine s σ H ρ env sto _ hE hS ((hP.bind hS).imp fun c s1 H1 ρ1 x1 S1 P1 => ?_)
  cases c with
  | true => exact r σ H1 ρ1 env s1 Q (hE.mono x1.toExtW) S1 P1
  | false => exact P1 H1 ρ1 .refl S1
theorem w_or (ha : MTe X W a ta) (hb : MW X W (.BoolOp .Or (b :: rest) pos) tb) : MW X W (.BoolOp .Or (a :: b :: rest) pos) (mOrT ta tb) := by
  obtain ⟨t, p, s⟩ := ha
  obtain ⟨u, q, r⟩ := hb
  refine ⟨_, pw_or p q, fun σ H ρ env sto Q hE hS hP => ?_⟩
  refine s σ H ρ env sto _ hE hS ((hP.bind hS).imp fun c s1 H1 ρ1 x1 S1 P1 => ?_)
  cases c with
  | false => exact r σ H1 ρ1 env s1 Q (hE.mono x1.toExtW) S1 P1
  | true => exact P1 H1 ρ1 .refl S1
theorem t_not (ha : MTe X W a ta) : MTe X W (.UnaryOp .Not a pos) (mNotT ta) := by
  obtain ⟨t, p, s⟩ := ha
  refine ⟨_, pt_not p, fun σ H ρ env sto Q hE hS hP => ?_⟩
  exact s σ H ρ env sto _ hE hS ((hP.bind hS).imp fun c s1 H1 ρ1 x1 S1 P1 => P1 H1 ρ1 .refl S1)
theorem e_ifx (hc : MTe X W c tc) (ha : ME X W a ma) (hb : ME X W b mb) : ME X W (.IfExp c a b pos) (mIf tc ma mb) := by
  obtain ⟨t, p, s⟩ := hc
  obtain ⟨ua, qa, ra⟩ := ha
  obtain ⟨ub, qb, rb⟩ := hb
  refine ⟨_, pe_ifExp p qa qb, fun σ H ρ env sto Q hE hS hP => ?_⟩
  refine s σ H ρ env sto _ hE hS ((hP.bind hS).imp fun c s1 H1 ρ1 x1 S1 P1 => ?_)
  cases c with
  | true => exact ra σ H1 ρ1 env s1 Q (hE.mono x1.toExtW) S1 P1
  | false => exact rb σ H1 ρ1 env s1 Q (hE.mono x1.toExtW) S1 P1
theorem e_one {op} (h : ME X W a ma) : ME X W (.BoolOp op [a] pos) ma := let ⟨t, p, s⟩ := h; ⟨t, pe_one p, s⟩
theorem e_and (ha : ME X W a ma) (hb : ME X W (.BoolOp .And (b :: rest) pos) mb) : ME X W (.BoolOp .And (a :: b :: rest) pos) (mAnd ma mb) := by
  obtain ⟨t, p, s⟩ := ha
  obtain ⟨u, q, r⟩ := hb
  refine ⟨_, pe_and p q, fun σ H ρ env sto Q hE hS hP => ?_⟩
  refine s σ H ρ env sto _ hE hS ((hP.bind hS).imp fun v s1 H1 ρ1 x1 S1 P1 y hy => ?_)
  split at P1
  · rename_i c
    cases hy
    refine ⟨c, rfl, ?_⟩
    cases c with
    | true => exact r σ H1 ρ1 env s1 Q (hE.mono x1.toExtW) S1 P1
    | false => exact P1 H1 ρ1 .refl S1 _ rfl
  · exact P1.elim
theorem e_or (ha : ME X W a ma) (hb : ME X W (.BoolOp .Or (b :: rest) pos) mb) : ME X W (.BoolOp .Or (a :: b :: rest) pos) (mOr ma mb) := by
  obtain ⟨t, p, s⟩ := ha
  obtain ⟨u, q, r⟩ := hb
  refine ⟨_, pe_or p q, fun σ H ρ env sto Q hE hS hP => ?_⟩
  refine s σ H ρ env sto _ hE hS ((hP.bind hS).imp fun v s1 H1 ρ1 x1 S1 P1 y hy => ?_)
  split at P1
  · rename_i c
    cases hy
    refine ⟨c, rfl, ?_⟩
    cases c with
    | false => exact r σ H1 ρ1 env s1 Q (hE.mono x1.toExtW) S1 P1
    | true => exact P1 H1 ρ1 .refl S1 _ rfl
  · exact P1.elim
theorem e_not (ha : ME X W a ma) : ME X W (.UnaryOp .Not a pos) (mNot ma) := by
  obtain ⟨t, p, s⟩ := ha
  refine ⟨_, pe_not p, fun σ H ρ env sto Q hE hS hP => ?_⟩
  refine s σ H ρ env sto _ hE hS ((hP.bind hS).imp fun v s1 H1 ρ1 x1 S1 P1 y hy => ?_)
  split at P1
  · cases hy
    exact ⟨_, rfl, P1 H1 ρ1 .refl S1 _ rfl⟩
  · exact P1.elim
theorem e_orV (ha : ME X W a ma) (hb : ME X W (.BoolOp .Or (b :: rest) pos) mb) : ME X W (.BoolOp .Or (a :: b :: rest) pos) (mOrV ma mb) := by
  obtain ⟨t, p, s⟩ := ha
  obtain ⟨u, q, r⟩ := hb
  refine ⟨_, pe_orT p q, fun σ H ρ env sto Q hE hS hP => ?_⟩
  refine s σ H ρ env sto _ hE hS ((hP.bind hS).imp fun v s1 H1 ρ1 x1 S1 P1 y hy => ?_)
  cases k : tru s1 v with
  | none => rw [k] at P1; exact P1.elim
  | some c =>
    rw [k] at P1
    refine ⟨c, tru_ok' S1 hy k, ?_⟩
    cases c with
    | false => exact r σ H1 ρ1 env s1 Q (hE.mono x1.toExtW) S1 P1
    | true => exact P1 H1 ρ1 .refl S1 _ hy

/-! ### calls of built-ins -/
abbrev GC := List PV → Sto → R PV
def mCall (g : GC) (ms : MA) : M := fun env s => (ms env s).bind g
def SRc (K : PySem.W.Frag) (r : List V → Hp → VK → Prop) (g : GC) : Prop := ∀ (WP : XK) (H : Hp) (ρ : Rh) (sto : Sto) (xs : List PV) (vs : List V) (Q : VK),
  RSt K H ρ sto → RVs K H ρ xs vs → Post K WP H ρ (GV K Q) (g xs sto) → r vs H Q
theorem se_call {r : List V → Hp → VK → Prop} {g : GC} {ms : MA} {t : TA} (s : SA X.K W t ms) (hg : SRc X.K r g) : SE X.K W (tCB r t) (mCall g ms) := by
  intro σ H ρ env sto Q hE hS hP
  exact s σ H ρ env sto _ hE hS ((hP.bind hS).imp fun v s1 H1 ρ1 x1 S1 P1 y hy => hg _ H1 ρ1 s1 v y Q S1 hy P1)
variable {x : Str} {id T : String} {p : Pos} {es : List Expr} {r : List V → Hp → VK → Prop} {g : GC} {ms : MA}
theorem e_callB (hc : CallR X (.builtin id) r) (hg : SRc X.K r g) (gl : Gl X x) (hm : X.mg x = none) (hv : bootBuiltins x = some (.builtin id)) (ha : MEs X W (e :: es) ms) (hn : x ≠ "__name__" := by decide) (hdb : (x == ("__debug__" : Str)) = false := by decide)
    (he : starEach (e :: es) X.env = (false, eval e X.env) :: starEach es X.env := by rfl) (hpl : (backTo pos (starEach es X.env)).any (·.1) = false := by rfl) : ME X W (.Call (.Name x p) (e :: es) [] pos) (mCall g ms) := by
  obtain ⟨t, q, s⟩ := ha
  exact ⟨_, pe_callB hc gl hm hv q hn hdb he hpl, se_call s hg⟩
theorem e_callTy (hc : CallR X (.type T) r) (hg : SRc X.K r g) (gl : Gl X x) (hm : X.mg x = none) (hv : bootBuiltins x = some (.type T)) (ha : MEs X W (e :: es) ms) (hn : x ≠ "__name__" := by decide) (hdb : (x == ("__debug__" : Str)) = false := by decide)
    (he : starEach (e :: es) X.env = (false, eval e X.env) :: starEach es X.env := by rfl) (hpl : (backTo pos (starEach es X.env)).any (·.1) = false := by rfl) : ME X W (.Call (.Name x p) (e :: es) [] pos) (mCall g ms) := by
  obtain ⟨t, q, s⟩ := ha
  exact ⟨_, pe_callTy hc gl hm hv q hn hdb he hpl, se_call s hg⟩
theorem e_callBf (hc : CallR X (.builtin id) r) (hg : SRc X.K r g) (gl : Gl X x) (hm : X.mg x = some (.builtin id)) (ha : MEs X W (e :: es) ms) (hdb : (x == ("__debug__" : Str)) = false := by decide)
    (he : starEach (e :: es) X.env = (false, eval e X.env) :: starEach es X.env := by rfl) (hpl : (backTo pos (starEach es X.env)).any (·.1) = false := by rfl) : ME X W (.Call (.Name x p) (e :: es) [] pos) (mCall g ms) := by
  obtain ⟨t, q, s⟩ := ha
  exact ⟨_, pe_callBfun hc gl hm q hdb he hpl, se_call s hg⟩
end
def gLen : GC := fun xs s => match xs with
  | [x] => match getQ s x with
    | some ys => .ok (.int ys.length) s
    | none => .bad
  | _ => .bad
def gAbs : GC := fun xs s => match xs with
  | [.int i] => .ok (.int (if i < 0 then -i else i)) s
  | _ => .bad
def gInt : GC := fun xs s => match xs with
  | [.int i] => .ok (.int i) s
  | [.bl b] => .ok (.int (if b then 1 else 0)) s
  | _ => .bad
def gList (fr : Bool) : GC := fun xs s => match xs with
  | [x] => match getQ s x with
    | some ys => fresh fr ys s
    | none => .bad
  | _ => .bad
def gTuple : GC := fun xs s => match xs with
  | [.tup ys] => .ok (.tup ys) s
  | [x] => match getF s x with
    | some ys => .ok (.tup ys) s
    | none => .bad
  | _ => .bad
def gGcd : GC := fun xs s => match xs with
  | [.int a, .int b] => .ok (.int ((Nat.gcd a.natAbs b.natAbs : Nat) : Int)) s
  | _ => .bad
def intsOf : List PV → Option (List Int)
  | [] => some []
  | .int i :: r => match intsOf r with
    | some is => some (i :: is)
    | none => none
  | _ => none
def boolsOf : List PV → Option (List Bool)
  | [] => some []
  | .bl i :: r => match boolsOf r with
    | some is => some (i :: is)
    | none => none
  | _ => none
section
variable {K : PySem.W.Frag} {H : Hp} {ρ : Rh} {sto : Sto}
theorem RVs.one {x : PV} {vs : List V} (r : RVs K H ρ [x] vs) : ∃ v, vs = [v] ∧ RV K H ρ x v := by
  obtain ⟨v, ws, rfl, h, t⟩ := r
  cases t
  exact ⟨v, rfl, h⟩
theorem RVs.two {x y : PV} {vs : List V} (r : RVs K H ρ [x, y] vs) : ∃ v u, vs = [v, u] ∧ RV K H ρ x v ∧ RV K H ρ y u := by
  obtain ⟨v, ws, rfl, h, t⟩ := r
  obtain ⟨u, rfl, h2⟩ := RVs.one t
  exact ⟨v, u, rfl, h, h2⟩
theorem intsOf_ok : ∀ (xs : List PV) {vs : List V} {is : List Int}, RVs K H ρ xs vs → intsOf xs = some is → vs = is.map V.int
  | [], _, _, r, h => by cases r; cases h; rfl
  | x :: xs, vs, is, r, h => by
    obtain ⟨v, ws, rfl, h2, h3⟩ := r
    cases x with
    | int i =>
      have h : (match intsOf xs with | some is => some (i :: is) | none => none) = some is := h
      cases e : intsOf xs with
      | none => rw [e] at h; cases h
      | some js => rw [e] at h; cases h; rw [intsOf_ok xs h3 e]; cases h2; rfl
    | _ => exact nomatch (show (none : Option (List Int)) = some is from h)
theorem boolsOf_ok : ∀ (xs : List PV) {vs : List V} {is : List Bool}, RVs K H ρ xs vs → boolsOf xs = some is → vs = is.map V.bl
  | [], _, _, r, h => by cases r; cases h; rfl
  | x :: xs, vs, is, r, h => by
    obtain ⟨v, ws, rfl, h2, h3⟩ := r
    cases x with
    | bl i =>
      have h : (match boolsOf xs with | some is => some (i :: is) | none => none) = some is := h
      cases e : boolsOf xs with
      | none => rw [e] at h; cases h
      | some js => rw [e] at h; cases h; rw [boolsOf_ok xs h3 e]; cases h2; rfl
    | _ => exact nomatch (show (none : Option (List Bool)) = some is from h)
theorem g_len : SRc K (fun xs H Q => ∃ p ys, xs = [.ref p] ∧ (SqL K H p ys ∨ SqT K H p ys) ∧ Q (.int ys.length) H) gLen := by
  intro WP H ρ sto xs vs Q S r P
  unfold gLen at P
  split at P
  · obtain ⟨v, rfl, rv⟩ := r.one
    split at P
    · rename_i ys e
      obtain ⟨a, zs, rfl, h1, h2⟩ := getQ_ok S rv e
      exact ⟨a, zs, rfl, h1, by rw [← h2.length]; exact now S P rfl⟩
    · exact P.elim
  · exact P.elim
theorem g_abs : SRc K (fun xs H Q => ∃ i, xs = [.int i] ∧ Q (.int (if i < 0 then -i else i)) H) gAbs := by
  intro WP H ρ sto xs vs Q S r P
  unfold gAbs at P
  split at P
  · obtain ⟨v, rfl, rv⟩ := r.one
    cases rv
    exact ⟨_, rfl, now S P rfl⟩
  · exact P.elim
theorem g_int : SRc K (fun xs H Q => (∃ i, xs = [.int i] ∧ Q (.int i) H) ∨ ∃ k, xs = [.bl k] ∧ Q (.int (if k then 1 else 0)) H) gInt := by
  intro WP H ρ sto xs vs Q S r P
  unfold gInt at P
  split at P
  · obtain ⟨v, rfl, rv⟩ := r.one
    cases rv
    exact .inl ⟨_, rfl, now S P rfl⟩
  · obtain ⟨v, rfl, rv⟩ := r.one
    cases rv
    exact .inr ⟨_, rfl, now S P rfl⟩
  · exact P.elim
theorem g_list {fr : Bool} : SRc K (fun xs H Q => ∃ p ys, xs = [.ref p] ∧ (SqL K H p ys ∨ SqT K H p ys) ∧ ∀ l, H l = none → Q (.ref l) (upd H l (.lst ys))) (gList fr) := by
  intro WP H ρ sto xs vs Q S r P
  unfold gList at P
  split at P
  · obtain ⟨v, rfl, rv⟩ := r.one
    split at P
    · rename_i ys e
      obtain ⟨a, zs, rfl, h1, h2⟩ := getQ_ok S rv e
      exact ⟨a, zs, rfl, h1, fun l hl => fresh_ok S h2 P hl⟩
    · exact P.elim
  · exact P.elim
theorem g_tuple : SRc K (fun xs H Q => ∃ p ys, xs = [.ref p] ∧ ((SqL K H p ys ∧ ∀ l, H l = none → Q (.ref l) (upd H l (.tup ys))) ∨ (SqT K H p ys ∧ Q (.ref p) H))) gTuple := by
  intro WP H ρ sto xs vs Q S r P
  unfold gTuple at P
  split at P
  · obtain ⟨v, rfl, rv⟩ := r.one
    obtain ⟨a, zs, rfl, h1, h2⟩ := getT_ok rv rfl
    exact ⟨a, zs, rfl, .inr ⟨h1, now S P rv⟩⟩
  · obtain ⟨v, rfl, rv⟩ := r.one
    split at P
    · rename_i ys e
      obtain ⟨a, zs, rfl, h1, h2⟩ := getF_ok S rv e
      exact ⟨a, zs, rfl, .inl ⟨h1, fun l hl => tup_ok S h2 P hl⟩⟩
    · exact P.elim
  · exact P.elim
theorem g_gcd : SRc K rGcd gGcd := by
  intro WP H ρ sto xs vs Q S r P
  unfold gGcd at P
  split at P
  · obtain ⟨v, u, rfl, h1, h2⟩ := r.two
    cases h1; cases h2
    exact ⟨_, _, rfl, now S P rfl⟩
  · exact P.elim
end
def gSum : GC := fun xs s => match xs with
  | [x] => match getF s x with
    | some ys => match intsOf ys with
      | some is => .ok (.int is.sum) s
      | none => .bad
    | none => .bad
  | _ => .bad
def gAll : GC := fun xs s => match xs with
  | [x] => match getF s x with
    | some ys => match boolsOf ys with
      | some is => .ok (.bl (is.all id)) s
      | none => .bad
    | none => .bad
  | _ => .bad
def gAny : GC := fun xs s => match xs with
  | [x] => match getF s x with
    | some ys => match boolsOf ys with
      | some is => .ok (.bl (is.any id)) s
      | none => .bad
    | none => .bad
  | _ => .bad
def imax : Int → List Int → Int
  | m, [] => m
  | m, x :: r => imax (if m < x then x else m) r
def imin : Int → List Int → Int
  | m, [] => m
  | m, x :: r => imin (if x < m then x else m) r
theorem imax_ok : ∀ (r : List Int) (m : Int), (imax m r = m ∨ imax m r ∈ r) ∧ m ≤ imax m r ∧ ∀ y ∈ r, y ≤ imax m r
  | [], m => ⟨.inl rfl, Int.le_refl m, fun _ h => by cases h⟩
  | x :: r, m => by
    obtain ⟨h1, h2, h3⟩ := imax_ok r (if m < x then x else m)
    unfold imax
    by_cases q : m < x
    · rw [if_pos q] at h1 h2 h3 ⊢
      refine ⟨.inr ?_, by omega, fun y hy => ?_⟩
      · rcases h1 with e | e
        · rw [e]; exact List.mem_cons_self
        · exact List.mem_cons_of_mem _ e
      · rcases List.mem_cons.mp hy with rfl | hy
        · exact h2
        · exact h3 y hy
    · rw [if_neg q] at h1 h2 h3 ⊢
      refine ⟨?_, h2, fun y hy => ?_⟩
      · rcases h1 with e | e
        · exact .inl e
        · exact .inr (List.mem_cons_of_mem _ e)
      · rcases List.mem_cons.mp hy with rfl | hy
        · omega
        · exact h3 y hy
theorem imin_ok : ∀ (r : List Int) (m : Int), (imin m r = m ∨ imin m r ∈ r) ∧ imin m r ≤ m ∧ ∀ y ∈ r, imin m r ≤ y
  | [], m => ⟨.inl rfl, Int.le_refl m, fun _ h => by cases h⟩
  | x :: r, m => by
    obtain ⟨h1, h2, h3⟩ := imin_ok r (if x < m then x else m)
    unfold imin
    by_cases q : x < m
    · rw [if_pos q] at h1 h2 h3 ⊢
      refine ⟨.inr ?_, by omega, fun y hy => ?_⟩
      · rcases h1 with e | e
        · rw [e]; exact List.mem_cons_self
        · exact List.mem_cons_of_mem _ e
      · rcases List.mem_cons.mp hy with rfl | hy
        · exact h2
        · exact h3 y hy
    · rw [if_neg q] at h1 h2 h3 ⊢
      refine ⟨?_, h2, fun y hy => ?_⟩
      · rcases h1 with e | e
        · exact .inl e
        · exact .inr (List.mem_cons_of_mem _ e)
      · rcases List.mem_cons.mp hy with rfl | hy
        · omega
        · exact h3 y hy
def gMax : GC := fun xs s => match xs with
  | [.int i, .int j] => .ok (.int (if j > i then j else i)) s
  | [x] => match getF s x with
    | some ys => match intsOf ys with
      | some (i :: is) => .ok (.int (imax i is)) s
      | _ => .bad
    | none => .bad
  | _ => .bad
def gMin : GC := fun xs s => match xs with
  | [.int i, .int j] => .ok (.int (if j < i then j else i)) s
  | [x] => match getF s x with
    | some ys => match intsOf ys with
      | some (i :: is) => .ok (.int (imin i is)) s
      | _ => .bad
    | none => .bad
  | _ => .bad
theorem CallR.or {X : Cx} {f : Value} {r r' : List V → Hp → VK → Prop} (h : CallR X f r) (h' : CallR X f r') : CallR X f (fun vs H Q => r vs H Q ∨ r' vs H Q) := by
  intro pins s σ H xs us Q I rv q
  rcases q with q | q
  · exact h pins s σ H xs us Q I rv q
  · exact h' pins s σ H xs us Q I rv q
section
variable {K : PySem.W.Frag}
theorem g_sum : SRc K (rSum K) gSum := by
  intro WP H ρ sto xs vs Q S r P
  unfold gSum at P
  split at P
  · obtain ⟨v, rfl, rv⟩ := r.one
    split at P
    · rename_i ys e
      obtain ⟨a, zs, rfl, h1, h2⟩ := getF_ok S rv e
      split at P
      · rename_i is e2
        exact ⟨a, is, rfl, by rw [← intsOf_ok _ h2 e2]; exact h1, now S P rfl⟩
      · exact P.elim
    · exact P.elim
  · exact P.elim
theorem g_all : SRc K (rAll K) gAll := by
  intro WP H ρ sto xs vs Q S r P
  unfold gAll at P
  split at P
  · obtain ⟨v, rfl, rv⟩ := r.one
    split at P
    · rename_i ys e
      obtain ⟨a, zs, rfl, h1, h2⟩ := getF_ok S rv e
      split at P
      · rename_i is e2
        exact ⟨a, is, rfl, by rw [← boolsOf_ok _ h2 e2]; exact h1, now S P rfl⟩
      · exact P.elim
    · exact P.elim
  · exact P.elim
theorem g_any : SRc K (rAny K) gAny := by
  intro WP H ρ sto xs vs Q S r P
  unfold gAny at P
  split at P
  · obtain ⟨v, rfl, rv⟩ := r.one
    split at P
    · rename_i ys e
      obtain ⟨a, zs, rfl, h1, h2⟩ := getF_ok S rv e
      split at P
      · rename_i is e2
        exact ⟨a, is, rfl, by rw [← boolsOf_ok _ h2 e2]; exact h1, now S P rfl⟩
      · exact P.elim
    · exact P.elim
  · exact P.elim
theorem g_max : SRc K (fun xs H Q => (∃ i j, xs = [.int i, .int j] ∧ Q (.int (if j > i then j else i)) H) ∨ rMax K xs H Q) gMax := by
  intro WP H ρ sto xs vs Q S r P
  unfold gMax at P
  split at P
  · obtain ⟨v, u, rfl, h1, h2⟩ := r.two
    cases h1; cases h2
    exact .inl ⟨_, _, rfl, now S P rfl⟩
  · obtain ⟨v, rfl, rv⟩ := r.one
    split at P
    · rename_i ys e
      obtain ⟨a, zs, rfl, h1, h2⟩ := getF_ok S rv e
      split at P
      · rename_i i is e2
        refine .inr ⟨a, i :: is, rfl, by rw [← intsOf_ok _ h2 e2]; exact h1, by simp, fun m hm hy => ?_⟩
        obtain ⟨k1, k2, k3⟩ := imax_ok is i
        have : m = imax i is := by
          have a1 : imax i is ≤ m := by
            rcases k1 with k | k
            · rw [k]; exact hy i List.mem_cons_self
            · exact hy _ (List.mem_cons_of_mem _ k)
          have a2 : m ≤ imax i is := by
            rcases List.mem_cons.mp hm with rfl | hm
            · exact k2
            · exact k3 m hm
          omega
        rw [this]
        exact now S P rfl
      · exact P.elim
    · exact P.elim
  · exact P.elim
theorem g_min : SRc K (fun xs H Q => (∃ i j, xs = [.int i, .int j] ∧ Q (.int (if j < i then j else i)) H) ∨ rMin K xs H Q) gMin := by
  intro WP H ρ sto xs vs Q S r P
  unfold gMin at P
  split at P
  · obtain ⟨v, u, rfl, h1, h2⟩ := r.two
    cases h1; cases h2
    exact .inl ⟨_, _, rfl, now S P rfl⟩
  · obtain ⟨v, rfl, rv⟩ := r.one
    split at P
    · rename_i ys e
      obtain ⟨a, zs, rfl, h1, h2⟩ := getF_ok S rv e
      split at P
      · rename_i i is e2
        refine .inr ⟨a, i :: is, rfl, by rw [← intsOf_ok _ h2 e2]; exact h1, by simp, fun m hm hy => ?_⟩
        obtain ⟨k1, k2, k3⟩ := imin_ok is i
        have : m = imin i is := by
          have a1 : m ≤ imin i is := by
            rcases k1 with k | k
            · rw [k]; exact hy i List.mem_cons_self
            · exact hy _ (List.mem_cons_of_mem _ k)
          have a2 : imin i is ≤ m := by
            rcases List.mem_cons.mp hm with rfl | hm
            · exact k2
            · exact k3 m hm
          omega
        rw [this]
        exact now S P rfl
      · exact P.elim
    · exact P.elim
  · exact P.elim
end
section
variable {X : Cx} {W : WK} {a b c e : Expr} {pos : Pos} {p : Pos} {es : List Expr} {ms : MA}
theorem e_len (gl : Gl X "len") (hm : X.mg "len" = none) (ha : MEs X W (e :: es) ms) (he : starEach (e :: es) X.env = (false, eval e X.env) :: starEach es X.env := by rfl) (hpl : (backTo pos (starEach es X.env)).any (·.1) = false := by rfl) :
    ME X W (.Call (.Name "len" p) (e :: es) [] pos) (mCall gLen ms) := e_callB call_len_seq g_len gl hm PySem.boot_len ha (by decide) (by decide) he hpl
theorem e_abs (gl : Gl X "abs") (hm : X.mg "abs" = none) (ha : MEs X W (e :: es) ms) (he : starEach (e :: es) X.env = (false, eval e X.env) :: starEach es X.env := by rfl) (hpl : (backTo pos (starEach es X.env)).any (·.1) = false := by rfl) :
    ME X W (.Call (.Name "abs" p) (e :: es) [] pos) (mCall gAbs ms) := e_callB call_abs g_abs gl hm (by decide +kernel) ha (by decide) (by decide) he hpl
theorem e_sum (hc : X.calm = true) (gl : Gl X "sum") (hm : X.mg "sum" = none) (ha : MEs X W (e :: es) ms) (he : starEach (e :: es) X.env = (false, eval e X.env) :: starEach es X.env := by rfl) (hpl : (backTo pos (starEach es X.env)).any (·.1) = false := by rfl) :
    ME X W (.Call (.Name "sum" p) (e :: es) [] pos) (mCall gSum ms) := e_callB (cr_sum hc) g_sum gl hm (by decide +kernel) ha (by decide) (by decide) he hpl
theorem e_all (hc : X.calm = true) (gl : Gl X "all") (hm : X.mg "all" = none) (ha : MEs X W (e :: es) ms) (he : starEach (e :: es) X.env = (false, eval e X.env) :: starEach es X.env := by rfl) (hpl : (backTo pos (starEach es X.env)).any (·.1) = false := by rfl) :
    ME X W (.Call (.Name "all" p) (e :: es) [] pos) (mCall gAll ms) := e_callB (cr_all hc) g_all gl hm (by decide +kernel) ha (by decide) (by decide) he hpl
theorem e_any (hc : X.calm = true) (gl : Gl X "any") (hm : X.mg "any" = none) (ha : MEs X W (e :: es) ms) (he : starEach (e :: es) X.env = (false, eval e X.env) :: starEach es X.env := by rfl) (hpl : (backTo pos (starEach es X.env)).any (·.1) = false := by rfl) :
    ME X W (.Call (.Name "any" p) (e :: es) [] pos) (mCall gAny ms) := e_callB (cr_any hc) g_any gl hm (by decide +kernel) ha (by decide) (by decide) he hpl
theorem e_max (hc : X.calm = true) (gl : Gl X "max") (hm : X.mg "max" = none) (ha : MEs X W (e :: es) ms) (he : starEach (e :: es) X.env = (false, eval e X.env) :: starEach es X.env := by rfl) (hpl : (backTo pos (starEach es X.env)).any (·.1) = false := by rfl) :
    ME X W (.Call (.Name "max" p) (e :: es) [] pos) (mCall gMax ms) := e_callB (.or (call_max2 hc) (cr_max hc)) g_max gl hm (by decide +kernel) ha (by decide) (by decide) he hpl
theorem e_min (hc : X.calm = true) (gl : Gl X "min") (hm : X.mg "min" = none) (ha : MEs X W (e :: es) ms) (he : starEach (e :: es) X.env = (false, eval e X.env) :: starEach es X.env := by rfl) (hpl : (backTo pos (starEach es X.env)).any (·.1) = false := by rfl) :
    ME X W (.Call (.Name "min" p) (e :: es) [] pos) (mCall gMin ms) := e_callB (.or (call_min2 hc) (cr_min hc)) g_min gl hm (by decide +kernel) ha (by decide) (by decide) he hpl
theorem e_intc (gl : Gl X "int") (hm : X.mg "int" = none) (ha : MEs X W (e :: es) ms) (he : starEach (e :: es) X.env = (false, eval e X.env) :: starEach es X.env := by rfl) (hpl : (backTo pos (starEach es X.env)).any (·.1) = false := by rfl) :
    ME X W (.Call (.Name "int" p) (e :: es) [] pos) (mCall gInt ms) := e_callTy call_int1 g_int gl hm (by decide +kernel) ha (by decide) (by decide) he hpl
theorem e_list {fr : Bool} (gl : Gl X "list") (hm : X.mg "list" = none) (ha : MEs X W (e :: es) ms) (he : starEach (e :: es) X.env = (false, eval e X.env) :: starEach es X.env := by rfl) (hpl : (backTo pos (starEach es X.env)).any (·.1) = false := by rfl) :
    ME X W (.Call (.Name "list" p) (e :: es) [] pos) (mCall (gList fr) ms) := e_callTy call_list_of g_list gl hm (by decide +kernel) ha (by decide) (by decide) he hpl
theorem e_tuple (gl : Gl X "tuple") (hm : X.mg "tuple" = none) (ha : MEs X W (e :: es) ms) (he : starEach (e :: es) X.env = (false, eval e X.env) :: starEach es X.env := by rfl) (hpl : (backTo pos (starEach es X.env)).any (·.1) = false := by rfl) :
    ME X W (.Call (.Name "tuple" p) (e :: es) [] pos) (mCall gTuple ms) := e_callTy call_tuple_of g_tuple gl hm (by decide +kernel) ha (by decide) (by decide) he hpl
theorem e_gcd (gl : Gl X "gcd") (hm : X.mg "gcd" = some (.builtin "math.gcd")) (ha : MEs X W (e :: es) ms) (he : starEach (e :: es) X.env = (false, eval e X.env) :: starEach es X.env := by rfl) (hpl : (backTo pos (starEach es X.env)).any (·.1) = false := by rfl) :
    ME X W (.Call (.Name "gcd" p) (e :: es) [] pos) (mCall gGcd ms) := e_callBf cr_gcd g_gcd gl hm ha (by decide) he hpl
end
end Mi

noncomputable section
namespace Mi
open PySem PySem.Spec PyProof.Rows L2

/-! ### isinstance of built-in types -/
inductive Ty where
  | non | bool | int | str | tuple | list
  deriving DecidableEq
def Ty.nm : Ty → String
  | .non => "NoneType" | .bool => "bool" | .int => "int" | .str => "str" | .tuple => "tuple" | .list => "list"
def tyB : Option Bx → Option Ty
  | some (.l _) => some .list
  | _ => none
def tyOf (s : Sto) : PV → Option Ty
  | .non => some .non | .bl _ => some .bool | .int _ => some .int | .str _ => some .str | .tup _ => some .tuple
  | .lst _ => some .list | .fro _ => some .list | .box n => tyB s[n]?
  | _ => none
def subT : Ty → Ty → Bool
  | .non, .non => true | .bool, .bool => true | .bool, .int => true | .int, .int => true | .str, .str => true | .tuple, .tuple => true | .list, .list => true
  | _, _ => false
theorem subT_ok {K : PySem.W.Frag} (a c : Ty) (hc : c ≠ .non) : PySem.W.kitOne K (.type a.nm) (.type c.nm) = some (subT a c) := by
  cases a <;> cases c <;> first | exact absurd rfl hc | exact kit_ty (by decide +kernel)
def anyT (a : Ty) : List Ty → Bool
  | [] => false
  | c :: cs => bif subT a c then true else anyT a cs
theorem anyT_ok {K : PySem.W.Frag} (a : Ty) : ∀ (cs : List Ty), (∀ c ∈ cs, c ≠ .non) → PySem.W.kitAny K (.type a.nm) (cs.map fun c => Value.type c.nm) = some (anyT a cs)
  | [], _ => rfl
  | c :: cs, h => by
    refine kitAny_cons (subT_ok a c (h c List.mem_cons_self)) (fun e => ?_) fun e => ?_
    · unfold anyT; rw [e]; exact anyT_ok a cs fun d hd => h d (List.mem_cons_of_mem _ hd)
    · unfold anyT; rw [e]; rfl
theorem tyOf_ok {K : PySem.W.Frag} {H : Hp} {ρ : Rh} {sto : Sto} (S : RSt K H ρ sto) : ∀ {x : PV} {v : V} {t : Ty}, RV K H ρ x v → tyOf sto x = some t → TyX K H v (.type t.nm)
  | .non, _, _, r, h => by cases r; cases h; exact .base .non
  | .bl b, _, _, r, h => by cases r; cases h; exact .base (.bl b)
  | .int b, _, _, r, h => by cases r; cases h; exact .base (.int b)
  | .str b, _, _, r, h => by cases r; cases h; exact .base (.str b)
  | .tup xs, _, _, r, h => by
    obtain ⟨a, ys, rfl, h2, h3⟩ := r
    cases h
    rcases h2 with ⟨h2, _⟩ | h2
    · exact .base (.tup h2)
    · rcases h2 with h2 | ⟨o, its, n, hk, hc, _⟩
      · rcases h2 with h2 | ⟨_, h2⟩ <;> cases h2
      · exact .kTuple hk hc
  | .lst xs, _, _, r, h => by
    obtain ⟨a, ys, rfl, h2, h3⟩ := r
    cases h
    exact .base (.lst h2.1)
  | .fro xs, _, _, r, h => by
    obtain ⟨a, ys, rfl, h2, h3⟩ := r
    cases h
    rcases h2 with ⟨h2, _⟩ | h2
    · rcases h2 with h2 | ⟨o, h2⟩
      · exact .base (.lst h2)
      · exact .base (.frz h2)
    · rcases h2 with h2 | ⟨o, its, n, hk, hc, _⟩
      · rcases h2 with h2 | ⟨_, h2⟩ <;> cases h2
      · exact .kList hk hc
  | .box n, _, t, r, h => by
    obtain ⟨a, rfl, h2⟩ := r
    have h : tyB sto[n]? = some t := h
    cases e : sto[n]? with
    | none => rw [e] at h; cases h
    | some b =>
      rw [e] at h
      have h1 := S.at_ n a b h2 e
      cases b with
      | l xs => cases h; obtain ⟨ys, h3, _⟩ := h1; exact .base (.lst h3)
      | _ => cases h
  | .ty _, _, _, _, h => by cases h
  | .obj _, _, _, _, h => by cases h
  | .fn _, _, _, _, h => by cases h
  | .cat _ _ _ _, _, _, _, h => by cases h
  | .exc _ _ _, _, _, _, h => by cases h
def mIsi (cs : List Ty) (m : M) : M := fun env s => (m env s).bind fun v s1 => match tyOf s1 v with
  | some t => .ok (.bl (anyT t cs)) s1
  | none => .bad
section
variable {X : Cx} {W : WK} {a b c e : Expr} {m ma mb : M} {pos p p2 p3 : Pos}
theorem nonT (T : Ty) (h : T ≠ .non) : ∀ c ∈ [T], c ≠ Ty.non := fun c hc => by rw [List.mem_singleton.mp hc]; exact h
/-- isinstance(e, T) -/
theorem e_isi {y : Str} (T : Ty) (hT : T ≠ .non) (gl : Gl X "isinstance") (hm : X.mg "isinstance" = none) (gy : Gl X y) (my : X.mg y = none) (by_ : bootBuiltins y = some (.type T.nm)) (ha : ME X W e m)
    (hn : y ≠ "__name__" := by decide) (hd : (y == ("__debug__" : Str)) = false := by decide)
    (he : starEach [e, .Name y p2] X.env = (false, eval e X.env) :: starEach [.Name y p2] X.env := by rfl) (he2 : starEach [.Name y p2] X.env = (false, eval (.Name y p2) X.env) :: starEach [] X.env := by rfl) (hpl : (backTo pos (starEach [.Name y p2] X.env)).any (·.1) = false := by rfl) :
    ME X W (.Call (.Name "isinstance" p) [e, .Name y p2] [] pos) (mIsi [T] m) := by
  obtain ⟨t, q, s⟩ := ha
  refine ⟨_, pe_callB call_isi gl hm (by decide +kernel) (pa_cons q (pa_cons (pe_bltn (v := .ty T.nm) gy my by_ rfl hn hd) pa_nil he2) he) (by decide) (by decide) he hpl, fun σ H ρ env sto Q hE hS hP => ?_⟩
  refine s σ H ρ env sto _ hE hS ((hP.bind hS).imp fun v s1 H1 ρ1 x1 S1 P1 y hy => ?_)
  cases k : tyOf s1 v with
  | none => rw [k] at P1; exact P1.elim
  | some t =>
    rw [k] at P1
    refine ⟨y, .ty T.nm, _, _, anyT t [T], rfl, .ty _, tyOf_ok S1 hy k, ?_, P1 H1 ρ1 .refl S1 _ rfl⟩
    rw [subT_ok t T hT]
    unfold anyT anyT
    cases subT t T <;> rfl
/-- isinstance(e, (T, U)) -/
theorem e_isi2 {y z : Str} {x1 : Nat} {p4 : Pos} (T U : Ty) (hT : T ≠ .non) (hU : U ≠ .non) (gl : Gl X "isinstance") (hm : X.mg "isinstance" = none) (gy : Gl X y) (my : X.mg y = none) (by_ : bootBuiltins y = some (.type T.nm))
    (gz : Gl X z) (mz : X.mg z = none) (bz : bootBuiltins z = some (.type U.nm)) (ha : ME X W e m)
    (hn : y ≠ "__name__" := by decide) (hd : (y == ("__debug__" : Str)) = false := by decide) (hn2 : z ≠ "__name__" := by decide) (hd2 : (z == ("__debug__" : Str)) = false := by decide)
    (he : starEach [e, .Tuple [.Name y p2, .Name z p3] x1 p4] X.env = (false, eval e X.env) :: starEach [.Tuple [.Name y p2, .Name z p3] x1 p4] X.env := by rfl)
    (he2 : starEach [.Tuple [.Name y p2, .Name z p3] x1 p4] X.env = (false, eval (.Tuple [.Name y p2, .Name z p3] x1 p4) X.env) :: starEach [] X.env := by rfl) (hpl : (backTo pos (starEach [.Tuple [.Name y p2, .Name z p3] x1 p4] X.env)).any (·.1) = false := by rfl)
    (h1 : starEach [.Name y p2, .Name z p3] X.env = (false, eval (.Name y p2) X.env) :: starEach [.Name z p3] X.env := by rfl) (h2 : starEach [.Name z p3] X.env = (false, eval (.Name z p3) X.env) :: starEach [] X.env := by rfl) :
    ME X W (.Call (.Name "isinstance" p) [e, .Tuple [.Name y p2, .Name z p3] x1 p4] [] pos) (mIsi [T, U] m) := by
  obtain ⟨t, q, s⟩ := ha
  refine ⟨_, pe_callB call_isiT gl hm (by decide +kernel) (pa_cons q (pa_cons (pe_tup (pa_cons (pe_bltn (v := .ty T.nm) gy my by_ rfl hn hd) (pa_cons (pe_bltn (v := .ty U.nm) gz mz bz rfl hn2 hd2) pa_nil h2) h1)) pa_nil he2) he) (by decide) (by decide) he hpl, fun σ H ρ env sto Q hE hS hP => ?_⟩
  refine s σ H ρ env sto _ hE hS ((hP.bind hS).imp fun v s1 H1 ρ1 x1 S1 P1 y hy => ?_)
  refine ⟨by show 2 ≤ sizeLine; decide, fun tp htp => ?_⟩
  cases k : tyOf s1 v with
  | none => rw [k] at P1; exact P1.elim
  | some t =>
    rw [k] at P1
    have hx := S1.ext (o := .tup [.ty T.nm, .ty U.nm]) htp
    refine ⟨y, tp, _, _, [.type T.nm, .type U.nm], anyT t [T, U], rfl, upd_same, .cons (.ty _) (.cons (.ty _) .nil), tyOf_ok (S1.new htp) (hy.mono hx.toExtW) k, anyT_ok t [T, U] fun c hc => ?_, P1 _ ρ1 hx (S1.new htp) _ rfl⟩
    rcases List.mem_cons.mp hc with rfl | hc
    · exact hT
    · rw [List.mem_singleton.mp hc]; exact hU
end

/-! ### subscripts -/
def atC {α : Type} (xs : List α) (i : Int) : Option α := match ixN xs.length i with
  | some j => nthC xs j
  | none => none
theorem atC_eq {α : Type} (xs : List α) (i : Int) : atC xs i = atI xs i := by
  unfold atC atI
  cases ixN xs.length i with
  | none => rfl
  | some j => exact nthC_eq xs j
def gIx : G2 := fun x y s => match y with
  | .int i => match getQ s x with
    | some xs => match atC xs i with
      | some v => .ok v s
      | none => .bad
    | none => .bad
  | _ => .bad
theorem IxR.or {X : Cx} {r r' : R2} (h : IxR X r) (h' : IxR X r') : IxR X (fun x y H Q => r x y H Q ∨ r' x y H Q) := by
  intro value slice pins s σ H x y v u Q I rx ry q e
  rcases q with q | q
  · exact h value slice pins s σ H x y v u Q I rx ry q e
  · exact h' value slice pins s σ H x y v u Q I rx ry q e
section
variable {K : PySem.W.Frag} {H : Hp} {ρ : Rh} {sto : Sto}
theorem atI_ok {xs : List PV} {ys : List V} {i : Int} {x : PV} (r : RVs K H ρ xs ys) (h : atI xs i = some x) : ∃ y, atI ys i = some y ∧ RV K H ρ x y := by
  unfold atI at h ⊢
  rw [← r.length]
  cases e : ixN xs.length i with
  | none => rw [e] at h; cases h
  | some j =>
    rw [e] at h
    exact r.get h
theorem g_ix : SR2 K (fun x y H Q => rIxL K x y H Q ∨ rIxT K x y H Q) gIx := by
  intro WP H ρ sto x y v u Q S rx ry P
  unfold gIx at P
  simp only [atC_eq] at P
  split at P
  · rename_i i
    cases ry
    split at P
    · rename_i xs e
      split at P
      · rename_i z e2
        obtain ⟨a, ys, rfl, h1, h2⟩ := getQ_ok S rx e
        obtain ⟨w, h3, h4⟩ := atI_ok h2 e2
        rcases h1 with h1 | h1
        · exact .inl ⟨a, ys, i, w, rfl, rfl, h1, h3, now S P h4⟩
        · exact .inr ⟨a, ys, i, w, rfl, rfl, h1, h3, now S P h4⟩
      · exact P.elim
    · exact P.elim
  · exact P.elim
end
def cutP (xs : List PV) (lo hi : Option Int) : List PV := (xs.drop (HT.sIx xs.length 0 lo)).take (HT.sIx xs.length xs.length hi - HT.sIx xs.length 0 lo)
abbrev MP := Env → Sto → R (Option Int)
def mPN : MP := fun _ s => .ok none s
def mPS (m : M) : MP := fun env s => (m env s).bind fun v s1 => match v with
  | .int i => .ok (some i) s1
  | _ => .bad
def mSl (fr : Bool) (m : M) (lo hi : MP) : M := fun env s => (m env s).bind fun x s1 => (lo env s1).bind fun l s2 => (hi env s2).bind fun u s3 => match x with
  | .tup xs => .ok (.tup (cutP xs l u)) s3
  | x => match getF s3 x with
    | some xs => fresh fr (cutP xs l u) s3
    | none => .bad
def SP' (K : PySem.W.Frag) (W : WK) (t : TO) (m : MP) : Prop := ∀ (σ : L2.St) (H : Hp) (ρ : Rh) (env : Env) (sto : Sto) (Q : Option Int → Hp → Prop),
  REnv K H ρ env σ → RSt K H ρ sto → Post K (fun c d h => W c d σ h) H ρ (fun v _ H' _ => Q v H') (m env sto) → t σ H Q
def MPo (X : Cx) (W : WK) (e : Option Expr) (m : MP) : Prop := ∃ t, PO X e t ∧ SP' X.K W t m
section
variable {K : PySem.W.Frag} {H : Hp} {ρ : Rh} {sto : Sto}
theorem cut_ok {xs : List PV} {ys : List V} (r : RVs K H ρ xs ys) (lo hi : Option Int) : RVs K H ρ (cutP xs lo hi) (cutV ys lo hi) := by
  unfold cutP cutV
  rw [← r.length]
  exact (r.drop _).take _
end
section
variable {X : Cx} {W : WK} {a b c e : Expr} {m ma mb : M} {pos p p2 p3 : Pos}
theorem e_ix (ha : ME X W a ma) (hb : ME X W b mb) (hs : PlainIx b := by exact fun _ _ => rfl) : ME X W (.Subscript a b pos) (mBin gIx ma mb) := by
  obtain ⟨ta, pa, sa⟩ := ha
  obtain ⟨tb, pb, sb⟩ := hb
  exact ⟨_, pe_ix (.or ix_list ix_tup) pa pb hs, se_bin sa sb g_ix⟩
theorem p_none : MPo X W none mPN := ⟨_, po_none, fun _ H ρ _ _ _ _ hS hP => hP H ρ .refl hS⟩
theorem p_some (h : ME X W e m) : MPo X W (some e) (mPS m) := by
  obtain ⟨t, q, s⟩ := h
  refine ⟨_, po_some q, fun σ H ρ env sto Q hE hS hP => ?_⟩
  refine s σ H ρ env sto _ hE hS ((hP.bind hS).imp fun v s1 H1 ρ1 x1 S1 P1 y hy => ?_)
  split at P1
  · cases hy
    exact ⟨_, rfl, P1 H1 ρ1 .refl S1⟩
  · exact P1.elim
theorem e_sl {fr : Bool} {lo hi : Option Expr} {ml mh : MP} (h : ME X W e m) (hl : MPo X W lo ml) (hh : MPo X W hi mh) : ME X W (.Subscript e (.Slice lo hi none p2) pos) (mSl fr m ml mh) := by
  obtain ⟨t, q, s⟩ := h
  obtain ⟨tl, ql, sl⟩ := hl
  obtain ⟨th, qh, sh⟩ := hh
  refine ⟨_, pe_slice (SlR.or sl_list sl_tupA) q ql qh, fun σ H ρ env sto Q hE hS hP => ?_⟩
  refine s σ H ρ env sto _ hE hS ((hP.bind hS).imp fun v s1 H1 ρ1 x1 S1 P1 y hy => ?_)
  refine sl σ H1 ρ1 env s1 _ (hE.mono x1.toExtW) S1 ((P1.bind S1).imp fun l s2 H2 ρ2 x2 S2 P2 => ?_)
  refine sh σ H2 ρ2 env s2 _ ((hE.mono x1.toExtW).mono x2.toExtW) S2 ((P2.bind S2).imp fun u s3 H3 ρ3 x3 S3 P3 => ?_)
  have hy3 := (hy.mono x2.toExtW).mono x3.toExtW
  split at P3
  · rename_i xs
    obtain ⟨a, ys, rfl, h1, h2⟩ := getT_ok hy3 rfl
    refine .inr ⟨a, ys, rfl, h1, fun hw => ?_, fun _ p hp => tup_ok S3 (cut_ok h2 l u) P3 hp⟩
    have e : cutP xs l u = xs := by
      unfold cutP
      rw [h2.length, hw.1, hw.2]
      rw [← h2.length]
      simp
    rw [e] at P3
    exact now S3 P3 hy3
  · split at P3
    · rename_i xs e1
      obtain ⟨a, ys, rfl, h1, h2⟩ := getF_ok S3 hy3 e1
      exact .inl ⟨a, ys, rfl, h1, fun p hp => fresh_ok S3 (cut_ok h2 l u) P3 hp⟩
    · exact P3.elim
end

/-! ### a list that changes -/
section
variable {K : PySem.W.Frag} {H : Hp} {ρ : Rh} {sto : Sto} {n : Nat} {a : Addr} {xs : List PV} {ys : List V}
theorem RSt.putB {b : Bx} {o : HO} (S : RSt K H ρ sto) (ha : ρ.bx[n]? = some a) (hn : n < sto.length) (hka : ∀ u, H a = some u → alike u o) (r : ∀ H1, ExtW ρ H ρ H1 → H1 a = some o → RB K H1 ρ a b) : Ext ρ H ρ (upd H a o) ∧ RSt K (upd H a o) ρ (sto.set n b) := by
  have hx : Ext ρ H ρ (upd H a o) := by
    refine ⟨⟨⟨[], by simp, by simp⟩, rs_refl, fun b u h nb _ => ?_, fun b h => has_upd b h, fun b u _ h => ?_⟩, rfl, fun b hb nb => upd_ne fun q => ?_⟩
    rotate_left
    · by_cases q : b = a
      · subst q; exact ⟨o, upd_same, hka u h⟩
      · exact ⟨u, by rw [upd_ne q]; exact h, alike_refl u⟩
    rotate_left
    · rw [upd_ne fun q => nb (by rw [q]; exact List.mem_of_getElem? ha)]; exact h
    · exact nb (by rw [q]; exact List.mem_of_getElem? ha)
  refine ⟨hx, ⟨S.nd, by rw [List.length_set]; exact S.len, fun k b zs e1 e2 => ?_, fun b hb => ⟨hx.has b (S.rsv b hb).1, (S.rsv b hb).2⟩, S.tbw hx.toExtW⟩⟩
  by_cases hk : n = k
  · subst hk
    rw [ha] at e1; cases e1
    rw [List.getElem?_set_self hn] at e2
    cases e2
    exact r _ hx.toExtW upd_same
  · rw [List.getElem?_set_ne hk] at e2
    have : b ≠ a := fun q => by
      subst q
      have h3 := (List.getElem?_eq_some_iff.mp ha)
      have h4 := (List.getElem?_eq_some_iff.mp e1)
      exact hk ((List.getElem_inj S.nd).mp (h3.2.trans h4.2.symm))
    exact (S.at_ k b zs e1 e2).imp (fun r => r.mono hx.toExtW) fun u q => by rw [upd_ne this]; exact q
theorem RSt.put (S : RSt K H ρ sto) (ha : ρ.bx[n]? = some a) (hn : n < sto.length) (hl : ∃ zs, H a = some (.lst zs)) (r : RVs K H ρ xs ys) : Ext ρ H ρ (upd H a (.lst ys)) ∧ RSt K (upd H a (.lst ys)) ρ (sto.set n (.l xs)) :=
  S.putB ha hn (fun u e => let ⟨zs, h⟩ := hl; by rw [h] at e; cases e; exact ⟨ys, rfl⟩) fun H1 x e => ⟨ys, e, r.mono x⟩
theorem RSt.lt (S : RSt K H ρ sto) (ha : ρ.bx[n]? = some a) : n < sto.length := S.len ▸ (List.getElem?_eq_some_iff.mp ha).1
end
def mApp (mo m : M) : M := fun env s => (mo env s).bind fun o s1 => match o with
  | .box n => match lsO s1[n]? with
    | some _ => (m env s1).bind fun v s2 => match s2[n]? with
      | some (.l xs) => bif Nat.blt xs.length sizeLine then .ok .non (s2.set n (.l (xs ++ [v]))) else .bad
      | _ => .bad
    | none => .bad
  | _ => .bad
section
variable {X : Cx} {W : WK} {o e : Expr} {m mo : M} {pos p p2 p3 : Pos}
theorem e_app (ho : ME X W o mo) (he : ME X W e m) (hbase : attributeBase o "append" X.env (eval o X.env) = eval o X.env := by rfl)
    (hfew : ((backTo pos (starEach [e] X.env)).all (fun x => !x.1) && (backToKw pos (keywordEach [] X.env)).all (fun x => x.1.isSome)
      && decide (([e] : List Expr).length + ([] : List Keyword).length + (if ([] : List Keyword).isEmpty then 0 else 1) < 30)) = true := by rfl)
    (hline : (p.endLine == pos.line) = true := by rfl) (hs : starEach [e] X.env = (false, eval e X.env) :: starEach [] X.env := by rfl) (hplain : (backTo pos (starEach [] X.env)).any (·.1) = false := by rfl) :
    ME X W (.Call (.Attribute o "append" p) [e] [] pos) (mApp mo m) := by
  obtain ⟨t, q, s⟩ := ho
  obtain ⟨u, r, z⟩ := he
  refine ⟨_, pe_bm PySem.F.plainAttrs_list PySem.F.slot_list_append PySem.F.type_list_append mt_append q (pa_cons r pa_nil hs) hbase hfew hline hs hplain, fun σ H ρ env sto Q hE hS hP => ?_⟩
  refine s σ H ρ env sto _ hE hS ((hP.bind hS).imp fun v s1 H1 ρ1 x1 S1 P1 y hy => ?_)
  split at P1
  · rename_i n
    obtain ⟨a, rfl, ha⟩ := hy
    cases e0 : lsO s1[n]? with
    | none => rw [e0] at P1; exact P1.elim
    | some zs =>
    rw [e0] at P1
    obtain ⟨ys0, h30, _⟩ := S1.at_ n a _ ha (lsO_ok e0)
    refine ⟨.inl ⟨rfl, ys0, .of h30⟩, z σ H1 ρ1 env s1 _ (hE.mono x1.toExtW) S1 ((P1.bind S1).imp fun w s2 H2 ρ2 x2 S2 P2 y2 hy2 => ?_)⟩
    split at P2
    · rename_i xs e1
      obtain ⟨hz, P2⟩ := and_of (C := Post X.K _ H2 ρ2 (GV X.K Q)) P2 (fun z => z)
      have ha2 : ρ2.bx[n]? = some a := by
        obtain ⟨r, hr, _⟩ := x2.pre
        rw [hr, List.getElem?_append_left (List.getElem?_eq_some_iff.mp ha).1]
        exact ha
      obtain ⟨ys, h3, h4⟩ := S2.at_ n a _ ha2 e1
      obtain ⟨x3, S3⟩ := S2.put ha2 (S2.lt ha2) ⟨_, h3⟩ (h4.append (.cons hy2 .nil))
      exact ⟨a, ys, y2, rfl, rfl, h3, by rw [← h4.length]; exact Nat.le_of_ble_eq_true hz, P2 _ ρ2 x3 S3 _ rfl⟩
    · exact P2.elim
  · exact P1.elim
end
end Mi

noncomputable section
namespace Mi
open PySem PySem.Spec PyProof.Rows L2 RZ

/-! ### the readings in one form: what a meaning wants -/
def cE (K : PySem.W.Frag) (W : WK) (m : M) : TE := fun σ H Q => ∃ ρ env sto, REnv K H ρ env σ ∧ RSt K H ρ sto ∧ Post K (fun c d h => W c d σ h) H ρ (GV K Q) (m env sto)
def cT (K : PySem.W.Frag) (W : WK) (m : MT) : TT := fun σ H Q => ∃ ρ env sto, REnv K H ρ env σ ∧ RSt K H ρ sto ∧ Post K (fun c d h => W c d σ h) H ρ (GT Q) (m env sto)
section
variable {X : Cx} {W : WK} {e : Expr}
theorem ME.can {m : M} (h : ME X W e m) : PE X e (cE X.K W m) := by
  obtain ⟨t, p, s⟩ := h
  exact ⟨fun pins st σ H Q I ⟨ρ, env, sto, h1, h2, h3⟩ => p.run pins st σ H Q I (s σ H ρ env sto Q h1 h2 h3)⟩
theorem MTe.can {m : MT} (h : MTe X W e m) : PT X e (cT X.K W m) := by
  obtain ⟨t, p, s⟩ := h
  exact ⟨fun pins st σ H Q I ⟨ρ, env, sto, h1, h2, h3⟩ => p.run pins st σ H Q I (s σ H ρ env sto Q h1 h2 h3)⟩
theorem se_can {K : PySem.W.Frag} {m : M} : SE K W (cE K W m) m := fun σ H ρ env sto Q h1 h2 h3 => ⟨ρ, env, sto, h1, h2, h3⟩
theorem st_can {K : PySem.W.Frag} {m : MT} : ST K W (cT K W m) m := fun σ H ρ env sto Q h1 h2 h3 => ⟨ρ, env, sto, h1, h2, h3⟩
end

/-! ### statements -/
inductive Fl where
  | nx (env : Env) (s : Sto)
  | rt (v : PV) (s : Sto)
  | bk (env : Env) (s : Sto)
  | ct (env : Env) (s : Sto)
  | ex (e : Exn) (env : Env) (s : Sto)
  | bad
def R.fl {α : Type} (env : Env) : R α → (α → Sto → Fl) → Fl
  | .ok a s, f => f a s
  | .ex e s, _ => .ex e env s
  | .bad, _ => .bad
def FPost (K : PySem.W.Frag) (W : WK) (D : Ends) (H : Hp) (ρ : Rh) : Fl → Prop
  | .nx env s => ∀ σ' H' ρ', Ext ρ H ρ' H' → RSt K H' ρ' s → REnv K H' ρ' env σ' → D.nx σ' H'
  | .rt v s => ∀ x H' ρ', Ext ρ H ρ' H' → RSt K H' ρ' s → RV K H' ρ' v x → D.rt x H'
  | .bk env s => ∀ σ' H' ρ', Ext ρ H ρ' H' → RSt K H' ρ' s → REnv K H' ρ' env σ' → D.bk σ' H'
  | .ct env s => ∀ σ' H' ρ', Ext ρ H ρ' H' → RSt K H' ρ' s → REnv K H' ρ' env σ' → D.ct σ' H'
  | .ex e env s => ∀ cls d σ' H' ρ', Ext ρ H ρ' H' → RSt K H' ρ' s → REnv K H' ρ' env σ' → RX K H' ρ' e cls d → W cls d σ' H'
  | .bad => False
abbrev MS := Env → Sto → Fl
def SS (K : PySem.W.Frag) (W : WK) (t : TS) (m : MS) : Prop := ∀ (D : Ends) (σ : L2.St) (H : Hp) (ρ : Rh) (env : Env) (sto : Sto),
  REnv K H ρ env σ → RSt K H ρ sto → FPost K W D H ρ (m env sto) → t D σ H
def MSt (X : Cx) (W : WK) (st : Stmt) (m : MS) : Prop := ∃ t, PS X st t ∧ SS X.K W t m
def MSs (X : Cx) (W : WK) (st : List Stmt) (m : MS) : Prop := ∃ t, PSs X st t ∧ SS X.K W t m
def cS (K : PySem.W.Frag) (W : WK) (m : MS) : TS := fun D σ H => ∃ ρ env sto, REnv K H ρ env σ ∧ RSt K H ρ sto ∧ FPost K W D H ρ (m env sto)
theorem MSs.can {X : Cx} {W : WK} {st : List Stmt} {m : MS} (h : MSs X W st m) : PSs X st (cS X.K W m) := by
  obtain ⟨t, p, s⟩ := h
  exact ⟨fun pins st σ H D I ⟨ρ, env, sto, h1, h2, h3⟩ => p.run pins st σ H D I (s D σ H ρ env sto h1 h2 h3)⟩
theorem ss_can {K : PySem.W.Frag} {W : WK} {m : MS} : SS K W (cS K W m) m := fun D σ H ρ env sto h1 h2 h3 => ⟨ρ, env, sto, h1, h2, h3⟩
section
variable {α : Type} {K : PySem.W.Frag} {W : WK} {D : Ends} {H H1 : Hp} {ρ ρ1 : Rh} {sto : Sto}
theorem FPost.shift (e : Ext ρ H ρ1 H1) (hh : ∀ a ∈ ρ.rs, H a ≠ none) : ∀ {f : Fl}, FPost K W D H ρ f → FPost K W D H1 ρ1 f
  | .nx _ _, h => fun σ H' ρ' x y z => h σ H' ρ' (e.trans x hh) y z
  | .rt _ _, h => fun σ H' ρ' x y z => h σ H' ρ' (e.trans x hh) y z
  | .bk _ _, h => fun σ H' ρ' x y z => h σ H' ρ' (e.trans x hh) y z
  | .ct _ _, h => fun σ H' ρ' x y z => h σ H' ρ' (e.trans x hh) y z
  | .ex _ _ _, h => fun c d σ H' ρ' x y z w => h c d σ H' ρ' (e.trans x hh) y z w
  | .bad, h => h
theorem FPost.bind {f : α → Sto → Fl} {env : Env} {σ : L2.St} (E : REnv K H ρ env σ) (S : RSt K H ρ sto) : ∀ {r : R α}, FPost K W D H ρ (r.fl env f) → Post K (fun c d h => W c d σ h) H ρ (fun v s H' ρ' => FPost K W D H' ρ' (f v s)) r
  | .ok _ _, h => fun _ _ x _ => FPost.shift x S.hh h
  | .ex _ _, h => fun c d H' ρ' x y z => h c d σ H' ρ' x y (E.mono x.toExtW) z
  | .bad, h => h
end
def sSeq (m n : MS) : MS := fun env s => match m env s with
  | .nx e s1 => n e s1
  | r => r
def sNil : MS := fun env s => .nx env s
def sExp (m : M) : MS := fun env s => (m env s).fl env fun _ s1 => .nx env s1
def sRet (m : M) : MS := fun env s => (m env s).fl env fun v s1 => .rt v s1
def sRetN : MS := fun _ s => .rt .non s
def sIf (t : MT) (a b : MS) : MS := fun env s => (t env s).fl env fun c s1 => bif c then a env s1 else b env s1
def sBk : MS := fun env s => .bk env s
def sCt : MS := fun env s => .ct env s
/-- the slots but those of sl stand -/
def Only (sl : List Nat) (σ σ' : L2.St) : Prop := σ'.length = σ.length ∧ ∀ j, j ∉ sl → σ'[j]? = σ[j]?
abbrev MG := PV → Env → Sto → R Env
abbrev MGs := List PV → Env → Sto → R Env
def gNm (i : Nat) : MG := fun v env s => .ok (setR env i (some v)) s
def gN0 : MGs := fun vs env s => match vs with
  | [] => .ok env s
  | _ => .bad
def gC (g : MG) (h : MGs) : MGs := fun vs env s => match vs with
  | v :: r => (g v env s).bind fun env1 s1 => h r env1 s1
  | [] => .bad
def gTp (n : Nat) (h : MGs) : MG := fun v env s => match v with
  | .tup xs => bif Nat.beq xs.length n then h xs env s else .bad
  | v => match getF s v with
    | some xs => bif Nat.beq xs.length n then h xs env s else .bad
    | none => .bad
def sAsg (m : M) (g : MG) : MS := fun env s => (m env s).fl env fun v s1 => (g v env s1).fl env fun env1 s2 => .nx env1 s2
def SG (K : PySem.W.Frag) (W : WK) (g : TG) (m : MG) (sl : List Nat) : Prop := ∀ (v : PV) (x : V) (σ : L2.St) (H : Hp) (ρ : Rh) (env : Env) (sto : Sto) (Q : L2.St → Hp → Prop),
  REnv K H ρ env σ → RSt K H ρ sto → RV K H ρ v x → Post K (fun _ _ _ => False) H ρ (fun env1 _ H' ρ' => ∀ σ', REnv K H' ρ' env1 σ' → Only sl σ σ' → Q σ' H') (m v env sto) → g x σ H Q
def SGs (K : PySem.W.Frag) (W : WK) (g : TGs) (m : MGs) (sl : List Nat) : Prop := ∀ (v : List PV) (x : List V) (σ : L2.St) (H : Hp) (ρ : Rh) (env : Env) (sto : Sto) (Q : L2.St → Hp → Prop),
  REnv K H ρ env σ → RSt K H ρ sto → RVs K H ρ v x → Post K (fun _ _ _ => False) H ρ (fun env1 _ H' ρ' => ∀ σ', REnv K H' ρ' env1 σ' → Only sl σ σ' → Q σ' H') (m v env sto) → g x σ H Q
def MGt (X : Cx) (W : WK) (e : Expr) (m : MG) (sl : List Nat) : Prop := ∃ g, PG X e g ∧ SG X.K W g m sl
def MGts (X : Cx) (W : WK) (e : List Expr) (m : MGs) (sl : List Nat) : Prop := ∃ g, PGs X e g ∧ SGs X.K W g m sl
def R.noex {α : Type} : R α → R α
  | .ex _ _ => .bad
  | r => r
/-- o[i] = v -/
def gSb (mo mi : M) : MG := fun v env s => ((mo env s).noex).bind fun o s1 => ((mi env s1).noex).bind fun i s2 => match o, i with
  | .box n, .int k => match s2[n]? with
    | some (.l xs) => match ixN xs.length k with
      | some j => .ok env (s2.set n (.l (xs.set j v)))
      | none => .bad
    | _ => .bad
  | _, _ => .bad
section
variable {X : Cx} {W : WK} {st : Stmt} {sts : List Stmt} {e o c tg : Expr} {a b : List Stmt} {m mo mi : M} {n k ma mb : MS} {g : MG} {gs : MGs} {tc : MT} {pos : Pos}
theorem s_nil : MSs X W [] sNil := ⟨_, pss_nil, fun D σ H ρ env sto h1 h2 h3 => h3 σ H ρ .refl h2 h1⟩
theorem s_one (h : MSt X W st n) : MSs X W [st] n := let ⟨t, p, s⟩ := h; ⟨t, pss_one p, s⟩
theorem s_cons (h : MSt X W st n) (r : MSs X W sts k) : MSs X W (st :: sts) (sSeq n k) := by
  obtain ⟨t, p, s⟩ := h
  obtain ⟨u, q, z⟩ := r
  refine ⟨_, pss_cons p q, fun D σ H ρ env sto h1 h2 h3 => s _ σ H ρ env sto h1 h2 ?_⟩
  unfold sSeq at h3
  cases e : n env sto with
  | nx env1 s1 =>
    rw [e] at h3
    exact fun σ' H' ρ' x S E => z D σ' H' ρ' env1 s1 E S (FPost.shift x h2.hh h3)
  | rt v s => rw [e] at h3; exact h3
  | bk env s => rw [e] at h3; exact h3
  | ct env s => rw [e] at h3; exact h3
  | ex e' env s => rw [e] at h3; exact h3
  | bad => rw [e] at h3; exact h3
theorem s_exp (h : ME X W e m) (hs : swapsWith e none pos.line X.env = pure false := by rfl) : MSt X W (.Expr e pos) (sExp m) := by
  obtain ⟨t, p, s⟩ := h
  refine ⟨_, ps_expr p hs, fun D σ H ρ env sto h1 h2 h3 => ?_⟩
  exact s σ H ρ env sto _ h1 h2 ((FPost.bind h1 h2 h3).imp fun v s1 H1 ρ1 x1 S1 P1 y _ => P1 σ H1 ρ1 .refl S1 (h1.mono x1.toExtW))
theorem s_ret (h : ME X W e m) : MSt X W (.Return (some e) pos) (sRet m) := by
  obtain ⟨t, p, s⟩ := h
  refine ⟨_, ps_ret p, fun D σ H ρ env sto h1 h2 h3 => ?_⟩
  exact s σ H ρ env sto _ h1 h2 ((FPost.bind h1 h2 h3).imp fun v s1 H1 ρ1 x1 S1 P1 y hy => P1 y H1 ρ1 .refl S1 hy)
theorem s_retN : MSt X W (.Return none pos) sRetN := ⟨_, ps_retN, fun D σ H ρ env sto h1 h2 h3 => h3 _ H ρ .refl h2 rfl⟩
theorem s_pass : MSt X W (.Pass pos) sNil := ⟨_, ps_pass, fun D σ H ρ env sto h1 h2 h3 => h3 σ H ρ .refl h2 h1⟩
theorem s_bk : MSt X W (.Break pos) sBk := ⟨_, ps_break, fun D σ H ρ env sto h1 h2 h3 => h3 σ H ρ .refl h2 h1⟩
theorem s_ct : MSt X W (.Continue pos) sCt := ⟨_, ps_continue, fun D σ H ρ env sto h1 h2 h3 => h3 σ H ρ .refl h2 h1⟩
theorem s_if (hc : MTe X W c tc) (ha : MSs X W a ma) (hb : MSs X W b mb) : MSt X W (.If c a b pos) (sIf tc ma mb) := by
  obtain ⟨t, p, s⟩ := hc
  obtain ⟨ua, qa, ra⟩ := ha
  obtain ⟨ub, qb, rb⟩ := hb
  refine ⟨_, ps_if p qa qb, fun D σ H ρ env sto h1 h2 h3 => ?_⟩
  refine s σ H ρ env sto _ h1 h2 ((FPost.bind h1 h2 h3).imp fun c s1 H1 ρ1 x1 S1 P1 => ?_)
  cases c with
  | true => exact ra D σ H1 ρ1 env s1 (h1.mono x1.toExtW) S1 P1
  | false => exact rb D σ H1 ρ1 env s1 (h1.mono x1.toExtW) S1 P1
/-! targets -/
theorem g_nm {i : Nat} {x : Str} (hN : X.N.Nodup) (hi : X.N[i]? = some x) (hx : Loc X.env.scope x) (hf : X.fn x = true ∨ X.env.scope.names.lookup x = some .local := by first | exact .inl rfl | exact .inr rfl | assumption) : MGt X W (.Name x pos) (gNm i) [i] :=
  ⟨_, pg_name hN hi hx hf, fun v x σ H ρ env sto Q h1 h2 h3 h4 => h4 H ρ .refl h2 _ (by rw [setR_eq]; exact h1.set i h3) ⟨by simp, fun j hj => List.getElem?_set_ne fun q => hj (by rw [q]; exact List.mem_singleton.mpr rfl)⟩⟩
theorem g_n0 : MGts X W [] gN0 [] := by
  refine ⟨_, pgs_nil, fun v x σ H ρ env sto Q h1 h2 h3 h4 => ?_⟩
  cases v with
  | nil => cases h3; exact ⟨rfl, h4 H ρ .refl h2 _ h1 ⟨rfl, fun _ _ => rfl⟩⟩
  | cons _ _ => exact h4.elim
theorem g_c {es : List Expr} {sl sl' : List Nat} (ha : MGt X W e g sl) (hb : MGts X W es gs sl') (hs : (assignEach (e :: es) X.env).map (·.2) = assign e X.env :: (assignEach es X.env).map (·.2) := by rfl) : MGts X W (e :: es) (gC g gs) (sl ++ sl') := by
  obtain ⟨ta, pa, sa⟩ := ha
  obtain ⟨tb, pb, sb⟩ := hb
  refine ⟨_, pgs_cons pa pb hs, fun v x σ H ρ env sto Q h1 h2 h3 h4 => ?_⟩
  cases v with
  | nil => exact h4.elim
  | cons v r =>
    obtain ⟨y, ys, rfl, hy, hys⟩ := h3
    refine ⟨y, ys, rfl, sa v y σ H ρ env sto _ h1 h2 hy ((Post.bind h2 h4).imp fun env1 s1 H1 ρ1 x1 S1 P1 σ1 E1 O1 => ?_)⟩
    exact sb r ys σ1 H1 ρ1 env1 s1 Q E1 S1 (hys.mono x1.toExtW) (P1.imp fun _ _ _ _ _ _ k σ2 E2 O2 => k σ2 E2 ⟨O2.1.trans O1.1, fun j hj => (O2.2 j fun z => hj (List.mem_append_right _ z)).trans (O1.2 j fun z => hj (List.mem_append_left _ z))⟩)
theorem g_tp {es : List Expr} {kk n : Nat} {sl : List Nat} (hc : X.calm = true) (h : MGts X W es gs sl) (hn : (assignEach es X.env).length = n := by rfl) (hst : (assignEach es X.env).findIdx? (·.1) = none := by rfl) : MGt X W (.Tuple es kk pos) (gTp n gs) sl := by
  obtain ⟨t, p, s⟩ := h
  have p1 := pg_tup (k := kk) (pos := pos) hc p hn hst
  have p2 := pg_lst (k := kk) (pos := pos) hc p hn hst
  refine ⟨fun v σ H Q => L2.gTup X.K n t v σ H Q ∨ L2.gLst X.K n t v σ H Q, ⟨fun pins st σ H x u Q I r h => h.elim (fun h => p1.run pins st σ H x u Q I r h) fun h => p2.run pins st σ H x u Q I r h⟩, fun v x σ H ρ env sto Q h1 h2 h3 h4 => ?_⟩
  unfold gTp at h4
  split at h4
  · rename_i xs
    obtain ⟨hq, h4⟩ := and_of (C := Post X.K _ H ρ _) h4 (fun z => z)
    obtain ⟨a, ys, rfl, k1, k2⟩ := getT_ok h3 rfl
    exact .inl ⟨a, ys, rfl, k1, by rw [← k2.length]; exact Nat.eq_of_beq_eq_true hq, s xs ys σ H ρ env sto Q h1 h2 k2 h4⟩
  · cases e : getF sto v with
    | none => rw [e] at h4; exact h4.elim
    | some xs =>
      rw [e] at h4
      obtain ⟨hq, h4⟩ := and_of (C := Post X.K _ H ρ _) h4 (fun z => z)
      obtain ⟨a, ys, rfl, k1, k2⟩ := getF_ok h2 h3 e
      exact .inr ⟨a, ys, rfl, k1, by rw [← k2.length]; exact Nat.eq_of_beq_eq_true hq, s xs ys σ H ρ env sto Q h1 h2 k2 h4⟩
theorem Post.unex {α : Type} {K : PySem.W.Frag} {WP WP' : XK} {H : Hp} {ρ : Rh} {G : α → Sto → Hp → Rh → Prop} : ∀ {r : R α}, Post K WP H ρ G r.noex → Post K WP' H ρ G r
  | .ok _ _, h => h
  | .ex _ _, h => h.elim
  | .bad, h => h
theorem g_sb (ho : ME X W o mo) (hi : ME X W e mi)
    (ha : ∀ v, assign (.Subscript o e pos) X.env v = (do
      let ov ← holding [v] (eval o X.env)
      let iv ← holding [v, ov] (eval e X.env)
      standAt pos
      holding [v, ov, iv] (setItem ov iv v)
      release [v, ov, iv] []) := by exact fun _ => rfl) : MGt X W (.Subscript o e pos) (gSb mo mi) [] := by
  obtain ⟨to, po, so⟩ := ho
  obtain ⟨ti, pi, si⟩ := hi
  refine ⟨_, pg_sub po pi set_list ha, fun v x σ H ρ env sto Q h1 h2 h3 h4 => ?_⟩
  refine so σ H ρ env sto _ h1 h2 (Post.unex ((Post.bind h2 h4).imp fun ov s1 H1 ρ1 x1 S1 P1 y hy => ?_))
  refine si σ H1 ρ1 env s1 _ (h1.mono x1.toExtW) S1 (Post.unex ((Post.bind S1 P1).imp fun iv s2 H2 ρ2 x2 S2 P2 z hz => ?_))
  have hy2 := hy.mono x2.toExtW
  split at P2
  · rename_i nn kk
    obtain ⟨a, rfl, haa⟩ := hy2
    cases hz
    split at P2
    · rename_i xs e1
      split at P2
      · rename_i j e2
        obtain ⟨ys, k1, k2⟩ := S2.at_ nn a _ haa e1
        have hv := (h3.mono x1.toExtW).mono x2.toExtW
        obtain ⟨x3, S3⟩ := S2.put haa (S2.lt haa) ⟨_, k1⟩ (RVs.set hv j k2)
        exact ⟨a, ys, kk, j, rfl, rfl, k1, by rw [← k2.length]; exact e2, P2 _ ρ2 x3 S3 _ (((h1.mono x1.toExtW).mono x2.toExtW).mono x3.toExtW) ⟨rfl, fun _ _ => rfl⟩⟩
      · exact P2.elim
    · exact P2.elim
  · exact P2.elim
theorem fl_noex {D : Ends} {H : Hp} {ρ : Rh} {K : PySem.W.Frag} {r : R Env} {W : WK} {env : Env} {sl : List Nat} {σ : L2.St} (h : FPost K W D H ρ (r.fl env fun e s => .nx e s)) (hx : ∀ e s, r ≠ .ex e s) : Post K (fun _ _ _ => False) H ρ (fun env1 _ H' ρ' => ∀ σ', REnv K H' ρ' env1 σ' → Only sl σ σ' → D.nx σ' H') r := by
  cases r with
  | ok a s => exact fun H' ρ' x S σ' E _ => h σ' H' ρ' x S E
  | ex e s => exact absurd rfl (hx e s)
  | bad => exact h
/-- a target that raises nothing by itself -/
def Calm (g : MG) : Prop := ∀ v env s e t, g v env s ≠ .ex e t
def CalmS (g : MGs) : Prop := ∀ v env s e t, g v env s ≠ .ex e t
theorem calm_nm {i : Nat} : Calm (gNm i) := fun _ _ _ _ _ h => by cases h
theorem calm_n0 : CalmS gN0 := fun v _ _ _ _ h => by cases v <;> cases h
theorem calm_c (h1 : Calm g) (h2 : CalmS gs) : CalmS (gC g gs) := fun v env s e t h => by
  cases v with
  | nil => cases h
  | cons v r =>
    have h : (g v env s).bind (fun env1 s1 => gs r env1 s1) = .ex e t := h
    cases q : g v env s with
    | ok a s1 => rw [q] at h; exact h2 _ _ _ _ _ h
    | ex e' s' => exact h1 _ _ _ _ _ q
    | bad => rw [q] at h; cases h
theorem calm_tp {n : Nat} (h : CalmS gs) : Calm (gTp n gs) := fun v env s e t q => by
  unfold gTp at q
  split at q
  · rename_i xs
    cases k : Nat.beq xs.length n with
    | true => rw [k] at q; exact h _ _ _ _ _ q
    | false => rw [k] at q; cases q
  · cases f : getF s v with
    | none => rw [f] at q; cases q
    | some xs =>
      rw [f] at q
      have q : (bif Nat.beq xs.length n then gs xs env s else .bad) = .ex e t := q
      cases k : Nat.beq xs.length n with
      | true => rw [k] at q; exact h _ _ _ _ _ q
      | false => rw [k] at q; cases q
theorem noex_ne {α : Type} {r : R α} {e : Exn} {s : Sto} : r.noex ≠ .ex e s := by cases r <;> exact fun h => by cases h
theorem calm_sb : Calm (gSb mo mi) := fun v env s e t q => by
  unfold gSb at q
  cases k : (mo env s).noex with
  | ex e' s' => exact noex_ne k
  | bad => rw [k] at q; cases q
  | ok o s1 =>
    rw [k] at q
    have q : ((mi env s1).noex).bind _ = .ex e t := q
    cases k2 : (mi env s1).noex with
    | ex e' s' => exact noex_ne k2
    | bad => rw [k2] at q; cases q
    | ok i s2 =>
      rw [k2] at q
      simp only [R.bind] at q
      split at q
      · split at q
        · split at q <;> cases q
        · cases q
      · cases q
theorem s_asg {sl : List Nat} (he : ME X W e m) (hg : MGt X W tg g sl) (hk : Calm g) (hs : swapsWithSole [tg] e pos.line X.env = pure false := by rfl) (hw : swappedStores [tg] e X.env = pure none := by rfl)
    (h1 : (assignEach [tg] X.env).map (·.2) = [assign tg X.env] := by rfl) : MSt X W (.Assign [tg] e pos) (sAsg m g) := by
  obtain ⟨t, p, s⟩ := he
  obtain ⟨u, q, z⟩ := hg
  refine ⟨_, ps_asg p q hs hw h1, fun D σ H ρ env sto h1 h2 h3 => ?_⟩
  refine s σ H ρ env sto _ h1 h2 ((FPost.bind h1 h2 h3).imp fun v s1 H1 ρ1 x1 S1 P1 y hy => ?_)
  exact z v y σ H1 ρ1 env s1 _ (h1.mono x1.toExtW) S1 hy (fl_noex P1 (hk v env s1))
/-- a, b = e1, e2 (two plain locals) -/
def sPar (i j : Nat) (ms : MA) : MS := fun env s => (ms env s).fl env fun vs s1 => match vs with
  | [v, w] => .nx ((env.set i (some v)).set j (some w)) s1
  | _ => .bad
theorem s_par {i j : Nat} {x y : Str} {a b : Expr} {ms : MA} {px py pt : Pos} {kt k2 pt2} (hc : X.calm = true) (hN : X.N.Nodup) (hi : X.N[i]? = some x) (hj : X.N[j]? = some y) (hij : i ≠ j)
    (hx : X.env.scope.names.lookup x = some .local) (hy : X.env.scope.names.lookup y = some .local) (ha : MEs X W [a, b] ms)
    (hw : swappedStores [.Tuple [.Name x px, .Name y py] kt pt] (.Tuple [a, b] k2 pt2) X.env = pure (some [x, y]))
    (hs : swapsWithSole [.Tuple [.Name x px, .Name y py] kt pt] (.Tuple [a, b] k2 pt2) pos.line X.env = pure false := by rfl) :
    MSt X W (.Assign [.Tuple [.Name x px, .Name y py] kt pt] (.Tuple [a, b] k2 pt2) pos) (sPar i j ms) := by
  obtain ⟨t, p, s⟩ := ha
  refine ⟨_, ps_par hc hN hi hj hij hx hy p hw hs, fun D σ H ρ env sto h1 h2 h3 => ?_⟩
  refine s σ H ρ env sto _ h1 h2 ((FPost.bind h1 h2 h3).imp fun vs s1 H1 ρ1 x1 S1 P1 ys hys => ?_)
  split at P1
  · obtain ⟨v, u, rfl, r1, r2⟩ := hys.two
    exact ⟨v, u, rfl, P1 _ H1 ρ1 .refl S1 (((h1.mono x1.toExtW).set i r1).set j r2)⟩
  · exact P1.elim
end

/-! ### loops -/
abbrev MIt := Nat → Sto → Option PV
def ItOk (K : PySem.W.Frag) (H0 : Hp) (ρ0 : Rh) (Jh : It) (J : MIt) : Prop := ∀ (i : Nat) (H : Hp) (ρ : Rh) (sto : Sto), ExtW ρ0 H0 ρ H → RSt K H ρ sto → match J i sto with
  | some v => Jh.go i H ∧ ∀ x H', Jh.yld i H x H' → Ext ρ H ρ H' ∧ RSt K H' ρ sto ∧ RV K H' ρ v x
  | none => Jh.stop i H
abbrev MI := Env → Sto → R MIt
def SI (K : PySem.W.Frag) (W : WK) (t : TI) (m : MI) : Prop := ∀ (σ : L2.St) (H : Hp) (ρ : Rh) (env : Env) (sto : Sto) (Rk : It → Hp → Prop),
  REnv K H ρ env σ → RSt K H ρ sto → Post K (fun c d h => W c d σ h) H ρ (fun J _ H' ρ' => ∀ Jh, ItOk K H' ρ' Jh J → Rk Jh H') (m env sto) → t σ H Rk
def MIr (X : Cx) (W : WK) (tg it : Expr) (m : MI) : Prop := ∃ t, PI X tg it t ∧ SI X.K W t m
def itOf (s : Sto) : PV → Option MIt
  | .lst xs => some fun i _ => nthC xs i
  | .fro xs => some fun i _ => nthC xs i
  | .box n => match lsO s[n]? with
    | some _ => some fun i s => match s[n]? with
      | some (.l xs) => nthC xs i
      | _ => none
    | none => none
  | _ => none
def iLst (m : M) : MI := fun env s => (m env s).bind fun v s1 => match itOf s1 v with
  | some J => .ok J s1
  | none => .bad
def iTup (m : M) : MI := fun env s => (m env s).bind fun v s1 => match v with
  | .tup xs => .ok (fun i _ => nthC xs i) s1
  | _ => .bad
def irng (lo : Int) (n : Nat) : MIt := fun i _ => bif Nat.blt i n then some (.int (lo + i)) else none
def okR (i j : Int) : Bool := decide (-(2 ^ 62) ≤ i ∧ i < 2 ^ 62 ∧ -(2 ^ 62) ≤ j ∧ j < 2 ^ 62)
def iR1 (ms : MA) : MI := fun env s => (ms env s).bind fun vs s1 => match vs with
  | [.int j] => bif okR 0 j then .ok (irng 0 j.toNat) s1 else .bad
  | _ => .bad
def iR2 (ms : MA) : MI := fun env s => (ms env s).bind fun vs s1 => match vs with
  | [.int i, .int j] => bif okR i j then .ok (irng i (j - i).toNat) s1 else .bad
  | _ => .bad
def enuI (J : MIt) : MIt := fun i s => match J i s with
  | some v => some (.tup [.int (i : Nat), v])
  | none => none
def iEnu (ms : MA) : MI := fun env s => (ms env s).bind fun vs s1 => match vs with
  | [v] => match itOf s1 v with
    | some J => .ok (enuI J) s1
    | none => .bad
  | _ => .bad
def zipI (J L : MIt) : MIt := fun i s => match J i s with
  | some v => match L i s with
    | some w => some (.tup [v, w])
    | none => none
  | none => none
def iZp (ms : MA) : MI := fun env s => (ms env s).bind fun vs s1 => match vs with
  | [.tup xs, .tup ys] => .ok (zipI (fun i _ => nthC xs i) (fun i _ => nthC ys i)) s1
  | [v, w] => match itOf s1 v, itOf s1 w with
    | some J, some L => .ok (zipI J L) s1
    | _, _ => .bad
  | _ => .bad
section
variable {K : PySem.W.Frag} {H0 : Hp} {ρ0 : Rh} {s0 : Sto} {a : Addr}
/-- what a list's iterator holds: the list as it stands -/
def ListIt (K : PySem.W.Frag) (H0 : Hp) (ρ0 : Rh) (a : Addr) (J : MIt) : Prop := ∀ (i : Nat) (H : Hp) (ρ : Rh) (sto : Sto), ExtW ρ0 H0 ρ H → RSt K H ρ sto → ∃ ys : List V, SqL K H a ys ∧ match J i sto with
  | some v => ∃ y, ys[i]? = some y ∧ RV K H ρ v y
  | none => ys.length ≤ i
theorem get_none {xs : List PV} {ys : List V} {H : Hp} {ρ : Rh} (r : RVs K H ρ xs ys) (i : Nat) : match xs[i]? with
  | some v => ∃ y, ys[i]? = some y ∧ RV K H ρ v y
  | none => ys.length ≤ i := by
  cases e : xs[i]? with
  | some v => exact r.get e
  | none => rw [← r.length]; exact List.getElem?_eq_none_iff.mp e
theorem itOf_ok (S0 : RSt K H0 ρ0 s0) {v : PV} {x : V} {J : MIt} (r : RV K H0 ρ0 v x) (h : itOf s0 v = some J) : ∃ a ys, x = .ref a ∧ SqL K H0 a ys ∧ ListIt K H0 ρ0 a J := by
  cases v with
  | lst xs =>
    cases h
    obtain ⟨a, ys, rfl, h2, h3⟩ := r
    exact ⟨a, ys, rfl, h2.sq, fun i H ρ sto x S => ⟨ys, (h2.mono x).sq, by dsimp only; rw [nthC_eq]; exact get_none (h3.mono x) i⟩⟩
  | fro xs =>
    cases h
    obtain ⟨a, ys, rfl, h2, h3⟩ := r
    exact ⟨a, ys, rfl, h2.sq, fun i H ρ sto x S => ⟨ys, (h2.mono x).sq, by dsimp only; rw [nthC_eq]; exact get_none (h3.mono x) i⟩⟩
  | box n =>
    obtain ⟨a, rfl, h2⟩ := r
    have h : (match lsO s0[n]? with
      | some _ => some fun i s => match s[n]? with
        | some (.l xs) => nthC xs i
        | _ => none
      | none => none : Option MIt) = some J := h
    cases e0 : lsO s0[n]? with
    | none => rw [e0] at h; cases h
    | some xs0 =>
    rw [e0] at h
    cases h
    obtain ⟨zs, k1, k2⟩ := S0.at_ n a _ h2 (lsO_ok e0)
    refine ⟨a, zs, rfl, .of k1, fun i H ρ sto x S => ?_⟩
    have ha : ρ.bx[n]? = some a := by
      obtain ⟨r, hr, _⟩ := x.pre
      rw [hr, List.getElem?_append_left (List.getElem?_eq_some_iff.mp h2).1]
      exact h2
    obtain ⟨o', ho, us, rfl⟩ := x.kd a _ (List.mem_of_getElem? h2) k1
    have hb := S.at_ n a _ ha (List.getElem?_eq_getElem (S.lt ha))
    cases e : sto[n]'(S.lt ha) with
    | l xs =>
      rw [e] at hb
      obtain ⟨ys, h3, h4⟩ := hb
      refine ⟨ys, .of h3, ?_⟩
      show (match (match sto[n]? with | some (.l xs) => nthC xs i | _ => none) with
        | some v => ∃ y, ys[i]? = some y ∧ RV K H ρ v y
        | none => ys.length ≤ i)
      rw [List.getElem?_eq_getElem (S.lt ha), e]
      dsimp only
      rw [nthC_eq]
      exact get_none h4 i
    | d kvs => rw [e] at hb; obtain ⟨ys, h3, _⟩ := hb; rw [ho] at h3; cases h3
    | e kvs => rw [e] at hb; obtain ⟨ys, h3, _⟩ := hb; rw [ho] at h3; cases h3
    | i c xs => rw [e] at hb; obtain ⟨_, _, _, _, _, h3, _⟩ := hb; rw [ho] at h3; cases h3
  | _ => cases h
theorem itl_ok {J : MIt} (h : ListIt K H0 ρ0 a J) : ItOk K H0 ρ0 (Itl K a) J := by
  intro i H ρ sto x S
  obtain ⟨ys, h1, h2⟩ := h i H ρ sto x S
  split at h2
  · rename_i v e
    obtain ⟨y, k1, k2⟩ := h2
    refine ⟨⟨ys, y, h1, k1⟩, fun z H' hz => ?_⟩
    obtain ⟨rfl, hz⟩ := hz
    have : some z = some y := (hz ys h1).symm.trans k1
    cases this
    exact ⟨.refl, S, k2⟩
  · rename_i e
    exact ⟨ys, h1, h2⟩
theorem itt_ok {xs : List PV} {ys : List V} (h : FzT K H0 ρ0 a ys) (r : RVs K H0 ρ0 xs ys) : ItOk K H0 ρ0 (Itt K a) (fun i _ => nthC xs i) := by
  simp only [nthC_eq]
  intro i H ρ sto x S
  have h1 := (h.mono x).sq
  have r1 := r.mono x
  have g := get_none r1 i
  show (match xs[i]? with
    | some v => _
    | none => _)
  split at g
  · rename_i v e
    obtain ⟨y, k1, k2⟩ := g
    refine ⟨⟨ys, y, h1, k1⟩, fun z H' hz => ?_⟩
    obtain ⟨rfl, hz⟩ := hz
    have : some z = some y := (hz ys h1).symm.trans k1
    cases this
    exact ⟨.refl, S, k2⟩
  · exact ⟨ys, h1, g⟩
theorem irng_ok {lo : Int} {n : Nat} : ItOk K H0 ρ0 (Itr lo n) (irng lo n) := by
  intro i H ρ sto x S
  unfold irng
  cases q : Nat.blt i n with
  | true =>
    refine ⟨Nat.le_of_ble_eq_true q, fun z H' hz => ?_⟩
    obtain ⟨rfl, rfl⟩ := hz
    exact ⟨.refl, S, rfl⟩
  | false =>
    show n ≤ i
    apply Nat.le_of_not_lt
    intro h
    have : Nat.blt i n = true := Nat.ble_eq_true_of_le h
    rw [this] at q; cases q
theorem newPair {H : Hp} {ρ : Rh} {sto : Sto} {v w : PV} {x y : V} {T : Addr} (S : RSt K H ρ sto) (hT : H T = none) (r1 : RV K H ρ v x) (r2 : RV K H ρ w y) : Ext ρ H ρ (upd H T (.tup [x, y])) ∧ RSt K (upd H T (.tup [x, y])) ρ sto ∧ RV K (upd H T (.tup [x, y])) ρ (.tup [v, w]) (.ref T) := by
  have hx := S.ext (o := .tup [x, y]) hT
  exact ⟨hx, S.new hT, T, [x, y], rfl, .inl ⟨upd_same, S.fresh hT, S.freshR hT⟩, .cons (r1.mono hx.toExtW) (.cons (r2.mono hx.toExtW) .nil)⟩
theorem ite_ok {J : MIt} (h : ListIt K H0 ρ0 a J) : ItOk K H0 ρ0 (Ite K a) (enuI J) := by
  intro i H ρ sto x S
  obtain ⟨ys, h1, h2⟩ := h i H ρ sto x S
  unfold enuI
  cases e : J i sto with
  | some v =>
    rw [e] at h2
    obtain ⟨y, k1, k2⟩ := h2
    refine ⟨⟨ys, y, h1, k1⟩, fun z H' hz => ?_⟩
    obtain ⟨T, w, rfl, hT, rfl, hw⟩ := hz
    have : some w = some y := (hw ys h1).symm.trans k1
    cases this
    exact newPair S hT rfl k2
  | none =>
    rw [e] at h2
    exact ⟨ys, h1, h2⟩
theorem itz_ok {b : Addr} {J L : MIt} (h : ListIt K H0 ρ0 a J) (h' : ListIt K H0 ρ0 b L) : ItOk K H0 ρ0 (Itz K a b) (zipI J L) := by
  intro i H ρ sto x S
  obtain ⟨ys, h1, h2⟩ := h i H ρ sto x S
  obtain ⟨zs, h3, h4⟩ := h' i H ρ sto x S
  unfold zipI
  cases e : J i sto with
  | some v =>
    rw [e] at h2
    obtain ⟨y, k1, k2⟩ := h2
    cases e' : L i sto with
    | some w =>
      rw [e'] at h4
      obtain ⟨u, k3, k4⟩ := h4
      refine ⟨⟨ys, zs, y, u, h1, h3, k1, k3⟩, fun z H' hz => ?_⟩
      obtain ⟨T, p, q, rfl, hT, rfl, hp, hq⟩ := hz
      have : some p = some y := (hp ys h1).symm.trans k1
      cases this
      have : some q = some u := (hq zs h3).symm.trans k3
      cases this
      exact newPair S hT k2 k4
    | none =>
      rw [e'] at h4
      exact ⟨ys, zs, h1, h3, .inr h4⟩
  | none =>
    rw [e] at h2
    exact ⟨ys, zs, h1, h3, .inl h2⟩
theorem itzT_ok {b : Addr} {xs zs : List PV} {ys us : List V} (h : FzT K H0 ρ0 a ys) (r : RVs K H0 ρ0 xs ys) (h' : FzT K H0 ρ0 b us) (r' : RVs K H0 ρ0 zs us) : ItOk K H0 ρ0 (ItzT K a b) (zipI (fun i _ => nthC xs i) (fun i _ => nthC zs i)) := by
  simp only [nthC_eq]
  intro i H ρ sto x S
  have g := get_none (r.mono x) i
  have g' := get_none (r'.mono x) i
  have q1 := (h.mono x).sq
  have q2 := (h'.mono x).sq
  unfold zipI
  dsimp only
  cases e : xs[i]? with
  | some v =>
    rw [e] at g
    obtain ⟨y, k1, k2⟩ := g
    cases e' : zs[i]? with
    | some w =>
      rw [e'] at g'
      obtain ⟨u, k3, k4⟩ := g'
      refine ⟨⟨ys, us, y, u, q1, q2, k1, k3⟩, fun z H' hz => ?_⟩
      obtain ⟨T, p, q, rfl, hT, rfl, hp, hq⟩ := hz
      have : some p = some y := (hp ys q1).symm.trans k1
      cases this
      have : some q = some u := (hq us q2).symm.trans k3
      cases this
      exact newPair S hT k2 k4
    | none =>
      rw [e'] at g'
      exact ⟨ys, us, q1, q2, .inr g'⟩
  | none =>
    rw [e] at g
    exact ⟨ys, us, q1, q2, .inl g⟩
end
section
variable {X : Cx} {W : WK} {tg e e2 a b : Expr} {m : M} {ms : MA} {pos p : Pos} {elts : List Expr} {kk : Nat} {tpos : Pos}
theorem i_lst (h : ME X W e m) : MIr X W tg e (iLst m) := by
  obtain ⟨t, q, s⟩ := h
  refine ⟨_, pi_list q, fun σ H ρ env sto Rk hE hS hP => ?_⟩
  refine s σ H ρ env sto _ hE hS ((hP.bind hS).imp fun v s1 H1 ρ1 x1 S1 P1 y hy => ?_)
  cases k : itOf s1 v with
  | none => rw [k] at P1; exact P1.elim
  | some J =>
    rw [k] at P1
    obtain ⟨a, ys, rfl, h1, h2⟩ := itOf_ok S1 hy k
    exact ⟨a, rfl, ⟨ys, h1⟩, P1 H1 ρ1 .refl S1 _ (itl_ok h2)⟩
theorem i_tup (h : ME X W e m) : MIr X W tg e (iTup m) := by
  obtain ⟨t, q, s⟩ := h
  refine ⟨_, pi_tup q, fun σ H ρ env sto Rk hE hS hP => ?_⟩
  refine s σ H ρ env sto _ hE hS ((hP.bind hS).imp fun v s1 H1 ρ1 x1 S1 P1 y hy => ?_)
  split at P1
  · obtain ⟨a, ys, rfl, h1, h2⟩ := hy
    exact ⟨a, rfl, ⟨ys, h1.sq⟩, P1 H1 ρ1 .refl S1 _ (itt_ok h1 h2)⟩
  · exact P1.elim
theorem i_r1 (hg : Gl X "range") (hm : X.mg "range" = none) (ha : MEs X W [a] ms) (hs : starEach [a] X.env = [(false, eval a X.env)] := by rfl) : MIr X W tg (.Call (.Name "range" p) [a] [] pos) (iR1 ms) := by
  obtain ⟨t, q, s⟩ := ha
  refine ⟨_, pi_range1 hg hm q hs, fun σ H ρ env sto Rk hE hS hP => ?_⟩
  refine s σ H ρ env sto _ hE hS ((hP.bind hS).imp fun vs s1 H1 ρ1 x1 S1 P1 ys hys => ?_)
  split at P1
  · obtain ⟨v, rfl, hv⟩ := hys.one
    cases hv
    obtain ⟨hq, P1⟩ := and_of (C := Post X.K _ H1 ρ1 _) P1 (fun z => z)
    have hq := of_decide_eq_true hq
    exact ⟨_, rfl, hq.2.2.1, hq.2.2.2, P1 H1 ρ1 .refl S1 _ irng_ok⟩
  · exact P1.elim
theorem i_r2 (hg : Gl X "range") (hm : X.mg "range" = none) (ha : MEs X W [a, b] ms) (hs : starEach [a, b] X.env = [(false, eval a X.env), (false, eval b X.env)] := by rfl) (hs2 : starEach [b] X.env = [(false, eval b X.env)] := by rfl) : MIr X W tg (.Call (.Name "range" p) [a, b] [] pos) (iR2 ms) := by
  obtain ⟨t, q, s⟩ := ha
  refine ⟨_, pi_range2 hg hm q hs hs2, fun σ H ρ env sto Rk hE hS hP => ?_⟩
  refine s σ H ρ env sto _ hE hS ((hP.bind hS).imp fun vs s1 H1 ρ1 x1 S1 P1 ys hys => ?_)
  split at P1
  · obtain ⟨v, u, rfl, hv, hu⟩ := hys.two
    cases hv; cases hu
    obtain ⟨hq, P1⟩ := and_of (C := Post X.K _ H1 ρ1 _) P1 (fun z => z)
    have hq := of_decide_eq_true hq
    exact ⟨_, _, rfl, hq, P1 H1 ρ1 .refl S1 _ irng_ok⟩
  · exact P1.elim
theorem i_enu (hg : Gl X "enumerate") (hm : X.mg "enumerate" = none) (ha : MEs X W [e] ms) (hs : starEach [e] X.env = [(false, eval e X.env)] := by rfl) : MIr X W (.Tuple elts kk tpos) (.Call (.Name "enumerate" p) [e] [] pos) (iEnu ms) := by
  obtain ⟨t, q, s⟩ := ha
  refine ⟨_, pi_enum hg hm q hs, fun σ H ρ env sto Rk hE hS hP => ?_⟩
  refine s σ H ρ env sto _ hE hS ((hP.bind hS).imp fun vs s1 H1 ρ1 x1 S1 P1 ys hys => ?_)
  split at P1
  · obtain ⟨v, rfl, hv⟩ := hys.one
    rename_i v0
    cases k : itOf s1 v0 with
    | none => rw [k] at P1; exact P1.elim
    | some J =>
      rw [k] at P1
      obtain ⟨a, zs, rfl, h1, h2⟩ := itOf_ok S1 hv k
      exact ⟨a, zs, rfl, h1, P1 H1 ρ1 .refl S1 _ (ite_ok h2)⟩
  · exact P1.elim
theorem i_zp (hg : Gl X "zip") (hm : X.mg "zip" = none) (ha : MEs X W [e, e2] ms) (hs : starEach [e, e2] X.env = (false, eval e X.env) :: starEach [e2] X.env := by rfl) (hpl : (backTo pos (starEach [e2] X.env)).any (·.1) = false := by rfl) :
    MIr X W (.Tuple elts kk tpos) (.Call (.Name "zip" p) [e, e2] [] pos) (iZp ms) := by
  obtain ⟨t, q, s⟩ := ha
  refine ⟨_, pi_zipA hg hm q hs hpl, fun σ H ρ env sto Rk hE hS hP => ?_⟩
  refine s σ H ρ env sto _ hE hS ((hP.bind hS).imp fun vs s1 H1 ρ1 x1 S1 P1 ys hys => ?_)
  split at P1
  · obtain ⟨v, u, rfl, hv, hu⟩ := hys.two
    obtain ⟨a, as, rfl, h1, h2⟩ := hv
    obtain ⟨b, bs, rfl, h3, h4⟩ := hu
    exact ⟨a, b, as, bs, rfl, .inr ⟨h1.sq, h3.sq, P1 H1 ρ1 .refl S1 _ (itzT_ok h1 h2 h3 h4)⟩⟩
  · obtain ⟨v, u, rfl, hv, hu⟩ := hys.two
    split at P1
    · rename_i J L k1 k2
      obtain ⟨a, as, rfl, h1, h2⟩ := itOf_ok S1 hv k1
      obtain ⟨b, bs, rfl, h3, h4⟩ := itOf_ok S1 hu k2
      exact ⟨a, b, as, bs, rfl, .inl ⟨h1, h3, P1 H1 ρ1 .refl S1 _ (itz_ok h2 h4)⟩⟩
    · exact P1.elim
  · exact P1.elim
end
def forL (J : MIt) (g : MG) (body : MS) : Nat → Nat → Env → Sto → Fl
  | 0, _, _, _ => .bad
  | n + 1, i, env, s => match J i s with
    | none => .nx env s
    | some v => ((g v env s).noex).fl env fun env1 s1 => match body env1 s1 with
      | .nx e s2 => forL J g body n (i + 1) e s2
      | .ct e s2 => forL J g body n (i + 1) e s2
      | .bk e s2 => .nx e s2
      | r => r
def sFor (N : Nat) (mi : MI) (g : MG) (body : MS) : MS := fun env s => (mi env s).fl env fun J s1 => forL J g body N 0 env s1
def whL (t : MT) (body : MS) : Nat → Env → Sto → Fl
  | 0, _, _ => .bad
  | n + 1, env, s => (t env s).fl env fun c s1 => bif c then (match body env s1 with
      | .nx e s2 => whL t body n e s2
      | .ct e s2 => whL t body n e s2
      | .bk e s2 => .nx e s2
      | r => r) else .nx env s1
def sWh (N : Nat) (t : MT) (body : MS) : MS := fun env s => whL t body N env s
section
variable {X : Cx} {W : WK} {tg it c : Expr} {body : List Stmt} {mi : MI} {g : MG} {mb : MS} {tc : MT} {pos : Pos}
theorem s_for (N : Nat) (hp : PassesOwn (model X.prog X.w) X.A X.env X.xe) (hc : X.calm = true) {sl : List Nat} (hi : MIr X W tg it mi) (hg : MGt X W tg g sl) (hb : MSs X W body mb)
    (hs : ∀ x, foldedSetIterable it X.env x = pure x := by intro _; rfl) : MSt X W (.For tg it body [] pos) (sFor N mi g mb) := by
  obtain ⟨t, q, s⟩ := hi
  obtain ⟨u, qg, sg⟩ := hg
  refine ⟨_, ps_for hp hc q qg hb.can hs, fun D σ H ρ env sto h1 h2 h3 => ?_⟩
  refine s σ H ρ env sto _ h1 h2 ((FPost.bind h1 h2 h3).imp fun J s1 H1 ρ1 x1 S1 P1 Jh hJ => ?_)
  refine ⟨fun i n σ H => ∃ ρ env sto, ExtW ρ1 H1 ρ H ∧ REnv X.K H ρ env σ ∧ RSt X.K H ρ sto ∧ FPost X.K W D H ρ (forL J g mb n i env sto), ⟨N, ρ1, env, s1, Ext.refl.toExtW, h1.mono x1.toExtW, S1, P1⟩, ?_⟩
  rintro i n σ2 H2 ⟨ρ2, env2, s2, x2, E2, S2, P2⟩
  cases n with
  | zero => exact P2.elim
  | succ n =>
    have hj := hJ i H2 ρ2 s2 x2 S2
    unfold forL at P2
    cases e : J i s2 with
    | none =>
      rw [e] at hj P2
      exact .inl ⟨hj, P2 σ2 H2 ρ2 .refl S2 E2⟩
    | some v =>
      rw [e] at hj P2
      refine .inr ⟨hj.1, fun σ' H' => ∃ ρ env sto, ExtW ρ1 H1 ρ H' ∧ REnv X.K H' ρ env σ' ∧ RSt X.K H' ρ sto ∧ FPost X.K W D H' ρ (forL J g mb n (i + 1) env sto), fun σ' H' h => ⟨n, Nat.lt_succ_self n, h⟩, fun x H' hy => ?_⟩
      obtain ⟨y1, y2, y3⟩ := hj.2 x H' hy
      have P2' := FPost.shift y1 S2.hh P2
      refine sg v x σ2 H' ρ2 env2 s2 _ (E2.mono y1.toExtW) y2 y3 (Post.unex (WP := fun c d h => W c d σ2 h) ((FPost.bind (E2.mono y1.toExtW) y2 P2').imp fun env3 s3 H3 ρ3 x3 S3 P3 σ3 E3 _ => ?_))
      refine ⟨ρ3, env3, s3, E3, S3, ?_⟩
      have x4 : ExtW ρ1 H1 ρ3 H3 := (x2.trans y1.toExtW).trans x3.toExtW
      cases r : mb env3 s3 with
      | nx e4 s4 => rw [r] at P3; exact fun σ' H' ρ' x S E => ⟨ρ', e4, s4, x4.trans x.toExtW, E, S, FPost.shift x S3.hh P3⟩
      | ct e4 s4 => rw [r] at P3; exact fun σ' H' ρ' x S E => ⟨ρ', e4, s4, x4.trans x.toExtW, E, S, FPost.shift x S3.hh P3⟩
      | bk e4 s4 => rw [r] at P3; exact P3
      | rt v s4 => rw [r] at P3; exact P3
      | ex v e4 s4 => rw [r] at P3; exact P3
      | bad => rw [r] at P3; exact P3
theorem s_wh (N : Nat) (hp : PassesOwn (model X.prog X.w) X.A X.env X.xe) (hc : MTe X W c tc) (hb : MSs X W body mb) : MSt X W (.While c body [] pos) (sWh N tc mb) := by
  refine ⟨_, ps_while hp hc.can hb.can, fun D σ H ρ env sto h1 h2 h3 => ?_⟩
  refine ⟨fun n σ H => ∃ ρ env sto, REnv X.K H ρ env σ ∧ RSt X.K H ρ sto ∧ FPost X.K W D H ρ (whL tc mb n env sto), ⟨N, ρ, env, sto, h1, h2, h3⟩, ?_⟩
  rintro n σ2 H2 ⟨ρ2, env2, s2, E2, S2, P2⟩
  cases n with
  | zero => exact P2.elim
  | succ n =>
    unfold whL at P2
    refine ⟨ρ2, env2, s2, E2, S2, (FPost.bind E2 S2 P2).imp fun c s3 H3 ρ3 x3 S3 P3 => ?_⟩
    cases c with
    | false => exact P3 σ2 H3 ρ3 .refl S3 (E2.mono x3.toExtW)
    | true =>
      refine ⟨fun σ' H' => ∃ ρ env sto, REnv X.K H' ρ env σ' ∧ RSt X.K H' ρ sto ∧ FPost X.K W D H' ρ (whL tc mb n env sto), fun σ' H' h => ⟨n, Nat.lt_succ_self n, h⟩, ρ3, env2, s3, E2.mono x3.toExtW, S3, ?_⟩
      have P3 : FPost X.K W D H3 ρ3 (match mb env2 s3 with
        | .nx e s2 => whL tc mb n e s2
        | .ct e s2 => whL tc mb n e s2
        | .bk e s2 => .nx e s2
        | r => r) := P3
      cases r : mb env2 s3 with
      | nx e4 s4 => rw [r] at P3; exact fun σ' H' ρ' x S E => ⟨ρ', e4, s4, E, S, FPost.shift x S3.hh P3⟩
      | ct e4 s4 => rw [r] at P3; exact fun σ' H' ρ' x S E => ⟨ρ', e4, s4, E, S, FPost.shift x S3.hh P3⟩
      | bk e4 s4 => rw [r] at P3; exact P3
      | rt v s4 => rw [r] at P3; exact P3
      | ex v e4 s4 => rw [r] at P3; exact P3
      | bad => rw [r] at P3; exact P3
end
end Mi

noncomputable section
namespace Mi
open PySem PySem.Spec PyProof.Rows L2

/-! ### comprehensions -/
def WF : WK := fun _ _ _ _ => False
def wipeE (env : Env) : List Nat → Env
  | [] => env
  | v :: vs => (wipeE env vs).set v none
section
variable {K : PySem.W.Frag} {H : Hp} {ρ : Rh} {sto : Sto} {D : Addr} {o : HO}
theorem wipeE_ok {env : Env} {σ : L2.St} (h : REnv K H ρ env σ) : ∀ vs, REnv K H ρ (wipeE env vs) (wipe σ vs)
  | [] => h
  | v :: vs => by
    have ih := wipeE_ok h vs
    refine ⟨by show ((wipeE env vs).set v none).length = ((wipe σ vs).set v none).length; simp [ih.1], fun i p e => ?_⟩
    have e : ((wipeE env vs).set v none)[i]? = some (some p) := e
    show ∃ w, ((wipe σ vs).set v none)[i]? = some (some w) ∧ _
    by_cases hv : v = i
    · subst hv
      by_cases hl : v < (wipeE env vs).length
      · rw [List.getElem?_set_self hl] at e; cases e
      · rw [List.getElem?_eq_none_iff.mpr (by simpa using hl)] at e; cases e
    · rw [List.getElem?_set_ne hv] at e
      obtain ⟨w, k1, k2⟩ := ih.2 i p e
      exact ⟨w, by rw [List.getElem?_set_ne hv]; exact k1, k2⟩
theorem wipe_len (σ : L2.St) : ∀ vs, (wipe σ vs).length = σ.length
  | [] => rfl
  | v :: vs => by
    show ((wipe σ vs).set v none).length = σ.length
    rw [List.length_set]; exact wipe_len σ vs
theorem wipe_get (σ : L2.St) (j : Nat) : ∀ vs, (j ∉ vs → (wipe σ vs)[j]? = σ[j]?) ∧ (j ∈ vs → (wipe σ vs)[j]? = if j < σ.length then some none else none)
  | [] => ⟨fun _ => rfl, fun h => by cases h⟩
  | v :: vs => by
    have ih := wipe_get σ j vs
    constructor
    · intro h
      show ((wipe σ vs).set v none)[j]? = _
      rw [List.getElem?_set_ne fun q => h (by rw [q]; exact List.mem_cons_self)]
      exact ih.1 fun z => h (List.mem_cons_of_mem _ z)
    · intro h
      show ((wipe σ vs).set v none)[j]? = _
      by_cases hv : v = j
      · subst hv
        by_cases hl : v < σ.length
        · rw [List.getElem?_set_self (by rw [wipe_len]; exact hl), if_pos hl]
        · rw [if_neg hl]
          exact List.getElem?_eq_none_iff.mpr (by rw [List.length_set, wipe_len]; omega)
      · rw [List.getElem?_set_ne hv]
        rcases List.mem_cons.mp h with z | z
        · exact absurd z.symm hv
        · exact ih.2 z
theorem wipe_only {σ σ2 : L2.St} {sl vs : List Nat} (h : Only sl (wipe σ vs) σ2) (hs : ∀ j ∈ sl, j ∈ vs) : wipe σ2 vs = wipe σ vs := by
  have hl : σ2.length = σ.length := h.1.trans (wipe_len σ vs)
  apply List.ext_getElem?
  intro j
  by_cases hj : j ∈ vs
  · rw [(wipe_get σ2 j vs).2 hj, (wipe_get σ j vs).2 hj, hl]
  · rw [(wipe_get σ2 j vs).1 hj, (wipe_get σ j vs).1 hj, h.2 j fun z => hj (hs j z)]
    exact (wipe_get σ j vs).1 hj
end
section
variable {K : PySem.W.Frag} {H : Hp} {ρ : Rh} {sto : Sto} {D : Addr} {o : HO}
/-- a new object, reserved -/
theorem extR (hD : H D = none) : ExtW ρ H ⟨ρ.bx, D :: ρ.rs, ρ.cg⟩ (upd H D o) :=
  ⟨⟨[], by simp, by simp⟩, ⟨⟨fun a h => List.mem_cons_of_mem _ h, fun a h => (List.mem_cons.mp h).elim (fun q => .inr (by rw [q]; exact hD)) .inl⟩, rfl⟩, fun a u h _ _ => by rw [upd_ne (ne_of_none h hD)]; exact h, fun a h => has_upd a h, kd_new hD⟩
theorem RSt.res (S : RSt K H ρ sto) (hD : H D = none) : RSt K (upd H D o) ⟨ρ.bx, D :: ρ.rs, ρ.cg⟩ sto :=
  ⟨S.nd, S.len, fun n a b e1 e2 => (S.at_ n a b e1 e2).imp (fun r => r.mono (extR hD)) fun u q => by rw [upd_ne (ne_of_none q hD)]; exact q, fun a ha => by
    rcases List.mem_cons.mp ha with z | z
    · rw [z]; exact ⟨(by rw [upd_same]; exact fun q => nomatch q), S.fresh hD⟩
    · exact ⟨has_upd a (S.rsv a z).1, (S.rsv a z).2⟩, fun a ha => by
    obtain ⟨h1, h2, h3⟩ := S.tb a ha
    have na : a ≠ D := ne_of_none h1 hD
    exact ⟨by rw [upd_ne na]; exact h1, h2, fun z => (List.mem_cons.mp z).elim na h3⟩⟩
/-- a reserved list is written -/
theorem extD {zs : List V} (hm : D ∈ ρ.rs) (hb : D ∉ ρ.bx) : ExtW ρ H ρ (upd H D (.lst zs)) :=
  ⟨⟨[], by simp, by simp⟩, rs_refl, fun a u h _ n => by rw [upd_ne fun q => n (by rw [q]; exact hm)]; exact h, fun a h => has_upd a h, fun a u ha h => ⟨u, by rw [upd_ne (show a ≠ D from fun q => hb (by rw [← q]; exact ha))]; exact h, alike_refl u⟩⟩
theorem RSt.putD {zs : List V} (S : RSt K H ρ sto) (hm : D ∈ ρ.rs) : RSt K (upd H D (.lst zs)) ρ sto :=
  ⟨S.nd, S.len, fun n a b e1 e2 => (S.at_ n a b e1 e2).imp (fun r => r.mono (extD hm (S.rsv D hm).2)) fun u q => by rw [upd_ne fun q => (S.rsv D hm).2 (by rw [← q]; exact List.mem_of_getElem? e1)]; exact q, fun a ha => ⟨has_upd a (S.rsv a ha).1, (S.rsv a ha).2⟩, S.tbw (extD hm (S.rsv D hm).2)⟩
end
/-! a reservation becomes a list that may change -/
mutual
theorem RV.boxed {K : PySem.W.Frag} {H : Hp} {b r r' : List Addr} {g : Addr} {D : Addr} (hD : D ∈ r) (e : ∀ a, a ∈ r' → a ∈ r) : ∀ {p : PV} {v : V}, RV K H ⟨b, r, g⟩ p v → RV K H ⟨b ++ [D], r', g⟩ p v
  | .non, _, h => h
  | .bl _, _, h => h
  | .int _, _, h => h
  | .str _, _, h => h
  | .ty _, _, h => h
  | .obj _, _, h => h
  | .fn _, _, h => h
  | .cat a dx ns xs, _, h => by
    obtain ⟨ys, h1, ⟨k1, k2, k3⟩, h3⟩ := h
    exact ⟨ys, h1, ⟨k1, fun z => (List.mem_append.mp z).elim k2 fun z => k3 (by rw [List.mem_singleton.mp z]; exact hD), fun z => k3 (e _ z)⟩, RVs.boxed hD e h3⟩
  | .box n, _, h => by
    obtain ⟨a, h1, h2⟩ := h
    refine ⟨a, h1, ?_⟩
    show (b ++ [D])[n]? = some a
    rw [List.getElem?_append_left (List.getElem?_eq_some_iff.mp h2).1]
    exact h2
  | .tup xs, _, h => by
    obtain ⟨a, ys, h1, h2, h3⟩ := h
    exact ⟨a, ys, h1, h2.imp (fun q => ⟨q.1, fun z => (List.mem_append.mp z).elim q.2.1 fun z => q.2.2 (by rw [List.mem_singleton.mp z]; exact hD), fun z => q.2.2 (e _ z)⟩) id, RVs.boxed hD e h3⟩
  | .lst xs, _, h => by
    obtain ⟨a, ys, h1, q, h3⟩ := h
    exact ⟨a, ys, h1, ⟨q.1, fun z => (List.mem_append.mp z).elim q.2.1 fun z => q.2.2 (by rw [List.mem_singleton.mp z]; exact hD), fun z => q.2.2 (e _ z)⟩, RVs.boxed hD e h3⟩
  | .fro xs, _, h => by
    obtain ⟨a, ys, h1, h2, h3⟩ := h
    exact ⟨a, ys, h1, h2.imp (fun q => ⟨q.1, fun z => (List.mem_append.mp z).elim q.2.1 fun z => q.2.2 (by rw [List.mem_singleton.mp z]; exact hD), fun z => q.2.2 (e _ z)⟩) id, RVs.boxed hD e h3⟩
  | .exc C ns xs, _, h => by
    obtain ⟨a, ys, h1, h2, h3⟩ := h
    obtain ⟨q1, q2, C', hc, q3⟩ := h2
    refine ⟨a, ys, h1, ⟨fun z => (List.mem_append.mp z).elim q1 fun z => q2 (by rw [List.mem_singleton.mp z]; exact hD), fun z => q2 (e _ z), C', hc, ?_⟩, RVs.boxed hD e h3⟩
    rcases q3 with h | ⟨dx, dn, dm, h⟩
    · exact .inl h
    · exact .inr ⟨dx, fun z => (List.mem_append.mp z).elim dn fun z => dm (by rw [List.mem_singleton.mp z]; exact hD), fun z => dm (e _ z), h⟩
theorem RVs.boxed {K : PySem.W.Frag} {H : Hp} {b r r' : List Addr} {g : Addr} {D : Addr} (hD : D ∈ r) (e : ∀ a, a ∈ r' → a ∈ r) : ∀ {p : List PV} {v : List V}, RVs K H ⟨b, r, g⟩ p v → RVs K H ⟨b ++ [D], r', g⟩ p v
  | [], _, h => h
  | x :: xs, _, h => by
    obtain ⟨v, ws, h1, h2, h3⟩ := h
    exact ⟨v, ws, h1, RV.boxed hD e h2, RVs.boxed hD e h3⟩
end
def lcL (J : MIt) (g : MG) (tt : MT) (elt : M) (env : Env) : Nat → Nat → List PV → Sto → R (List PV)
  | 0, _, _, _ => .bad
  | n + 1, i, acc, s => match J i s with
    | none => .ok acc s
    | some v => ((g v env s).noex).bind fun env1 s1 => ((tt env1 s1).noex).bind fun c s2 => bif c then
        ((elt env1 s2).noex).bind fun y s3 => bif Nat.blt acc.length sizeLine then lcL J g tt elt env n (i + 1) (acc ++ [y]) s3 else .bad
      else lcL J g tt elt env n (i + 1) acc s2
def mLc (N : Nat) (fr : Bool) (mi : MI) (vs : List Nat) (g : MG) (tt : MT) (elt : M) : M := fun env s => (mi env s).bind fun J s1 =>
  ((lcL J g tt elt (wipeE env vs) N 0 [] s1).noex).bind fun acc s2 => fresh fr acc s2
def mYes : MT := fun _ s => .ok true s
section
variable {X : Cx} {W : WK} {elt tg iter c : Expr} {ifs : List Expr} {scope : Scope} {own : List (Str × Nat)} {pos : Pos} {mi : MI} {g : MG} {tt : MT} {me : M} {sl : List Nat}
theorem noex_post {α : Type} {K : PySem.W.Frag} {WP WP' : XK} {H : Hp} {ρ : Rh} {G : α → Sto → Hp → Rh → Prop} {r : R α} (h : Post K WP H ρ G r.noex) : Post K WP' H ρ G r := Post.unex h
theorem mTs_nil {X : Cx} {W : WK} : ∃ t, PTs X [] t ∧ ST X.K W t mYes := ⟨_, pts_nil, fun _ H ρ _ _ _ _ hS hP => hP H ρ .refl hS⟩
theorem noex_noex {α : Type} (r : R α) : r.noex.noex = r.noex := by cases r <;> rfl
theorem noex_bind {α β : Type} (r : R α) (f : α → Sto → R β) : (r.bind f).noex = r.noex.bind fun a s => (f a s).noex := by cases r <;> rfl
end
/-- what is wanted behind the turns of a comprehension, from its start on -/
def PL (K : PySem.W.Frag) (ρ1 : Rh) (H1 : Hp) (D : Addr) (Q : VK) : R (List PV) → Prop
  | .ok acc s => ∀ H' ρ' ys, ExtW ⟨ρ1.bx, D :: ρ1.rs, ρ1.cg⟩ (upd H1 D (.lst [])) ρ' H' → ρ'.rs = D :: ρ1.rs → RSt K H' ρ' s → RVs K H' ρ' acc ys → H' D = some (.lst ys) → (∀ a, a ∈ ρ1.rs → H' a = H1 a) → Q (.ref D) H'
  | .ex _ _ => False
  | .bad => False
section
variable {X : Cx} {W : WK} {elt tg iter c : Expr} {ifs : List Expr} {scope : Scope} {own : List (Str × Nat)} {pos : Pos} {mi : MI} {g : MG} {tt : MT} {me : M} {sl : List Nat}
theorem PL.bind {α : Type} {K : PySem.W.Frag} {ρ1 : Rh} {H1 : Hp} {D : Addr} {Q : VK} {f : α → Sto → R (List PV)} {WP : XK} {H : Hp} {ρ : Rh} : ∀ {r : R α}, PL K ρ1 H1 D Q (r.noex.bind f) → Post K WP H ρ (fun a s _ _ => PL K ρ1 H1 D Q (f a s)) r
  | .ok _ _, h => fun _ _ _ _ => h
  | .ex _ _, h => h.elim
  | .bad, h => h
/-- the reading of a comprehension -/
theorem lc_ok {K : PySem.W.Frag} {vs : List Nat} {wi : TI} {gt : TG} {ttt : TT} {te : TE} (N : Nat) (fr : Bool) (hi : SI K W wi mi) (hg : SG K WF gt g sl) (ht : ST K WF ttt tt) (he : SE K WF te me) (hs : ∀ j ∈ sl, j ∈ vs) : SE K W (tLc wi gt ttt te vs) (mLc N fr mi vs g tt me) := by
  intro σ H ρ env sto Q hE hS hP
  refine hi σ H ρ env sto _ hE hS ((hP.bind hS).imp fun J s1 H1 ρ1 x1 S1 P1 Jh hJ => ?_)
  intro D hD
  have ED : REnv K (upd H1 D (.lst [])) ⟨ρ1.bx, D :: ρ1.rs, ρ1.cg⟩ (wipeE env vs) (wipe σ vs) := (wipeE_ok (hE.mono x1.toExtW) vs).mono (extR hD)
  have SD : RSt K (upd H1 D (.lst [])) ⟨ρ1.bx, D :: ρ1.rs, ρ1.cg⟩ s1 := S1.res hD
  have hnD : D ∉ ρ1.bx := S1.fresh hD
  have hnR : D ∉ ρ1.rs := S1.freshR hD
  refine ⟨fun i n H => ∃ (ρ : Rh) (s : Sto) (acc : List PV) (ys : List V), ExtW ⟨ρ1.bx, D :: ρ1.rs, ρ1.cg⟩ (upd H1 D (.lst [])) ρ H ∧ ρ.rs = D :: ρ1.rs ∧ (∀ a, a ∈ ρ1.rs → H a = H1 a) ∧ RSt K H ρ s ∧ H D = some (.lst ys) ∧ RVs K H ρ acc ys ∧
    PL K ρ1 H1 D Q (lcL J g tt me (wipeE env vs) n i acc s), ⟨N, ⟨ρ1.bx, D :: ρ1.rs, ρ1.cg⟩, s1, [], [], Ext.refl.toExtW, rfl, fun a ha => upd_ne fun q => hnR (q ▸ ha), SD, upd_same, rfl, ?_⟩, ?_⟩
  · cases r : lcL J g tt me (wipeE env vs) N 0 [] s1 with
    | bad => rw [r] at P1; exact P1.elim
    | ex e s => rw [r] at P1; exact P1.elim
    | ok acc s2 =>
      rw [r] at P1
      have P1' : Post K (fun c d h => W c d σ h) H1 ρ1 (GV K Q) (fresh fr acc s2) := P1
      intro H' ρ' ys xw xr S rv hDy hr
      have hDr : D ∈ ρ'.rs := by rw [xr]; exact List.mem_cons_self
      have hDb : D ∉ ρ'.bx := (S.rsv D hDr).2
      have pre : ∃ r, ρ'.bx = ρ1.bx ++ r ∧ ∀ a ∈ r, H1 a = none := by
        obtain ⟨r, hr, hn⟩ := xw.pre
        refine ⟨r, hr, fun a ha => ?_⟩
        have := hn a ha
        by_cases q : a = D
        · rw [q]; exact hD
        · rw [upd_ne q] at this; exact this
      have keep : ∀ a o, H1 a = some o → a ∉ ρ1.bx → a ∉ ρ1.rs → H' a = some o := fun a o h n m => by
        have qa : a ≠ D := ne_of_none h hD
        exact xw.keep a o (by rw [upd_ne qa]; exact h) n fun z => (List.mem_cons.mp z).elim qa m
      have has : ∀ a, H1 a ≠ none → H' a ≠ none := fun a h => xw.has a (has_upd a h)
      have kd : ∀ a o, a ∈ ρ1.bx → H1 a = some o → ∃ o', H' a = some o' ∧ alike o o' := fun a o hb h => xw.kd a o hb (by rw [upd_ne (ne_of_none h hD)]; exact h)
      have tb : ∀ a, GenTab K a → H' a = some (.ext (G0.tabOk a)) ∧ a ∉ ρ'.bx ∧ a ∉ ρ1.rs := fun a ha => by
        obtain ⟨h1, h2, h3⟩ := S.tb a ha
        exact ⟨h1, h2, fun z => h3 (by rw [xr]; exact List.mem_cons_of_mem _ z)⟩
      have hres : ∀ a, a ∈ ρ1.rs → a ∉ ρ1.bx → H' a = H1 a := fun a ha _ => hr a ha
      have un : ∀ a, a ∈ ρ1.rs → a ∈ ρ'.rs := fun a ha => by rw [xr]; exact List.mem_cons_of_mem _ ha
      cases fr with
      | false =>
        have S' : RSt K H' ⟨ρ'.bx, ρ1.rs, ρ'.cg⟩ s2 := ⟨S.nd, S.len, fun n a b e1 e2 => (S.at_ n a b e1 e2).imp (fun h2 => RVs.unres (b := ρ'.bx) un h2) fun _ q => q, fun a ha => S.rsv a (un a ha), tb⟩
        exact P1' H' ⟨ρ'.bx, ρ1.rs, ρ'.cg⟩ ⟨⟨pre, ⟨rs_refl.1, xw.rs.2⟩, keep, has, kd⟩, rfl, hres⟩ S' _ ⟨D, ys, rfl, ⟨hDy, hDb, hnR⟩, RVs.unres (b := ρ'.bx) un rv⟩
      | true =>
        obtain ⟨r, hr1, hn⟩ := pre
        have pre2 : ∃ r, ρ'.bx ++ [D] = ρ1.bx ++ r ∧ ∀ a ∈ r, H1 a = none := ⟨r ++ [D], by rw [hr1, List.append_assoc], fun a ha => by
          rcases List.mem_append.mp ha with z | z
          · exact hn a z
          · rw [List.mem_singleton.mp z]; exact hD⟩
        have mv : ∀ {p : List PV} {v : List V}, RVs K H' ρ' p v → RVs K H' ⟨ρ'.bx ++ [D], ρ1.rs, ρ'.cg⟩ p v := fun h => RVs.boxed (b := ρ'.bx) hDr un h
        have S2 : RSt K H' ⟨ρ'.bx ++ [D], ρ1.rs, ρ'.cg⟩ (s2 ++ [.l acc]) := by
          refine ⟨?_, by simp [S.len], fun n a zs e1 e2 => ?_, fun a ha => ⟨(S.rsv a (un a ha)).1, fun z => ?_⟩, fun a ha => ⟨(tb a ha).1, fun z => (List.mem_append.mp z).elim (tb a ha).2.1 fun z => (S.tb a ha).2.2 (by rw [List.mem_singleton.mp z]; exact hDr), (tb a ha).2.2⟩⟩
          · refine List.nodup_append.mpr ⟨S.nd, by simp, fun a ha b hb => ?_⟩
            rw [List.mem_singleton.mp hb]
            exact fun q => hDb (q ▸ ha)
          · by_cases hn : n < ρ'.bx.length
            · rw [List.getElem?_append_left hn] at e1
              rw [List.getElem?_append_left (S.len ▸ hn)] at e2
              exact (S.at_ n a zs e1 e2).imp (fun h2 => mv h2) fun _ q => q
            · have hn' : n = ρ'.bx.length := by
                have := (List.getElem?_eq_some_iff.mp e1).1
                simp at this; omega
              subst hn'
              simp at e1
              rw [S.len] at e2
              simp at e2
              subst e1; subst e2
              exact ⟨ys, hDy, mv rv⟩
          · rcases List.mem_append.mp z with z | z
            · exact (S.rsv a (un a ha)).2 z
            · exact hnR (by rw [← List.mem_singleton.mp z]; exact ha)
        exact P1' H' ⟨ρ'.bx ++ [D], ρ1.rs, ρ'.cg⟩ ⟨⟨pre2, ⟨rs_refl.1, xw.rs.2⟩, keep, has, kd⟩, rfl, hres⟩ S2 _ ⟨D, rfl, by rw [← S.len]; simp⟩
  · rintro i n H2 ⟨ρ2, s2, acc, ys, x2, xr2, hr2, S2, hDy, rv, P2⟩
    cases n with
    | zero => exact P2.elim
    | succ n =>
      have hDr : D ∈ ρ2.rs := by rw [xr2]; exact List.mem_cons_self
      have hj := hJ i H2 ρ2 s2 ((extR hD).trans x2) S2
      unfold lcL at P2
      cases e : J i s2 with
      | none =>
        rw [e] at hj P2
        exact .inl ⟨hj, P2 H2 ρ2 ys x2 xr2 S2 rv hDy hr2⟩
      | some v =>
        rw [e] at hj P2
        refine .inr ⟨hj.1, fun H => ∃ (ρ : Rh) (s : Sto) (acc : List PV) (ys : List V), ExtW ⟨ρ1.bx, D :: ρ1.rs, ρ1.cg⟩ (upd H1 D (.lst [])) ρ H ∧ ρ.rs = D :: ρ1.rs ∧ (∀ a, a ∈ ρ1.rs → H a = H1 a) ∧ RSt K H ρ s ∧ H D = some (.lst ys) ∧ RVs K H ρ acc ys ∧
          PL K ρ1 H1 D Q (lcL J g tt me (wipeE env vs) n (i + 1) acc s), fun H' h => ⟨n, Nat.lt_succ_self n, h⟩, fun x H' hy => ?_⟩
        obtain ⟨y1, y2, y3⟩ := hj.2 x H' hy
        have E2 : REnv K H' ρ2 (wipeE env vs) (wipe σ vs) := (ED.mono x2).mono y1.toExtW
        refine hg v x (wipe σ vs) H' ρ2 (wipeE env vs) s2 _ E2 y2 y3 ((PL.bind P2).imp fun env3 s3 H3 ρ3 x3 S3 P4 σ3 E3 O3 => ?_)
        refine ⟨wipe_only O3 hs, ?_⟩
        refine ht σ3 H3 ρ3 env3 s3 _ E3 S3 ((PL.bind P4).imp fun c s4 H4 ρ4 x4 S4 P5 => ?_)
        have xD4 : Ext ρ2 H2 ρ4 H4 := (y1.trans x3 S2.hh).trans x4 S2.hh
        have fin : ∀ {H5 : Hp} {ρ5 : Rh}, Ext ρ4 H4 ρ5 H5 → ExtW ⟨ρ1.bx, D :: ρ1.rs, ρ1.cg⟩ (upd H1 D (.lst [])) ρ5 H5 ∧ ρ5.rs = D :: ρ1.rs ∧ (∀ a, a ∈ ρ1.rs → H5 a = H1 a) ∧ H5 D = some (.lst ys) ∧ RVs K H5 ρ5 acc ys := fun x5 => by
          have xx := xD4.trans x5 S2.hh
          refine ⟨x2.trans xx.toExtW, xx.rse.trans xr2, fun a ha => ?_, ?_, rv.mono xx.toExtW⟩
          · have ha2 : a ∈ ρ2.rs := by rw [xr2]; exact List.mem_cons_of_mem _ ha
            exact (xx.res a ha2 (S2.rsv a ha2).2).trans (hr2 a ha)
          · exact (xx.res D hDr (S2.rsv D hDr).2).trans hDy
        cases c with
        | false =>
          obtain ⟨f1, f2, f3, f4, f5⟩ := fin .refl
          exact ⟨ρ4, s4, acc, ys, f1, f2, f3, S4, f4, f5, P5⟩
        | true =>
          refine he σ3 H4 ρ4 env3 s4 _ (E3.mono x4.toExtW) S4 ((PL.bind P5).imp fun y s5 H5 ρ5 x5 S5 P6 z hz => ?_)
          obtain ⟨f1, f2, f3, f4, f5⟩ := fin x5
          have f6 : D ∈ ρ5.rs := by rw [f2]; exact List.mem_cons_self
          cases q : Nat.blt acc.length sizeLine with
          | false => rw [q] at P6; exact P6.elim
          | true =>
            rw [q] at P6
            refine ⟨ys, f4, by rw [← f5.length]; exact Nat.le_of_ble_eq_true q, ?_⟩
            have xe := extD (H := H5) (zs := ys ++ [z]) f6 (S5.rsv D f6).2
            refine ⟨ρ5, s5, acc ++ [y], ys ++ [z], f1.trans xe, f2, fun a ha => ?_, S5.putD f6, upd_same, (f5.append (.cons hz .nil)).mono xe, P6⟩
            have na : a ≠ D := fun q => hnR (by rw [← q]; exact ha)
            rw [upd_ne na]; exact f3 a ha
/-- what holds in every block of this comprehension -/
abbrev InBlk (X : Cx) (scope : Scope) (P : Cx → Prop) : Prop := ∀ (s : Shared) (H : Hp) (C : Addr) (cl : List (Str × Addr)) (fp : List Addr), P (X.blk s H scope (compEnvC scope cl C X.env) fp)
def cG (K : PySem.W.Frag) (m : MG) (sl : List Nat) : TG := fun x σ H Q => ∃ v ρ env sto, REnv K H ρ env σ ∧ RSt K H ρ sto ∧ RV K H ρ v x ∧ Post K (fun _ _ _ => False) H ρ (fun env1 _ H' ρ' => ∀ σ', REnv K H' ρ' env1 σ' → Only sl σ σ' → Q σ' H') (m v env sto)
theorem MGt.can (h : MGt X W tg g sl) : PG X tg (cG X.K g sl) := by
  obtain ⟨t, p, s⟩ := h
  exact ⟨fun pins st σ H x u Q I r ⟨v, ρ, env, sto, h1, h2, h3, h4⟩ => p.run pins st σ H x u Q I r (s v x σ H ρ env sto Q h1 h2 h3 h4)⟩
theorem sg_can {K : PySem.W.Frag} : SG K W (cG K g sl) g sl := fun v x σ H ρ env sto Q h1 h2 h3 h4 => ⟨v, ρ, env, sto, h1, h2, h3, h4⟩
def MTs (X : Cx) (W : WK) (ifs : List Expr) (m : MT) : Prop := PTs X ifs (cT X.K W m)
theorem ts_nil : MTs X W [] mYes := ⟨fun pins st σ H Q I ⟨ρ, env, sto, h1, h2, h3⟩ => pts_nil.run pins st σ H Q I (h3 H ρ .refl h2)⟩
theorem ts_one {e : Expr} (h : MTe X W e tt) : MTs X W [e] tt := pts_one h.can
theorem e_lc (N : Nat) (fr : Bool) (hc : X.calm = true) (hN : X.N.Nodup) (ok : BlkOk X.N X.env.scope scope own) (hs : ∀ j ∈ sl, j ∈ own.map (·.2)) (hi : MIr X W tg iter mi)
    (hg : InBlk X scope fun Y => MGt Y WF tg g sl) (ht : InBlk X scope fun Y => MTs Y WF ifs tt) (he : InBlk X scope fun Y => ME Y WF elt me)
    (hf : ∀ x, foldedSetIterable iter X.env x = pure x := by intro _; rfl) : ME X W (.ListComp elt [⟨tg, iter, ifs, 0⟩] scope pos) (mLc N fr mi (own.map (·.2)) g tt me) := by
  obtain ⟨t, q, s⟩ := hi
  exact ⟨_, pe_lc (g := cG X.K g sl) (tt := cT X.K WF tt) (te := cE X.K WF me) hc hN q ok (fun s H C cl fp => (hg s H C cl fp).can) (fun s H C cl fp => ht s H C cl fp) (fun s H C cl fp => (he s H C cl fp).can) hf, lc_ok N fr s sg_can st_can se_can hs⟩
/-- x = [..] -/
theorem s_lc {i : Nat} {y : Str} {py : Pos} {spos : Pos} (N : Nat) (fr : Bool) (hc : X.calm = true) (hN : X.N.Nodup) (hy : X.N[i]? = some y) (hyl : X.env.scope.names.lookup y = some .local)
    (hsw : swapsWith (.ListComp elt [⟨tg, iter, ifs, 0⟩] scope pos) (some (.Name y py)) spos.line X.env = pure true) (ok : BlkOk X.N X.env.scope scope own) (hs : ∀ j ∈ sl, j ∈ own.map (·.2)) (hi : MIr X W tg iter mi)
    (hg : InBlk X scope fun Y => MGt Y WF tg g sl) (ht : InBlk X scope fun Y => MTs Y WF ifs tt) (he : InBlk X scope fun Y => ME Y WF elt me)
    (hf : ∀ x, foldedSetIterable iter X.env x = pure x := by intro _; rfl) : MSt X W (.Assign [.Name y py] (.ListComp elt [⟨tg, iter, ifs, 0⟩] scope pos) spos) (sAsg (mLc N fr mi (own.map (·.2)) g tt me) (gNm i)) := by
  obtain ⟨t, q, s⟩ := hi
  refine ⟨_, ps_setLc (g := cG X.K g sl) (tt := cT X.K WF tt) (te := cE X.K WF me) hc hN hy hyl hsw q ok (fun s H C cl fp => (hg s H C cl fp).can) (fun s H C cl fp => ht s H C cl fp) (fun s H C cl fp => (he s H C cl fp).can) hf, fun D σ H ρ env sto h1 h2 h3 => ?_⟩
  refine lc_ok N fr s sg_can st_can se_can hs σ H ρ env sto _ h1 h2 ((FPost.bind h1 h2 h3).imp fun v s1 H1 ρ1 x1 S1 P1 => ?_)
  intro y hy
  exact P1 _ H1 ρ1 .refl S1 (by rw [setR_eq]; exact (h1.mono x1.toExtW).set i hy)
end
end Mi

noncomputable section
namespace Mi
open PySem PySem.Spec PyProof.Rows L2

/-! ### defs: what they promise -/
def spF (K : PySem.W.Frag) (n : Nat) (run : GC) : Sp := fun vs H Q E => vs.length = n ∧ ∃ (args : List PV) (ρ : Rh) (sto : Sto), RVs K H ρ args vs ∧ RSt K H ρ sto ∧ Post K E H ρ (GV K Q) (run args sto)
abbrev FOk (P : Program) (w : World) (K : PySem.W.Frag) (mg : Str → Option Value) (base : Heap) (k : Nat) (f : Addr) (fd : FuncData) (ps : List Str) (run : GC) : Prop :=
  FnOk P w K mg base (L2.CX P w) k f fd ps (spF K ps.length run)
def start' (n : Nat) (args : List PV) : Env := args.map some ++ List.replicate n none
def ret : Fl → R PV
  | .rt v s => .ok v s
  | .nx _ s => .ok .non s
  | .ex e _ s => .ex e s
  | _ => .bad
/-- m: how many names besides the parameters -/
def runB (m : Nat) (body : MS) : GC := fun args s => ret (body (start' m args) s)
section
variable {K : PySem.W.Frag} {H : Hp} {ρ : Rh} {sto : Sto}
theorem start_ok {N : List Str} {args : List PV} {vs : List V} {m : Nat} (r : RVs K H ρ args vs) (hm : N.length - vs.length = m) : REnv K H ρ (start' m args) (L2.start N vs) := by
  unfold start' L2.start
  rw [hm]
  refine ⟨by simp [r.length], fun i p e => ?_⟩
  by_cases hi : i < args.length
  · rw [List.getElem?_append_left (by simpa using hi), List.getElem?_map] at e
    cases q : args[i]? with
    | none => rw [q] at e; cases e
    | some x =>
      rw [q] at e
      cases e
      obtain ⟨y, h1, h2⟩ := r.get q
      refine ⟨y, ?_, h2⟩
      rw [List.getElem?_append_left (by rw [List.length_map, ← r.length]; exact hi), List.getElem?_map, h1]
      rfl
  · rw [List.getElem?_append_right (by simpa using Nat.le_of_not_lt hi)] at e
    rw [List.getElem?_replicate] at e
    split at e <;> cases e
end
section
variable {P : Program} {w : World} {K : PySem.W.Frag} {mg : Str → Option Value} {base : Heap} {k : Nat} {f : Addr} {fd : FuncData} {ps N : List Str} {x qual : Str} {st : Stmt}
theorem fn_bad : FOk P w K mg base k f fd ps (fun _ _ => .bad) :=
  ⟨fun _ _ _ _ h => h.1, fun _ _ _ _ _ _ _ _ _ _ _ _ _ h => let ⟨_, _, _, _, _, _, z⟩ := h; z.elim⟩
theorem fn_ok {body : MS} (m : Nat) (F : Fun K x qual st f fd) (S : FnScope N ps (defScope st)) (hm : N.length - ps.length = m)
    (hb : ∀ (cdv : Value) (A : Around) (outer : List PySem.Env) (s : Shared) (H : Hp) (E : XK), Room k (A.deeper (envOfC qual (defScope st) s.heap.objs.size f cdv)) →
      MSs (cxOf (L2.CX P w) P w K mg base N qual (defScope st) f cdv A outer s H E) (fun cls d _ H => E cls d H) (defBody st) body) :
    FOk P w K mg base (k + 1) f fd ps (runB m body) := by
  refine F.okX S (fun _ _ _ _ h => h.1) fun cdv A outer s H vs Q E hr h => ?_
  obtain ⟨hl, args, ρ, sto, r, St, P⟩ := h
  obtain ⟨t, p, z⟩ := hb cdv A outer s H E hr
  refine ⟨t, p, z _ (L2.start N vs) H ρ (start' m args) sto (start_ok r (by rw [hl]; exact hm)) St ?_⟩
  unfold runB at P
  cases q : body (start' m args) sto with
  | nx env s => rw [q] at P; exact fun σ' H' ρ' x S' _ => P H' ρ' x S' _ rfl
  | rt v s => rw [q] at P; exact fun y H' ρ' x S' hy => P H' ρ' x S' y hy
  | bk env s => rw [q] at P; exact P.elim
  | ct env s => rw [q] at P; exact P.elim
  | ex e env s => rw [q] at P; exact fun cls d σ' H' ρ' x S' _ hx => P cls d H' ρ' x S' hx
  | bad => rw [q] at P; exact P.elim
theorem FOk.mono {run : GC} {j : Nat} (h : FOk P w K mg base j f fd ps run) (hk : j ≤ k) : FOk P w K mg base k f fd ps run := FnOk.mono h hk
end

/-! ### calls of the text's own defs -/
section
variable {X : Cx} {W : WK} {k : Nat} {f : Addr} {fd : FuncData} {ps : List Str} {run : GC} {x : Str} {e : Expr} {es : List Expr} {ms mk : MA} {p pos kpos : Pos}
theorem sp_now {t : TA} (n : Nat) (hn : ∀ args s r, run args s = r → r ≠ .bad → args.length = n) (s : SA X.K W t ms) : SE X.K W (fun σ H Q => t σ H fun vs H1 => spF X.K n run vs H1 Q (WE W σ)) (mCall run ms) := by
  intro σ H ρ env sto Q hE hS hP
  refine s σ H ρ env sto _ hE hS ((hP.bind hS).imp fun v s1 H1 ρ1 x1 S1 P1 ys hys => ?_)
  refine ⟨?_, v, ρ1, s1, hys, S1, P1⟩
  rw [← hys.length]
  refine hn v s1 _ rfl fun q => ?_
  rw [q] at P1
  exact P1.elim
/-- a meaning that takes n arguments -/
def Ar (n : Nat) (run : GC) : Prop := ∀ args s r, run args s = r → r ≠ .bad → args.length = n
def ar (n : Nat) (run : GC) : GC := fun args s => bif Nat.beq args.length n then run args s else .bad
theorem ar_ok (n : Nat) (run : GC) : Ar n (ar n run) := fun args s r h hb => by
  unfold ar at h
  cases q : Nat.beq args.length n with
  | true => exact Nat.eq_of_beq_eq_true q
  | false => rw [q] at h; exact absurd h.symm hb
theorem e_call (F : FOk X.prog X.w X.K X.mg X.base k f fd ps run) (hr : Room k X.A) (tk : Takes X W) (hg : Gl X x) (hm : X.mg x = some (.ref f)) (hk : PySem.W.keepIn X.K (.ref f) = true) (hb : Binds X.K fd ps []) (ha : MEs X W (e :: es) ms)
    {n : Nat} (hn : ps.length = n := by rfl) (hdb : (x == ("__debug__" : Str)) = false := by decide) (he : starEach (e :: es) X.env = (false, eval e X.env) :: starEach es X.env := by rfl) (hpl : (backTo pos (starEach es X.env)).any (·.1) = false := by rfl) :
    ME X W (.Call (.Name x p) (e :: es) [] pos) (mCall (ar n run) ms) := by
  subst hn
  obtain ⟨t, q, s⟩ := ha
  refine ⟨_, pe_callS F hr hg hm hk hb (fun σ => passAt tk σ) q hdb he hpl, fun σ H ρ env sto Q hE hS hP => ?_⟩
  refine s σ H ρ env sto _ hE hS ((hP.bind hS).imp fun v s1 H1 ρ1 x1 S1 P1 ys hys => ?_)
  unfold ar at P1
  cases q : Nat.beq v.length ps.length with
  | false => rw [q] at P1; exact P1.elim
  | true =>
    rw [q] at P1
    exact ⟨by rw [← hys.length]; exact Nat.eq_of_beq_eq_true q, v, ρ1, s1, hys, S1, P1⟩
theorem e_call0 (F : FOk X.prog X.w X.K X.mg X.base k f fd [] run) (hr : Room k X.A) (tk : Takes X W) (hg : Gl X x) (hm : X.mg x = some (.ref f)) (hk : PySem.W.keepIn X.K (.ref f) = true) (hb : Binds X.K fd [] [])
    (hdb : (x == ("__debug__" : Str)) = false := by decide) : ME X W (.Call (.Name x p) [] [] pos) (fun _ s => run [] s) := by
  refine ⟨fun σ H Q => spF X.K 0 run [] H Q (WE W σ), ⟨fun pins s σ H Q I h => ?_⟩, fun σ H ρ env sto Q hE hS hP => ⟨rfl, [], ρ, sto, rfl, hS, hP⟩⟩
  refine wpAny_Call_Name_kw (ld_glob I hg hm ?_ hdb)
  exact PySem.W.callWith_K0 I.kIn hk (run_fnS (E := WE W) (us := []) (vs := []) F hr hb (passAt tk σ) I .nil h)
/-- keywords: how the values go to the parameters, g; in PV likewise -/
structure KB (K : PySem.W.Frag) (fd : FuncData) (ps ks : List Str) (g : List Value → List Value → List Value) (gV : List V → List V → List V) (gP : List PV → List PV → List PV) : Prop extends KBinds K fd ps ks g gV where
  relP : ∀ {H : Hp} {ρ : Rh} {vs zs : List PV} {us ws : List V}, RVs K H ρ vs us → RVs K H ρ zs ws → RVs K H ρ (gP vs zs) (gV us ws)
def MKs (X : Cx) (W : WK) (kws : List Keyword) (m : MA) : Prop := ∃ t, PK X kws t ∧ SA X.K W t m
theorem k_nil : MKs X W [] mNil := ⟨_, pk_nil, fun _ H ρ _ _ _ _ hS hP => hP H ρ .refl hS _ rfl⟩
theorem k_cons {nm : Option Str} {kws : List Keyword} {m : M} {mk : MA} (h1 : ME X W e m) (h2 : MKs X W kws mk) : MKs X W (⟨nm, e, kpos⟩ :: kws) (mCons m mk) := by
  obtain ⟨t, p, s⟩ := h1
  obtain ⟨u, q, r⟩ := h2
  refine ⟨_, pk_cons p q, fun σ H ρ env sto Q hE hS hP => ?_⟩
  refine s σ H ρ env sto _ hE hS ((hP.bind hS).imp fun v s1 H1 ρ1 x1 S1 P1 y hy => ?_)
  refine r σ H1 ρ1 env s1 _ (hE.mono x1.toExtW) S1 ((P1.bind S1).imp fun vs s2 H2 ρ2 x2 S2 P2 ys hys => ?_)
  exact P2 H2 ρ2 .refl S2 _ (.cons (hy.mono x2.toExtW) hys)
def mCallK (gP : List PV → List PV → List PV) (n : Nat) (run : GC) (ms mk : MA) : M := fun env s => (ms env s).bind fun vs s1 => (mk env s1).bind fun zs s2 => ar n run (gP vs zs) s2
theorem run_kw {ks : List Str} {g : List Value → List Value → List Value} {gV : List V → List V → List V} {gP : List PV → List PV → List PV} {pins : List (Addr × Obj)} {σ : L2.St} {H : Hp} {s : Shared} {Q : VK} {us ws : List Value} {vs zs : List V}
    (F : FOk X.prog X.w X.K X.mg X.base k f fd ps run) (hr : Room k X.A) (tk : Takes X W) (hb : KB X.K fd ps ks g gV gP)
    (I : Inv X pins σ H s) (r : Vals vs us) (rz : Vals zs ws) (h : spF X.K ps.length run (gV vs zs) H Q (WE W σ)) : wpAny (model X.prog X.w) X.A (call (.ref f) us (ks.zip ws)) (EP X pins σ Q) X.xe s := by
  have r2 := hb.rel r rz
  have hl : (g us ws).length = ps.length := by rw [← r2.length]; exact F.len _ _ _ _ h
  have c := F.run X.A X.stack s H ⟨us, ks.zip ws⟩ (g us ws) (gV vs zs) Q (WE W σ) hr I.env0 (hb.to s us ws I.kIn hl) r2 h
  refine wpAny_call (codeAny_mono c fun r s' hq => ?_)
  match r, hq with
  | .error e, hq => exact passAt tk σ pins H s e s' I hq
  | .ok (.ret u), hq => exact I.after hq
  | .ok .next, hq => exact hq.elim
  | .ok .brk, hq => exact hq.elim
  | .ok .cont, hq => exact hq.elim
theorem e_callK {ks : List Str} {g : List Value → List Value → List Value} {gV : List V → List V → List V} {gP : List PV → List PV → List PV} {kws : List Keyword}
    (F : FOk X.prog X.w X.K X.mg X.base k f fd ps run) (hr : Room k X.A) (tk : Takes X W) (hg : Gl X x) (hm : X.mg x = some (.ref f)) (hk : PySem.W.keepIn X.K (.ref f) = true) (hb : KB X.K fd ps ks g gV gP)
    (ha : MEs X W (e :: es) ms) (hkw : MKs X W kws mk) {n : Nat} (hn : ps.length = n := by rfl) (hall : (backToKw pos (keywordEach kws X.env)).all (·.1.isSome) = true := by rfl) (hks : (backToKw pos (keywordEach kws X.env)).filterMap (·.1) = ks := by rfl)
    (hdb : (x == ("__debug__" : Str)) = false := by decide) (he : starEach (e :: es) X.env = (false, eval e X.env) :: starEach es X.env := by rfl)
    (hpl : ((backTo pos (starEach (e :: es) X.env)).any (·.1) || (backToKw pos (keywordEach kws X.env)).any (·.1.isNone)) = false := by rfl) :
    ME X W (.Call (.Name x p) (e :: es) kws pos) (mCallK gP n run ms mk) := by
  subst hn
  obtain ⟨t, q, s⟩ := ha
  obtain ⟨u, qk, sk⟩ := hkw
  refine ⟨fun σ H Q => t σ H fun vs H1 => u σ H1 fun zs H2 => spF X.K ps.length run (gV vs zs) H2 Q (WE W σ), ⟨fun pins st σ H Q I h => ?_⟩, fun σ H ρ env sto Q hE hS hP => ?_⟩
  · refine wpAny_Call_Name_kw (ld_glob I hg hm ?_ hdb)
    refine PySem.W.callWith_KW (h₀ := X.base) I.ok.mod.kin hk hall (thn (q.run pos pins st σ H _ I h) fun us s1 ⟨vs, H1, I1, r, q1⟩ => ?_) hpl he
    refine thn (qk.run pos pins s1 σ H1 _ I1 q1) fun ws s2 ⟨zs, H2, I2, rz, q2⟩ => ⟨I2.kIn, ?_⟩
    rw [hks]
    exact run_kw F hr tk hb I2 r rz q2
  · refine s σ H ρ env sto _ hE hS ((hP.bind hS).imp fun v s1 H1 ρ1 x1 S1 P1 ys hys => ?_)
    refine sk σ H1 ρ1 env s1 _ (hE.mono x1.toExtW) S1 ((P1.bind S1).imp fun z s2 H2 ρ2 x2 S2 P2 us hus => ?_)
    have rr := hb.relP (hys.mono x2.toExtW) hus
    unfold ar at P2
    cases q : Nat.beq (gP v z).length ps.length with
    | false => rw [q] at P2; exact P2.elim
    | true =>
      rw [q] at P2
      exact ⟨by rw [← rr.length]; exact Nat.eq_of_beq_eq_true q, _, ρ2, s2, rr, S2, P2⟩
end
end Mi

noncomputable section
namespace Mi
open PySem PySem.Spec PyProof.Rows L2
section
variable {X : Cx} {W : WK}
/-- the name that stands in the i-th slot -/
theorem e_v (i : Nat) {x : Str} {pos : Pos} (hN : X.N[i]? = some x := by rfl) (hv : Vis X.env.scope x := by first | exact Or.inl rfl | exact Or.inr (Or.inl rfl) | exact Or.inr (Or.inr rfl)) (hd : (x == ("__debug__" : Str)) = false := by decide)
    (hcd : (x == ("__classdict__" : Str)) = false := by decide) : ME X W (.Name x pos) (mVar i) := e_var hN hv hd hcd
theorem gl_of {x : Str} (h : X.env.kindOf x = some .globalImplicit) : Gl X x := h
end
/-! math.lcm -/
def okL (a b : Int) : Bool := Nat.blt (max 1 a.natAbs).log2 13000 && Nat.blt (max a.natAbs b.natAbs).log2 13000
def gLcm : GC := fun xs s => match xs with
  | [.int a, .int b] => bif okL a b then .ok (.int ((Nat.lcm a.natAbs b.natAbs : Nat) : Int)) s else .bad
  | _ => .bad
def rLcm : List V → Hp → VK → Prop := fun vs H Q => ∃ a b : Int, vs = [.int a, .int b] ∧ okL a b = true ∧ Q (.int ((Nat.lcm a.natAbs b.natAbs : Nat) : Int)) H
theorem log2_mono' {a b : Nat} (h : a ≤ b) : a.log2 ≤ b.log2 := by
  by_cases h0 : a = 0
  · subst h0; simp
  · exact (Nat.le_log2 (by omega)).mpr (Nat.le_trans (Nat.log2_self_le h0) h)
theorem lcm_log {a b : Nat} (ha : a.log2 < 13000) (hb : b.log2 < 13000) : (Nat.lcm a b).log2 < 26002 := by
  by_cases h0 : Nat.lcm a b = 0
  · rw [h0]; simp
  · have h1 : Nat.lcm a b ≤ a * b := Nat.le_of_dvd (Nat.pos_of_ne_zero fun e => by
      rcases Nat.mul_eq_zero.mp e with z | z
      · rw [z, Nat.lcm_zero_left] at h0; exact h0 rfl
      · rw [z, Nat.lcm_zero_right] at h0; exact h0 rfl) (Nat.lcm_dvd_mul a b)
    have h2 : a < 2 ^ 13000 := by
      by_cases z : a = 0
      · rw [z]; exact Nat.two_pow_pos _
      · exact (Nat.log2_lt z).mp ha
    have h3 : b < 2 ^ 13000 := by
      by_cases z : b = 0
      · rw [z]; exact Nat.two_pow_pos _
      · exact (Nat.log2_lt z).mp hb
    refine (Nat.log2_lt h0).mpr (Nat.lt_of_le_of_lt h1 (Nat.lt_of_lt_of_le (Nat.mul_lt_mul'' h2 h3) ?_))
    rw [← Nat.pow_add]
    exact Nat.pow_le_pow_right (by decide) (by decide)
theorem cr_lcm {X : Cx} : CallR X (.builtin "math.lcm") rLcm := by
  intro pins s σ H vs us Q I r h
  obtain ⟨a, b, rfl, hq, q⟩ := h
  obtain ⟨t, u, rfl⟩ := Vals.int2 r
  unfold okL at hq
  rw [Bool.and_eq_true] at hq
  have h1 : (max 1 a.natAbs).log2 < 13000 := Nat.le_of_ble_eq_true hq.1
  have h2 : (max a.natAbs b.natAbs).log2 < 13000 := Nat.le_of_ble_eq_true hq.2
  have e : (Nat.lcm 1 a.natAbs).lcm b.natAbs = Nat.lcm a.natAbs b.natAbs := by rw [Nat.lcm_one_left]
  have ha : a.natAbs.log2 < 13000 := Nat.lt_of_le_of_lt (log2_mono' (Nat.le_max_left _ _)) h2
  have hb : b.natAbs.log2 < 13000 := Nat.lt_of_le_of_lt (log2_mono' (Nat.le_max_right _ _)) h2
  have hz : ((((Nat.lcm 1 a.natAbs).lcm b.natAbs : Nat) : Int)).natAbs.log2 < bitsLine := by
    rw [e, Int.natAbs_natCast]
    exact Nat.lt_of_lt_of_le (lcm_log ha hb) (by decide)
  have g := PySem.W.mg_run_lcm a t b u (by omega) (by omega) hz
  rw [e] at g
  exact call_function_meets PySem.W.MGF.kind_lcm PySem.W.MGF.plain_lcm PySem.W.MGF.entry_lcm (PySem.W.MGF.args_lcm _ _) g.meets ⟨.int _, H, I.tok _, ⟨_, rfl⟩, q⟩
theorem g_lcm {K : PySem.W.Frag} : SRc K rLcm gLcm := by
  intro WP H ρ sto xs vs Q S r P
  unfold gLcm at P
  split at P
  · obtain ⟨v, u, rfl, h1, h2⟩ := r.two
    cases h1; cases h2
    obtain ⟨hq, P⟩ := and_of (C := Post K WP H ρ (GV K Q)) P (fun z => z)
    exact ⟨_, _, rfl, hq, now S P rfl⟩
  · exact P.elim
section
variable {X : Cx} {W : WK} {e tg : Expr} {es : List Expr} {ms : MA} {m : M} {p pos : Pos}
theorem e_lcm (gl : Gl X "lcm") (hm : X.mg "lcm" = some (.builtin "math.lcm")) (ha : MEs X W (e :: es) ms) (he : starEach (e :: es) X.env = (false, eval e X.env) :: starEach es X.env := by rfl) (hpl : (backTo pos (starEach es X.env)).any (·.1) = false := by rfl) :
    ME X W (.Call (.Name "lcm" p) (e :: es) [] pos) (mCall gLcm ms) := e_callBf cr_lcm g_lcm gl hm ha (by decide) he hpl
/-- a list or a tuple is walked -/
def itAny (s : Sto) : PV → Option MIt
  | .tup xs => some fun i _ => nthC xs i
  | v => itOf s v
def iAny (m : M) : MI := fun env s => (m env s).bind fun v s1 => match itAny s1 v with
  | some J => .ok J s1
  | none => .bad
theorem i_any (h : ME X W e m) : MIr X W tg e (iAny m) := by
  obtain ⟨t, q, s⟩ := h
  refine ⟨fun σ H R => L2.iList X.K t σ H R ∨ L2.iTup X.K t σ H R, ⟨fun pins st σ H R I h => h.elim (fun h => (pi_list q).run pins st σ H R I h) fun h => (pi_tup q).run pins st σ H R I h⟩, ?_⟩
  intro σ H ρ env sto Rk hE hS hP
  unfold iAny at hP
  cases r : m env sto with
  | bad => rw [r] at hP; exact hP.elim
  | ex x s1 =>
    rw [r] at hP
    exact .inl (s σ H ρ env sto _ hE hS (by rw [r]; exact hP))
  | ok v s1 =>
    rw [r] at hP
    have hP : Post X.K (fun c d h => W c d σ h) H ρ (fun J _ H' ρ' => ∀ Jh, ItOk X.K H' ρ' Jh J → Rk Jh H') (match itAny s1 v with
      | some J => .ok J s1
      | none => .bad) := hP
    cases k : itAny s1 v with
    | none => rw [k] at hP; exact hP.elim
    | some J =>
      rw [k] at hP
      have lst : itOf s1 v = some J → L2.iList X.K t σ H Rk := fun k => by
        refine s σ H ρ env sto _ hE hS ?_
        rw [r]
        intro H' ρ' x S y hy
        obtain ⟨a, ys, rfl, h1, h2⟩ := itOf_ok S hy k
        exact ⟨a, rfl, ⟨ys, h1⟩, hP H' ρ' x S _ (itl_ok h2)⟩
      cases v with
      | tup xs =>
        cases k
        refine .inr (s σ H ρ env sto _ hE hS ?_)
        rw [r]
        intro H' ρ' x S y hy
        obtain ⟨a, ys, rfl, h1, h2⟩ := hy
        exact ⟨a, rfl, ⟨ys, h1.sq⟩, hP H' ρ' x S _ (itt_ok h1 h2)⟩
      | _ => exact .inl (lst k)
/-- e_lc, s_lc with the slots told ahead -/
theorem e_lcv {elt tg iter : Expr} {ifs : List Expr} {scope : Scope} {own : List (Str × Nat)} {pos : Pos} {mi : MI} {g : MG} {tt : MT} {me : M} {sl : List Nat} (N : Nat) (fr : Bool) (vs : List Nat) (hc : X.calm = true) (hN : X.N.Nodup) (ok : BlkOk X.N X.env.scope scope own) (hs : ∀ j ∈ sl, j ∈ vs) (hi : MIr X W tg iter mi)
    (hg : InBlk X scope fun Y => MGt Y WF tg g sl) (ht : InBlk X scope fun Y => MTs Y WF ifs tt) (he : InBlk X scope fun Y => ME Y WF elt me) (hv : own.map (·.2) = vs := by rfl)
    (hf : ∀ x, foldedSetIterable iter X.env x = pure x := by intro _; rfl) : ME X W (.ListComp elt [⟨tg, iter, ifs, 0⟩] scope pos) (mLc N fr mi vs g tt me) := by
  subst hv
  exact e_lc N fr hc hN ok hs hi hg ht he hf
theorem s_lcv {elt tg iter : Expr} {ifs : List Expr} {scope : Scope} {own : List (Str × Nat)} {pos : Pos} {mi : MI} {g : MG} {tt : MT} {me : M} {sl : List Nat} {i : Nat} {y : Str} {py : Pos} {spos : Pos} (N : Nat) (fr : Bool) (vs : List Nat) (hc : X.calm = true) (hN : X.N.Nodup) (hy : X.N[i]? = some y) (hyl : X.env.scope.names.lookup y = some .local)
    (hsw : swapsWith (.ListComp elt [⟨tg, iter, ifs, 0⟩] scope pos) (some (.Name y py)) spos.line X.env = pure true) (ok : BlkOk X.N X.env.scope scope own) (hs : ∀ j ∈ sl, j ∈ vs) (hi : MIr X W tg iter mi)
    (hg : InBlk X scope fun Y => MGt Y WF tg g sl) (ht : InBlk X scope fun Y => MTs Y WF ifs tt) (he : InBlk X scope fun Y => ME Y WF elt me) (hv : own.map (·.2) = vs := by rfl)
    (hf : ∀ x, foldedSetIterable iter X.env x = pure x := by intro _; rfl) : MSt X W (.Assign [.Name y py] (.ListComp elt [⟨tg, iter, ifs, 0⟩] scope pos) spos) (sAsg (mLc N fr mi vs g tt me) (gNm i)) := by
  subst hv
  exact s_lc N fr hc hN hy hyl hsw ok hs hi hg ht he hf
end
end Mi

namespace PySem
namespace MiX
open Builtin Builtin.ObjectAttr
section
variable {prog : Program} {w : World} {A : Around} {E : Value → Shared → Prop} {h : Heap} {g : Array GenState} {d : Drawn} {t : Nat} {os : OsState} {C : Addr} {B newId initId : String} {bm bc : List Value}
variable {nm qn : Str} {N : Addr} {bs : List Value} {hdct : Bool} {sn : List Str} {sub : List Value} {ab : Bool} {col : Option Bool} {dd : Option Addr} {k0 k1 k2 k3 k5 : Option Value}
theorem knew_chk {M : Model} (F : ExcBaseFacts B newId initId bm) (hT : ∀ Y : String, bc.contains (.type Y) = bm.contains (.type Y)) {kw : List (Str × Value)} {Q : Unit → Shared → Prop}
    (hC : h.get? C = some (excClassObj nm qn C N bs bc hdct sn sub ab col dd k0 k1 k2 k3 k5 newId)) (q : Q () ⟨h, g, d, t, os⟩) : wpAny M A (checkBuiltinCall newId ⟨[.ref C], kw⟩) Q E ⟨h, g, d, t, os⟩ := by
  have c1 : (Value.ref C :: bc).contains (.type B) = true := by rw [List.contains_cons, hT, F.hasB, Bool.or_true]
  have c2 := F.noStar
  simp only [checkBuiltinCall, F.newKind, F.newSplit, F.newRow]
  repeat (first | refine wpAny_loadPart_at hC ?_ | (refine wpAny_isSubtype_exc hC ?_; rw [c1]) | refine wpAny_staticBase_exc hC ?_ | refine wpAny_madeBy_exc hC ?_ | simp only [bne_self_eq_false, Bool.false_eq_true, if_false] | wp_step)
  exact q
theorem knew (F : ExcBaseFacts B newId initId bm) (hT : ∀ Y : String, bc.contains (.type Y) = bm.contains (.type Y)) {kw : List (Str × Value)} {R : Result → Shared → Prop}
    (hC : h.get? C = some (excClassObj nm qn C N bs bc hdct sn sub ab col dd k0 k1 k2 k3 k5 newId))
    (q : R (.ok (.ret (.ref (h.objs.size + 1)))) ⟨(h.push (PySem.W.kdv_tup [])).push (PySem.HandSPX.excO C h.objs.size), g, d, t, os⟩) :
    codeAny (model prog w) A (.builtin newId ⟨[.ref C], kw⟩) R ⟨h, g, d, t, os⟩ := by
  have c0 := F.ends
  have c1 : (Value.ref C :: bc).contains (.type B) = true := by rw [List.contains_cons, hT, F.hasB, Bool.or_true]
  have c2 : (Value.ref C :: bc).contains (.type "AttributeError") = false := by rw [List.contains_cons, hT, F.noAttr]; rfl
  have c3 : (Value.ref C :: bc).contains (.type "NameError") = false := by rw [List.contains_cons, hT, F.noName]; rfl
  refine codeAny_builtinAt F.entry ?_
  unfold Builtin.«BaseException.__new__»
  refine wpAt_bind ?_
  show wpAt _ _ _ (stack >>= _) _ _ _
  refine wpAt_bind (wpAt_stack fun p below => wpAt_of_wpAny ?_)
  wp_walk
  refine wpAt_of_wpAny ?_
  rw [F.owner]
  repeat (first | with_reducible refine wpAny_madeHere_exc F.canon hC ?_ | with_reducible refine wpAny_loadPart_at hC ?_ | (with_reducible refine wpAny_isSubtype_exc hC ?_; first | rw [c1] | rw [c2] | rw [c3]) | wp_step)
  show R _ _
  rw [Heap.size_push]
  exact q
theorem kcall (F : ExcBaseFacts B newId initId bm) (hT : ∀ Y : String, bc.contains (.type Y) = bm.contains (.type Y)) {kw : List (Str × Value)} {fI : Addr} {Q : Fin → Shared → Prop}
    (hC : h.get? C = some (excClassObj nm qn C N bs bc hdct sn sub ab col dd k0 k1 k2 k3 k5 newId))
    (hi : W.Looks (model prog w) h (typeLookup (.ref C) "__init__") (some (.ref fI))) (hb : ∀ v, W.Looks (model prog w) h (bindSpecial (.ref fI) v) (.ref fI, [v]))
    (q : codeAny (model prog w) A (.call (.ref fI) ⟨[.ref (h.objs.size + 1)], kw⟩)
      (fun r s' => match r with | .ok (.ret v) => v = .none ∧ Q (.done (.ret (.ref (h.objs.size + 1)))) s' | .ok _ => False | .error e => E e s')
      ⟨(h.push (W.kdv_tup [])).push (HandSPX.excO C h.objs.size), g, d, t, os⟩) :
    wpAny (model prog w) A (Builtin.«type.__call__» ⟨[.ref C], kw⟩) Q E ⟨h, g, d, t, os⟩ := by
  repeat (first | with_reducible refine wpAny_loadPart_at hC ?_ | with_reducible refine wpAny_madeBy_exc hC ?_ | wp_step)
  refine codeAny_call_builtin_code (Code.quiet_builtin _ F.quiet) (knew_chk F hT hC ?_)
  refine knew F hT hC ?_
  show wpAny _ _ _ _ _ _
  have kk : ∀ b o, h.get? b = some o → ((h.push (W.kdv_tup [])).push (HandSPX.excO C h.objs.size)).get? b = some o := fun b o z => Heap.get?_push_of_some _ (Heap.get?_push_of_some _ z)
  have hC' := kk _ _ hC
  have hx : ((h.push (W.kdv_tup [])).push (HandSPX.excO C h.objs.size)).get? (h.objs.size + 1) = some (HandSPX.excO C h.objs.size) := by heap_get
  have cc : (Value.ref C :: bc).contains (.ref C) = true := by simp
  have i' := hi.keeps kk
  have b' := (hb (.ref (h.objs.size + 1))).keeps kk
  unfold isInstance
  repeat (first | with_reducible refine wpAny_loadPart_at hx ?_ | (with_reducible refine wpAny_isSubtype_exc hC' ?_; rw [cc]) | wp_step)
  show wpAny _ _ (typeLookup (.ref C) _) _ _ _
  refine i'.at ?_
  refine wpAny_holding (wpAny_bind (b'.at ?_))
  refine wpAny_bind (wpAny_call (codeAny_mono q fun r s' z => ?_))
  rcases r with e | (v | _ | _ | _) <;> first | exact z | exact z.elim | skip
  obtain ⟨rfl, z⟩ := z
  first
    | exact wpAny_pure (wpAny_pure z)
    | (wp_walk; exact z)
theorem kown (F : ExcBaseFacts B newId initId bm) (hT : ∀ Y : String, bc.contains (.type Y) = bm.contains (.type Y)) {kw : List (Str × Value)} {fI : Addr} {R : Result → Shared → Prop}
    (hC : h.get? C = some (excClassObj nm qn C N bs bc hdct sn sub ab col dd k0 k1 k2 k3 k5 newId))
    (hi : W.Looks (model prog w) h (typeLookup (.ref C) "__init__") (some (.ref fI))) (hb : ∀ v, W.Looks (model prog w) h (bindSpecial (.ref fI) v) (.ref fI, [v]))
    (q : codeAny (model prog w) (A.under (.builtin "type.__call__" ⟨[.ref C], kw⟩)) (.call (.ref fI) ⟨[.ref (h.objs.size + 1)], kw⟩) (W.InitBack (h.objs.size + 1) R)
      ⟨(h.push (W.kdv_tup [])).push (HandSPX.excO C h.objs.size), g, d, t, os⟩) :
    codeAny (model prog w) A (.call (.ref C) ⟨[], kw⟩) R ⟨h, g, d, t, os⟩ := by
  have f1 := tc_lookup
  have f2 := tc_bind (.ref C)
  have f3 : (⟨h, g, d, t, os⟩ : Shared).TypeIs (.ref C) "type" := ⟨_, hC, rfl⟩
  refine codeAny_of_tree ?_
  show wpAny _ _ (callAny (.ref C) _) _ _ _
  repeat (any_goals (first | assumption | with_reducible refine wpAny_loadPart_at hC ?_ | wp_step))
  refine ⟨rfl, ?_⟩
  refine codeAny_call_builtin_at (Code.quiet_builtin _ (by decide +kernel)) entry_typeCall (wpAny_check_type_call_sub hC (kcall F hT hC hi hb ?_))
  refine codeAny_mono q fun r s' z => ?_
  rcases r with e | (v | _ | _ | _) <;> exact z
end
end MiX
end PySem

noncomputable section
namespace Mi
open PySem PySem.Spec PyProof.Rows L2

/-! ### exceptions of the text's own classes, in hand -/
/-- how the instances of a class of exceptions are read -/
structure OxA (K : PySem.W.Frag) (C : Addr) : Prop where
  hd : PySem.W.hasDictIn K C = true
  ga : PySem.W.findIn K (.ref C) "__getattribute__" = some (some (.builtin "BaseException.__getattribute__"))
  gg : PySem.W.findIn K (.ref C) "__getattr__" = some none
  exC : PySem.W.subIn K (.ref C) (.type "BaseException") = some true
  cl : PySem.W.findIn K (.ref C) "__class__" = some (some (.builtin "object.__class__"))
  ob : PySem.W.mroIn K C (.type "object") = some true
  ty : PySem.W.typeIn K (.ref C) = some (.type "type")
/-- .. and made -/
structure OxC (K : PySem.W.Frag) (newId : String) (bm : List Value) (C : Addr) : Prop where
  ini : PySem.W.excInitIn K C bm newId = true
  ovr : PySem.W.excOver K C bm = true
  sa : PySem.W.findIn K (.ref C) "__setattr__" = some (some (.builtin "object.__setattr__"))
  kC : PySem.W.keepIn K (.ref C) = true
  A : OxA K C
structure OxK (K : PySem.W.Frag) : Prop where
  gs : PySem.W.specialIn K (.builtin "object.__class__") "__get__" = some (some (.builtin "getset_descriptor.__get__"))
  tk : PySem.W.takesIn K (.builtin "object.__class__") = some true
section
variable {X : Cx} {pins : List (Addr × Obj)} {σ : L2.St} {H : Hp} {s : Shared} {a C : Addr} {B newId initId : String} {bm : List Value}
/-- B.__init__(self, ..) -/
theorem binit (FB : ExcBaseFacts B newId initId bm) (q : PySem.W.excInitIn X.K C bm newId = true) {us : List Value} {Q : Value → Shared → Prop} {E : Value → Shared → Prop} {A : Around} (I : Inv X pins σ H s) (e : H a = some (exo a C none)) (hl : us.length ≤ sizeLine)
    (h : ∀ s', Inv X pins σ H s' → Q .none s') : wpAny (model X.prog X.w) A (call (.builtin initId) (.ref a :: us)) Q E s := by
  obtain ⟨nm, N, qn, bs, bc, hdct, sn, sub, ab, col, dd, k0, k1, k2, k3, k5, hC, hT⟩ := PySem.W.excInit_of I.kIn q
  obtain ⟨t1, ho⟩ := exo_at I.hok e
  obtain ⟨hp, g, d, t, os⟩ := s
  refine wpAny_call (PySem.HandSPX.init_base FB hT hC ho hl fun h' t2 kk hx => ?_)
  have J : Inv X pins σ (upd H a (exo a C none)) ⟨h', g, d, t, os⟩ := I.write (t' := t) (x := a) (e := a) (by rw [e]; exact True.intro) (.inl rfl) kk ⟨_, hx⟩ (exo_ok hx)
  have eu : upd H a (exo a C none) = H := funext fun b => by
    by_cases hb : b = a
    · rw [hb, upd_same, e]
    · exact upd_ne hb
  exact h _ (eu ▸ J)
/-- self.f = y, the first field -/
theorem bset (SF : StoreFacts B bm "object.__setattr__" "object") (T : OxC X.K newId bm C) {f : Str} {y : V} {u : Value} {Q : Unit → Shared → Prop} {E : Value → Shared → Prop} {A : Around} (I : Inv X pins σ H s) (e : H a = some (exo a C none)) (hno : PySem.W.takerIn X.K C f = some none) (ry : RelV y u)
    (h : ∀ dx s', H dx = none → dx ≠ a → Inv X pins σ (upd (upd H dx (exd dx [(f, y)])) a (exo a C (some dx))) s' → Q () s') : wpAny (model X.prog X.w) A (setAttr (.ref a) f u) Q E s := by
  obtain ⟨t1, ho⟩ := exo_at I.hok e
  obtain ⟨hp, g, d, t, os⟩ := s
  have In : PySem.W.InstAt hp a { cls := .ref C, dict := none, data := .fields #[.ref t1, .none, .none, .none, .bool false, .none] } C none := ⟨ho, rfl, rfl, trivial⟩
  refine PySem.W.set_plain I.kIn In T.sa ?_
  refine PySem.W.osa_openX SF (s := ⟨hp, g, d, t + 1, os⟩) I.kIn In T.ovr hno fun b => ?_
  have hxs : a ≠ hp.objs.size := Nat.ne_of_lt (Heap.lt_size ho)
  obtain ⟨cd, hcd, hh⟩ := PySem.W.any_some (show (PySem.W.clsIn X.K C).any (·.hasDict) = true from T.A.hd)
  have hcls : PySem.W.Looks (model X.prog X.w) hp (classData C) cd := PySem.W.looks_clsIn I.kIn hcd
  obtain ⟨nm, bs, mro, ns, qn, hdc, sn, sb, ab, col, del⟩ := cd
  dsimp only at hh
  subst hh
  dsimp only
  unfold Builtin.ObjectAttr.storeInOwnDict Builtin.ObjectAttr.ownDictForStores
  repeat (first | with_reducible refine PySem.HandSPX.store_in_new ?_ ?_ | with_reducible refine wpAny_loadPart_at ho ?_ | with_reducible refine hcls.at ?_ | wp_step)
  · exact ⟨_, #[], _, (Heap.get?_update_ne _ _ _ _ hxs.symm).trans (Heap.get?_push_at rfl rfl), rfl, fun z hz => absurd hz (by simp), fun _ => rfl⟩
  · intro h' tk' hn' hs
    have hnd : H hp.objs.size = none := I.hok.fresh (Nat.le_refl _)
    have kk : ∀ c o, c ≠ a → hp.get? c = some o → h'.get? c = some o := fun c o n z => (hs.2 c (Nat.ne_of_lt (Heap.lt_size z))).trans ((Heap.get?_update_ne _ _ _ _ n).trans (Heap.get?_push_of_some _ z))
    have hx : h'.get? a = some ({ cls := .ref C, dict := some hp.objs.size, data := .fields #[.ref t1, .none, .none, .none, .bool false, .none] } : Obj) := (hs.2 a hxs).trans (Heap.get?_update_self _ (Heap.get?_push_of_some _ ho) rfl)
    have nd : ∀ {c : Addr} {o : Obj}, hp.get? c = some o → c ≠ hp.objs.size := fun z => Nat.ne_of_lt (Heap.lt_size z)
    have na : ∀ {c : Addr}, H c = none → c ≠ a := fun n z => by rw [z, e] at n; cases n
    have U : Un X.fs [] H (upd (upd H hp.objs.size (exd hp.objs.size [(f, y)])) a (exo a C (some hp.objs.size))) hp h' := {
      keep := fun c o z n _ _ => kk c o (na n) z
      slot := fun c o z n _ _ => ⟨o.slots, kk c o (na n) z⟩
      free := fun c o z n _ => by rw [upd_ne (na n), upd_ne (nd z)]; exact n
      there := fun c o z _ => by
        by_cases hc : c = a
        · exact ⟨_, by rw [hc]; exact hx⟩
        · exact ⟨o, kk c o hc z⟩
      tups := fun c xs z => by rw [upd_ne (at_ne e z exo_tup), upd_ne (ne_of_none z hnd)]; exact z
      frzs := fun c o v z => by rw [upd_ne (at_ne e z exo_frz), upd_ne (ne_of_none z hnd)]; exact z
      tbls := fun c ps z => ⟨#[], by rw [upd_ne (at_ne e z exo_tbl), upd_ne (ne_of_none z hnd), z]; simp⟩ }
    refine h hp.objs.size _ hnd hxs.symm (I.un (t' := tk') U fun c o z => ?_)
    by_cases hc : c = a
    · subst hc
      rw [upd_same] at z; cases z
      exact exo_ok hx
    · rw [upd_ne hc] at z
      by_cases hd : c = hp.objs.size
      · subst hd
        rw [upd_same] at z; cases z
        exact exd_ok hn' (relO_put (fs := []) ry fun _ => True.intro)
      · rw [upd_ne hd] at z
        refine (I.hok c o z).stay (fun b v hb q => kk b v ?_ q) (fun b q => by rw [upd_ne (at_ne e q exo_own), upd_ne (ne_of_none q hnd)]; exact q) fun b xs q => by rw [upd_ne (at_ne e q exo_tup), upd_ne (ne_of_none q hnd)]; exact q
        rcases hb with hb | hb
        · rw [hb]; exact hc
        · exact at_ne e hb exo_own
/-- C(..), its own __init__ keeping sp -/
theorem bnew {W : WK} {x : Str} {fI : Addr} {k : Nat} {fd : FuncData} {ps : List Str} {sp : Sp} (FB : ExcBaseFacts B newId initId bm) (T : OxC X.K newId bm C) (iC : PySem.W.findIn X.K (.ref C) "__init__" = some (some (.ref fI))) (tI : PySem.W.typeIn X.K (.ref fI) = some (.type "function"))
    (F : FnOk X.prog X.w X.K X.mg X.base (L2.CX X.prog X.w) k fI fd ps sp) (hr : Room (k + 1) X.A) (hb : Binds X.K fd ps []) (tk : Takes X W) {us : List Value} {vs : List V} {Q : VK} (I : Inv X pins σ H s) (r : Vals vs us) (hl : us.length ≤ 1000)
    (h : ∀ a, H a = none → sp (.ref a :: vs) (upd H a (exo a C none)) (fun v H2 => v = .non ∧ Q (.ref a) H2) (WE W σ)) : wpAny (model X.prog X.w) X.A (call (.ref C) us) (EP X pins σ Q) X.xe s := by
  obtain ⟨nm, N, qn, bs, bc, hdct, sn, sub, ab, col, dd, k0, k1, k2, k3, k5, hC, hT⟩ := PySem.W.excInit_of I.kIn T.ini
  obtain ⟨hp, g, dr, t, os⟩ := s
  have hsz : hp.objs.size ≤ hp.objs.size + 1 := Nat.le_succ _
  have hq := h (hp.objs.size + 1) (I.hok.fresh hsz)
  have kk : ∀ b o, hp.get? b = some o → ((hp.push (PySem.W.kdv_tup us)).push (PySem.HandSPX.excO C hp.objs.size)).get? b = some o := fun b o z => Heap.get?_push_of_some _ (Heap.get?_push_of_some _ z)
  have hget : ((hp.push (PySem.W.kdv_tup us)).push (PySem.HandSPX.excO C hp.objs.size)).get? (hp.objs.size + 1) = some (PySem.HandSPX.excO C hp.objs.size) := by heap_get
  have J : Inv X pins σ (upd H (hp.objs.size + 1) (exo (hp.objs.size + 1) C none)) ⟨(hp.push (PySem.W.kdv_tup us)).push (PySem.HandSPX.excO C hp.objs.size), g, dr, t, os⟩ :=
    I.laid (t' := t) (a := hp.objs.size + 1) kk hsz (exo_ok hget)
  have r2 : Vals (V.ref (hp.objs.size + 1) :: vs) (Value.ref (hp.objs.size + 1) :: us) := .cons rfl r
  have hlen : (Value.ref (hp.objs.size + 1) :: us).length = ps.length := by
    rw [← r2.length]; exact F.len _ _ _ _ hq
  have b := hb _ (Value.ref (hp.objs.size + 1) :: us) J.kIn (by rw [List.append_nil]; exact hlen)
  rw [List.append_nil] at b
  refine wpAny_call (PySem.HandSPX.call_own FB hT hC (PySem.W.looks_findIn I.kIn iC) (fun self => PySem.W.bind_fn I.kIn self tI) (Nat.le_trans hl (by rw [sizeLine_eq]; omega))
    (codeAny_mono (F.run _ X.stack _ _ ⟨Value.ref (hp.objs.size + 1) :: us, []⟩ _ _ _ _ (hr.make C us []) (J.env0.make C us []) b r2 hq) fun r' s' z => ?_))
  match r', z with
  | .error er, z => exact passAt tk σ pins _ _ er s' J z
  | .ok (.ret u), z =>
    obtain ⟨v, H', J', rv, hv, q⟩ := J.after z
    subst hv
    exact ⟨rv, .ref (hp.objs.size + 1), H', J', rfl, q⟩
  | .ok .next, z => exact z.elim
  | .ok .brk, z => exact z.elim
  | .ok .cont, z => exact z.elim
/-- C(f=..) -/
theorem bnewK {W : WK} {fI : Addr} {k : Nat} {fd : FuncData} {ps : List Str} {sp : Sp} (FB : ExcBaseFacts B newId initId bm) (T : OxC X.K newId bm C) (iC : PySem.W.findIn X.K (.ref C) "__init__" = some (some (.ref fI))) (tI : PySem.W.typeIn X.K (.ref fI) = some (.type "function"))
    (F : FnOk X.prog X.w X.K X.mg X.base (L2.CX X.prog X.w) k fI fd ps sp) (hr : Room (k + 1) X.A) (tk : Takes X W) {kw : List (Str × Value)} {us : List Value} {vs : List V} {Q : VK} (I : Inv X pins σ H s) (r : Vals vs us)
    (hb : ∀ (s : Shared) (a : Addr), BindsTo s fd ⟨[.ref a], kw⟩ (ps.zip (.ref a :: us)))
    (h : ∀ a, H a = none → sp (.ref a :: vs) (upd H a (exo a C none)) (fun v H2 => v = .non ∧ Q (.ref a) H2) (WE W σ)) : wpAny (model X.prog X.w) X.A (call (.ref C) [] kw) (EP X pins σ Q) X.xe s := by
  obtain ⟨nm, N, qn, bs, bc, hdct, sn, sub, ab, col, dd, k0, k1, k2, k3, k5, hC, hT⟩ := PySem.W.excInit_of I.kIn T.ini
  obtain ⟨hp, g, dr, t, os⟩ := s
  have hsz : hp.objs.size ≤ hp.objs.size + 1 := Nat.le_succ _
  have hq := h (hp.objs.size + 1) (I.hok.fresh hsz)
  have kk : ∀ b o, hp.get? b = some o → ((hp.push (PySem.W.kdv_tup [])).push (PySem.HandSPX.excO C hp.objs.size)).get? b = some o := fun b o z => Heap.get?_push_of_some _ (Heap.get?_push_of_some _ z)
  have hget : ((hp.push (PySem.W.kdv_tup [])).push (PySem.HandSPX.excO C hp.objs.size)).get? (hp.objs.size + 1) = some (PySem.HandSPX.excO C hp.objs.size) := by heap_get
  have J : Inv X pins σ (upd H (hp.objs.size + 1) (exo (hp.objs.size + 1) C none)) ⟨(hp.push (PySem.W.kdv_tup [])).push (PySem.HandSPX.excO C hp.objs.size), g, dr, t, os⟩ :=
    I.laid (t' := t) (a := hp.objs.size + 1) kk hsz (exo_ok hget)
  have r2 : Vals (V.ref (hp.objs.size + 1) :: vs) (Value.ref (hp.objs.size + 1) :: us) := .cons rfl r
  refine wpAny_call (PySem.MiX.kown FB hT hC (PySem.W.looks_findIn I.kIn iC) (fun v => PySem.W.bind_fn I.kIn v tI)
    (codeAny_mono (F.run _ X.stack _ _ ⟨[Value.ref (hp.objs.size + 1)], kw⟩ _ _ _ _ (hr.make C [] kw) (J.env0.make C [] kw) (hb _ _) r2 hq) fun r' s' z => ?_))
  match r', z with
  | .error er, z => exact passAt tk σ pins _ _ er s' J z
  | .ok (.ret u), z =>
    obtain ⟨v, H', J', rv, hv, q⟩ := J.after z
    subst hv
    exact ⟨rv, .ref (hp.objs.size + 1), H', J', rfl, q⟩
  | .ok .next, z => exact z.elim
  | .ok .brk, z => exact z.elim
  | .ok .cont, z => exact z.elim
end
/-! what __init__ promises -/
def sp0 (C : Addr) : Sp := fun vs H Q _ => ∃ a, vs = [.ref a] ∧ H a = some (exo a C none) ∧ Q .non H
def sp1 (C : Addr) (f : Str) : Sp := fun vs H Q _ => ∃ a y, vs = [.ref a, y] ∧ H a = some (exo a C none) ∧ ∀ dx, H dx = none → dx ≠ a → Q .non (upd (upd H dx (exd dx [(f, y)])) a (exo a C (some dx)))
section
variable {X : Cx} {W : WK} {C : Addr} {B newId initId : String} {bm : List Value} {e o c : Expr} {es : List Expr} {te to : TE} {ta : TA} {f : Str} {p p1 p2 p' pos : Pos}
theorem pe_binit (FB : ExcBaseFacts B newId initId bm) (q : PySem.W.excInitIn X.K C bm newId = true) {x : Str} {pl : Sem Bool} (hg : Gl X x) (hm : X.mg x = none) (hv : bootBuiltins x = some (.type B)) (ty : typeOf (.type B) = pure (.type "type")) (hs : Manifest.isStub B = false)
    (vV : PySem.W.findCls X.K (.type B) (.type "type") "__init__" = some (.val (.builtin initId))) (hh : PySem.W.handedIn (.builtin initId) = true) (ha : PA X (e :: es) ta)
    (hc : eval (.Call (.Attribute (.Name x p1) "__init__" p2) (e :: es) [] pos) X.env = (do
      let ov ← eval (.Name x p1) X.env
      standAt p2.atName
      let (f, first) ← holding [ov] (getMethod ov "__init__" pl)
      callWith pos f first (backTo pos (starEach (e :: es) X.env)) (backToKw pos (keywordEach [] X.env))) := by rfl)
    (hn : x ≠ "__name__" := by decide) (hd : (x == ("__debug__" : Str)) = false := by decide)
    (he : starEach (e :: es) X.env = (false, eval e X.env) :: starEach es X.env := by rfl) (hpl : (backTo pos (starEach es X.env)).any (·.1) = false := by rfl) :
    PE X (.Call (.Attribute (.Name x p1) "__init__" p2) (e :: es) [] pos) (fun σ H Q => ta σ H fun vs H1 => ∃ a ws, vs = .ref a :: ws ∧ ws.length ≤ 1000 ∧ H1 a = some (exo a C none) ∧ Q .non H1) := by
  refine ⟨fun pins s σ H Q I h => ?_⟩
  refine PySem.W.methodCall_KW (ld_blt I hg hm hv ?_ hn hd) hc
  obtain ⟨m, fr⟩ := I.fr
  refine PySem.W.method_type fr I.ok.mod.kin ty hs vV hh ?_
  show wpAny _ _ (callWith pos (Value.builtin initId) [] (backTo pos (starEach (e :: es) X.env)) []) _ _ _
  refine PyProof.Rows.callWith_method1 (thn (ha.run pos pins _ σ H _ (I.tok _) h) fun us s1 ⟨vs, H1, I1, r1, a, ws, ev, hl, ea, q1⟩ => ?_) he hpl
  subst ev
  cases r1 with
  | @cons _ u0 _ ur ra rw' =>
    obtain rfl : u0 = Value.ref a := ra
    exact binit FB q I1 ea (by rw [← Paired.length rw', sizeLine_eq]; omega) fun s' J => ⟨.non, H1, J, rfl, q1⟩
theorem ps_bset (SF : StoreFacts B bm "object.__setattr__" "object") (T : OxC X.K newId bm C) (hno : PySem.W.takerIn X.K C f = some none) (ho : PE X o to) (he : PE X e te) (hs : swapsWith e (some (.Attribute o f p')) pos.line X.env = pure false := by rfl) :
    PS X (.Assign [.Attribute o f p'] e pos) (fun D σ H => te σ H fun y H1 => to σ H1 fun x H2 => ∃ a, x = .ref a ∧ H2 a = some (exo a C none) ∧ ∀ dx, H2 dx = none → dx ≠ a → D.nx σ (upd (upd H2 dx (exd dx [(f, y)])) a (exo a C (some dx)))) := by
  refine ⟨fun pins s σ H D I h => ?_⟩
  refine plainObj_wpAny_Assign_Attribute (thn (he.run pins s σ H _ I h) fun v s1 ⟨y, H1, I1, r1, q1⟩ => thn (ho.run pins s1 σ H1 _ I1 q1) fun u s2 ⟨x, H2, I2, r2, a, ex, ea, q⟩ => ?_) hs
  subst ex
  obtain rfl : u = Value.ref a := r2
  exact bset SF T I2 ea hno r1 fun dx s' n ne J => ⟨σ, _, J, q dx n ne⟩
/-! ### made, in the layer -/
def gNew (n : Str) (ns : List Str) : GC := fun vs s => bif Nat.beq vs.length ns.length then .ok (.exc n ns vs) s else .bad
theorem Ext.of {H H' : Hp} {ρ : Rh} (hr : ∀ a ∈ ρ.rs, H a ≠ none) (h : ∀ b, H b ≠ none → H' b = H b) : Ext ρ H ρ H' :=
  ⟨⟨⟨[], by simp, by simp⟩, rs_refl, fun a o q _ _ => (h a (sm q)).trans q, fun a q => by rw [h a q]; exact q, fun a o _ q => ⟨o, (h a (sm q)).trans q, alike_refl o⟩⟩, rfl, fun a ha _ => h a (hr a ha)⟩
theorem RSt.of {K : PySem.W.Frag} {H H' : Hp} {ρ : Rh} {sto : Sto} (S : RSt K H ρ sto) (h : ∀ b, H b ≠ none → H' b = H b) : RSt K H' ρ sto := S.mono' (.of S.hh h) fun a ha => h a fun q => S.fresh q ha
theorem new_post0 {K : PySem.W.Frag} {n : Str} {H : Hp} {ρ : Rh} {sto : Sto} {WP : XK} {Q : VK} {a : Addr} (hC : PySem.W.nsIn K mainGlobals n = some (some (.ref C))) (S : RSt K H ρ sto) (P : Post K WP H ρ (GV K Q) (gNew n [] [] sto)) (ha : H a = none) :
    sp0 C [.ref a] (upd H a (exo a C none)) (fun v H2 => v = .non ∧ Q (.ref a) H2) WP :=
  ⟨a, rfl, upd_same, rfl, P _ ρ (S.ext ha) (S.new ha) _ ⟨a, [], rfl, ⟨S.fresh ha, S.freshR ha, C, hC, .inl ⟨rfl, upd_same⟩⟩, rfl⟩⟩
theorem new_post1 {K : PySem.W.Frag} {n : Str} {H : Hp} {ρ : Rh} {sto : Sto} {WP : XK} {Q : VK} {a : Addr} {xs : List PV} {vs : List V} (hC : PySem.W.nsIn K mainGlobals n = some (some (.ref C))) (S : RSt K H ρ sto) (r : RVs K H ρ xs vs) (P : Post K WP H ρ (GV K Q) (gNew n [f] xs sto)) (ha : H a = none) :
    sp1 C f (.ref a :: vs) (upd H a (exo a C none)) (fun v H2 => v = .non ∧ Q (.ref a) H2) WP := by
  unfold gNew at P
  obtain ⟨hl, P⟩ := and_of (C := Post K WP H ρ (GV K Q)) P (fun z => z)
  match xs, vs, r, hl with
  | [x], vs, r, _ =>
    obtain ⟨y, rfl, hy⟩ := r.one
    refine ⟨a, y, rfl, upd_same, fun dx hd ne => ⟨rfl, ?_⟩⟩
    have hdx : H dx = none := by rw [upd_ne ne] at hd; exact hd
    have k : ∀ b, H b ≠ none → upd (upd (upd H a (exo a C none)) dx (exd dx [(f, y)])) a (exo a C (some dx)) b = H b := fun b hb => by
      rw [upd_ne (fun z => hb (by rw [z]; exact ha)), upd_ne (fun z => hb (by rw [z]; exact hdx)), upd_ne (fun z => hb (by rw [z]; exact ha))]
    refine P _ ρ (.of S.hh k) (S.of k) _ ⟨a, [y], rfl, ⟨S.fresh ha, S.freshR ha, C, hC, .inr ⟨dx, S.fresh hdx, S.freshR hdx, upd_same, ?_⟩⟩, r.mono (Ext.of S.hh k).toExtW⟩
    rw [upd_ne ne, upd_same]
    rfl
  | [], _, _, hl => cases hl
  | _ :: _ :: _, _, _, hl => cases hl
/-- C() -/
theorem e_new0 {n : Str} {fI : Addr} {k : Nat} {fd : FuncData} (FB : ExcBaseFacts B newId initId bm) (T : OxC X.K newId bm C) (hC : PySem.W.nsIn X.K mainGlobals n = some (some (.ref C))) (iC : PySem.W.findIn X.K (.ref C) "__init__" = some (some (.ref fI))) (tI : PySem.W.typeIn X.K (.ref fI) = some (.type "function"))
    (F : FnOk X.prog X.w X.K X.mg X.base (L2.CX X.prog X.w) k fI fd ["self"] (sp0 C)) (hr : Room (k + 1) X.A) (hb : Binds X.K fd ["self"] []) (tk : Takes X W) (hg : Gl X n) (hm : X.mg n = some (.ref C)) (hdb : (n == ("__debug__" : Str)) = false := by decide) :
    ME X W (.Call (.Name n p) [] [] pos) (fun _ s => gNew n [] [] s) := by
  refine ⟨fun σ H Q => ∀ a, H a = none → sp0 C [.ref a] (upd H a (exo a C none)) (fun v H2 => v = .non ∧ Q (.ref a) H2) (WE W σ), ⟨fun pins s σ H Q I h => ?_⟩, fun σ H ρ env sto Q hE hS hP a ha => new_post0 hC hS hP ha⟩
  refine wpAny_Call_Name_kw (ld_glob I hg hm ?_ hdb)
  exact PySem.W.callWith_K0 I.kIn T.kC (bnew (x := n) FB T iC tI F hr hb tk (us := []) (vs := []) I .nil (by simp) h)
/-- C(e) -/
theorem e_new1 {n : Str} {fI : Addr} {k : Nat} {fd : FuncData} {ms : MA} (FB : ExcBaseFacts B newId initId bm) (T : OxC X.K newId bm C) (hC : PySem.W.nsIn X.K mainGlobals n = some (some (.ref C))) (iC : PySem.W.findIn X.K (.ref C) "__init__" = some (some (.ref fI))) (tI : PySem.W.typeIn X.K (.ref fI) = some (.type "function"))
    (F : FnOk X.prog X.w X.K X.mg X.base (L2.CX X.prog X.w) k fI fd ["self", f] (sp1 C f)) (hr : Room (k + 1) X.A) (hb : Binds X.K fd ["self", f] []) (tk : Takes X W) (hg : Gl X n) (hm : X.mg n = some (.ref C)) (ha : MEs X W [e] ms)
    (hdb : (n == ("__debug__" : Str)) = false := by decide) (he : starEach [e] X.env = (false, eval e X.env) :: starEach [] X.env := by rfl) (hpl : (backTo pos (starEach [] X.env)).any (·.1) = false := by rfl) :
    ME X W (.Call (.Name n p) [e] [] pos) (mCall (gNew n [f]) ms) := by
  obtain ⟨t, q, s⟩ := ha
  refine ⟨fun σ H Q => t σ H fun vs H1 => vs.length ≤ 1000 ∧ ∀ a, H1 a = none → sp1 C f (.ref a :: vs) (upd H1 a (exo a C none)) (fun v H2 => v = .non ∧ Q (.ref a) H2) (WE W σ), ⟨fun pins st σ H Q I h => ?_⟩, fun σ H ρ env sto Q hE hS hP => ?_⟩
  · refine wpAny_Call_Name_kw (ld_glob I hg hm ?_ hdb)
    exact PySem.W.callWith_K (h₀ := X.base) I.ok.mod.kin T.kC (thn (q.run pos pins st σ H _ I h) fun us s1 ⟨vs, H1, I1, r, hz, q1⟩ => ⟨I1.kIn, bnew (x := n) FB T iC tI F hr hb tk I1 r (by rw [List.nil_append, ← Paired.length r]; exact hz) q1⟩) he hpl
  · refine s σ H ρ env sto _ hE hS ((hP.bind hS).imp fun v s1 H1 ρ1 x1 S1 P1 ys hys => ⟨?_, fun a ha => new_post1 hC S1 hys P1 ha⟩)
    have P2 := P1
    unfold gNew at P2
    obtain ⟨hl, _⟩ := and_of (C := Post X.K _ H1 ρ1 (GV X.K Q)) P2 (fun z => z)
    rw [← hys.length, Nat.eq_of_beq_eq_true hl]
    show 1 ≤ 1000
    decide
/-- C(f=e) -/
theorem e_new1K {n : Str} {fI : Addr} {k : Nat} {fd : FuncData} {mk : MA} {kpos : Pos} (FB : ExcBaseFacts B newId initId bm) (T : OxC X.K newId bm C) (hC : PySem.W.nsIn X.K mainGlobals n = some (some (.ref C))) (iC : PySem.W.findIn X.K (.ref C) "__init__" = some (some (.ref fI))) (tI : PySem.W.typeIn X.K (.ref fI) = some (.type "function"))
    (F : FnOk X.prog X.w X.K X.mg X.base (L2.CX X.prog X.w) k fI fd ["self", f] (sp1 C f)) (hr : Room (k + 1) X.A) (hb : ∀ (s : Shared) (a : Addr) (u : Value), BindsTo s fd ⟨[.ref a], [(f, u)]⟩ [("self", .ref a), (f, u)]) (tk : Takes X W) (hg : Gl X n) (hm : X.mg n = some (.ref C)) (ha : MKs X W [⟨some f, e, kpos⟩] mk)
    (hdb : (n == ("__debug__" : Str)) = false := by decide) (hall : (backToKw pos (keywordEach [⟨some f, e, kpos⟩] X.env)).all (·.1.isSome) = true := by rfl) (hks : (backToKw pos (keywordEach [⟨some f, e, kpos⟩] X.env)).filterMap (·.1) = [f] := by rfl)
    (hpl : ((backTo pos (starEach [] X.env)).any (·.1) || (backToKw pos (keywordEach [⟨some f, e, kpos⟩] X.env)).any (·.1.isNone)) = false := by rfl) :
    ME X W (.Call (.Name n p) [] [⟨some f, e, kpos⟩] pos) (mCall (gNew n [f]) mk) := by
  obtain ⟨t, q, s⟩ := ha
  refine ⟨fun σ H Q => t σ H fun vs H1 => vs.length = 1 ∧ ∀ a, H1 a = none → sp1 C f (.ref a :: vs) (upd H1 a (exo a C none)) (fun v H2 => v = .non ∧ Q (.ref a) H2) (WE W σ), ⟨fun pins st σ H Q I h => ?_⟩, fun σ H ρ env sto Q hE hS hP => ?_⟩
  · refine wpAny_Call_Name_kw (ld_glob I hg hm ?_ hdb)
    refine PySem.W.callWith_KW0 (h₀ := X.base) I.ok.mod.kin T.kC hall (thn (q.run pos pins st σ H _ I h) fun us s1 ⟨vs, H1, I1, r, hz, q1⟩ => ⟨I1.kIn, ?_⟩) hpl
    rw [hks]
    have hl : us.length = 1 := (Paired.length r).symm.trans hz
    match us, hl with
    | [u], _ => exact bnewK FB T iC tI F hr tk I1 r (fun s a => hb s a u) q1
  · refine s σ H ρ env sto _ hE hS ((hP.bind hS).imp fun v s1 H1 ρ1 x1 S1 P1 ys hys => ⟨?_, fun a ha => new_post1 hC S1 hys P1 ha⟩)
    have P2 := P1
    unfold gNew at P2
    obtain ⟨hl, _⟩ := and_of (C := Post X.K _ H1 ρ1 (GV X.K Q)) P2 (fun z => z)
    rw [← hys.length, Nat.eq_of_beq_eq_true hl]
    rfl
/-! ### read, in the layer -/
theorem x_inst {pins : List (Addr × Obj)} {σ : L2.St} {H : Hp} {s : Shared} {ρ : Rh} {a : Addr} {n : Str} {ns : List Str} {ys : List V} (I : Inv X pins σ H s) (h : FzX X.K H ρ a n ns ys) : ∃ C ox od, PySem.W.nsIn X.K mainGlobals n = some (some (.ref C)) ∧ PySem.W.InstAt s.heap a ox C od ∧
    (ns ≠ [] → ∃ o, od = some o ∧ ∀ g, ∃ u, PySem.W.lookIn g o = some u ∧ RelO ((ns.zip ys).lookup g) u) := by
  obtain ⟨_, _, C, hC, h⟩ := h
  rcases h with ⟨hn, h⟩ | ⟨dx, _, _, h, hd⟩
  · obtain ⟨t1, ho⟩ := exo_at I.hok h
    exact ⟨C, _, none, hC, ⟨ho, rfl, rfl, trivial⟩, fun z => absurd hn z⟩
  · obtain ⟨t1, ho⟩ := exo_at I.hok h
    obtain ⟨mA, hns, hr⟩ := exd_at I.hok hd
    obtain ⟨od, hod, hl⟩ := lookIn_ns hns
    exact ⟨C, _, some od, hC, ⟨ho, rfl, rfl, hod⟩, fun _ => ⟨od, rfl, fun g => ⟨_, hl g, hr g⟩⟩⟩
def IsTab (K : PySem.W.Frag) (cv : Value) (tab : List (Str × Bool)) : Prop := ∀ n b, tab.lookup n = some b → ∀ C, PySem.W.nsIn K mainGlobals n = some (some (.ref C)) → OxA K C ∧ PySem.W.kitOne K (.ref C) cv = some b
def IsTabs (K : PySem.W.Frag) (cs : List Value) (tab : List (Str × Bool)) : Prop := ∀ n b, tab.lookup n = some b → ∀ C, PySem.W.nsIn K mainGlobals n = some (some (.ref C)) → OxA K C ∧ PySem.W.kitAny K (.ref C) cs = some b
def gIsx (tab : List (Str × Bool)) : GC := fun vs s => match vs with
  | [.exc n _ _] => match tab.lookup n with
    | some b => .ok (.bl b) s
    | none => .bad
  | _ => .bad
def rIsx (K : PySem.W.Frag) (tab : List (Str × Bool)) (cV : V) : List V → Hp → VK → Prop := fun vs H Q => ∃ a n ns ys ρ b, vs = [.ref a, cV] ∧ FzX K H ρ a n ns ys ∧ tab.lookup n = some b ∧ Q (.bl b) H
theorem cr_isx {tab : List (Str × Bool)} {cV : V} {cv : Value} (Kk : OxK X.K) (hcv : ∀ u, RelV cV u → u = cv) (T : IsTab X.K cv tab) : CallR X (.builtin "isinstance") (rIsx X.K tab cV) := by
  intro pins s σ H vs us Q I r h
  obtain ⟨a, n, ns, ys, ρ, b, rfl, hx, hb, q⟩ := h
  obtain ⟨u1, u2, rfl, r1, r2⟩ := vals2 r
  obtain rfl : u1 = Value.ref a := r1
  have e2 := hcv _ r2
  subst e2
  obtain ⟨C, ox, od, hC, J, _⟩ := x_inst I hx
  obtain ⟨A, k⟩ := T n b hb C hC
  have hcl : (PySem.W.clsIn X.K C).isSome = true := by
    obtain ⟨cd, hcd, _⟩ := PySem.W.any_some (show (PySem.W.clsIn X.K C).any (·.hasDict) = true from A.hd)
    rw [hcd]; rfl
  exact PySem.W.kia_one (PySem.W.kitx_exc hcl A.ga A.gg A.exC A.cl Kk.gs Kk.tk A.ob) I.kIn J k (fun z => nomatch z) fun t => ⟨.bl b, H, I.tok t, rfl, q⟩
def rIsxT (K : PySem.W.Frag) (tab : List (Str × Bool)) (cs : List V) : List V → Hp → VK → Prop := fun vs H Q => ∃ a n ns ys ρ b tp, vs = [.ref a, .ref tp] ∧ FzX K H ρ a n ns ys ∧ H tp = some (.tup cs) ∧ tab.lookup n = some b ∧ Q (.bl b) H
theorem cr_isxT {tab : List (Str × Bool)} {cs : List V} {cvs : List Value} (Kk : OxK X.K) (hcv : ∀ us, Vals cs us → us = cvs) (T : IsTabs X.K cvs tab) : CallR X (.builtin "isinstance") (rIsxT X.K tab cs) := by
  intro pins s σ H vs us Q I r h
  obtain ⟨a, n, ns, ys, ρ, b, tp, rfl, hx, hT, hb, q⟩ := h
  obtain ⟨u1, u2, rfl, r1, r2⟩ := vals2 r
  obtain rfl : u1 = Value.ref a := r1
  obtain rfl : u2 = Value.ref tp := r2
  obtain ⟨C, ox, od, hC, J, _⟩ := x_inst I hx
  obtain ⟨A, k⟩ := T n b hb C hC
  have hcl : (PySem.W.clsIn X.K C).isSome = true := by
    obtain ⟨cd, hcd, _⟩ := PySem.W.any_some (show (PySem.W.clsIn X.K C).any (·.hasDict) = true from A.hd)
    rw [hcd]; rfl
  obtain ⟨_, its, rv, o, h1, h2, m, h3⟩ := (show ObjOk X.prog X.w H s.heap tp (.tup cs) from I.hok tp _ hT)
  have e3 := hcv _ rv
  subst e3
  obtain ⟨oc, od', dt, sl⟩ := o
  simp only at h2 h3
  subst h2 h3
  exact PySem.W.kia_tup (PySem.W.kitx_exc hcl A.ga A.gg A.exC A.cl Kk.gs Kk.tk A.ob) I.kIn J h1 k (fun z => nomatch z) fun t => ⟨.bl b, H, I.tok t, rfl, q⟩
def mIsx (tab : List (Str × Bool)) (m : M) : M := fun env s => (m env s).bind fun v s1 => gIsx tab [v] s1
theorem gIsx_some {tab : List (Str × Bool)} {v : PV} {s : Sto} {K : PySem.W.Frag} {WP : XK} {H : Hp} {ρ : Rh} {G : PV → Sto → Hp → Rh → Prop} (P : Post K WP H ρ G (gIsx tab [v] s)) : ∃ n ns xs b, v = .exc n ns xs ∧ tab.lookup n = some b ∧ Post K WP H ρ G (.ok (.bl b) s) := by
  unfold gIsx at P
  split at P
  · rename_i n ns xs e
    cases e
    cases k : tab.lookup n with
    | none => rw [k] at P; exact P.elim
    | some b => rw [k] at P; exact ⟨n, ns, xs, b, rfl, k, P⟩
  · exact P.elim
theorem e_isx {tab : List (Str × Bool)} {cV : V} {cv : Value} {m : M} (Kk : OxK X.K) (gl : Gl X "isinstance") (hm : X.mg "isinstance" = none) (hc : PE X c (tC cV)) (hcv : ∀ u, RelV cV u → u = cv) (T : IsTab X.K cv tab) (ha : ME X W e m)
    (he : starEach [e, c] X.env = (false, eval e X.env) :: starEach [c] X.env := by rfl) (he2 : starEach [c] X.env = (false, eval c X.env) :: starEach [] X.env := by rfl) (hpl : (backTo pos (starEach [c] X.env)).any (·.1) = false := by rfl) :
    ME X W (.Call (.Name "isinstance" p) [e, c] [] pos) (mIsx tab m) := by
  obtain ⟨t, q, s⟩ := ha
  refine ⟨_, pe_callB (cr_isx Kk hcv T) gl hm (by decide +kernel) (pa_cons q (pa_cons hc pa_nil he2) he) (by decide) (by decide) he hpl, fun σ H ρ env sto Q hE hS hP => ?_⟩
  refine s σ H ρ env sto _ hE hS ((hP.bind hS).imp fun v s1 H1 ρ1 x1 S1 P1 y hy => ?_)
  obtain ⟨n, ns, xs, b, rfl, k, P2⟩ := gIsx_some P1
  obtain ⟨a, ys, rfl, h2, _⟩ := hy
  exact ⟨a, n, ns, ys, ρ1, b, rfl, h2, k, P2 H1 ρ1 .refl S1 _ rfl⟩
/-- isinstance(e, (T, U)), T and U built in -/
theorem e_isx2 {tab : List (Str × Bool)} {y z : Str} {T U : String} {x1 : Nat} {p3 p4 : Pos} {m : M} (Kk : OxK X.K) (gl : Gl X "isinstance") (hm : X.mg "isinstance" = none) (hy : PE X (.Name y p2) (tC (.ty T))) (hz : PE X (.Name z p3) (tC (.ty U))) (TT : IsTabs X.K [.type T, .type U] tab) (ha : ME X W e m)
    (he : starEach [e, .Tuple [.Name y p2, .Name z p3] x1 p4] X.env = (false, eval e X.env) :: starEach [.Tuple [.Name y p2, .Name z p3] x1 p4] X.env := by rfl)
    (he2 : starEach [.Tuple [.Name y p2, .Name z p3] x1 p4] X.env = (false, eval (.Tuple [.Name y p2, .Name z p3] x1 p4) X.env) :: starEach [] X.env := by rfl) (hpl : (backTo pos (starEach [.Tuple [.Name y p2, .Name z p3] x1 p4] X.env)).any (·.1) = false := by rfl)
    (h1 : starEach [.Name y p2, .Name z p3] X.env = (false, eval (.Name y p2) X.env) :: starEach [.Name z p3] X.env := by rfl) (h2 : starEach [.Name z p3] X.env = (false, eval (.Name z p3) X.env) :: starEach [] X.env := by rfl) :
    ME X W (.Call (.Name "isinstance" p) [e, .Tuple [.Name y p2, .Name z p3] x1 p4] [] pos) (mIsx tab m) := by
  obtain ⟨t, q, s⟩ := ha
  have hcv : ∀ us, Vals [V.ty T, V.ty U] us → us = [Value.type T, Value.type U] := fun us r => by
    obtain ⟨u1, u2, rfl, r1, r2⟩ := vals2 r
    cases r1; cases r2; rfl
  refine ⟨_, pe_callB (cr_isxT Kk hcv TT) gl hm (by decide +kernel) (pa_cons q (pa_cons (pe_tup (pa_cons hy (pa_cons hz pa_nil h2) h1)) pa_nil he2) he) (by decide) (by decide) he hpl, fun σ H ρ env sto Q hE hS hP => ?_⟩
  refine s σ H ρ env sto _ hE hS ((hP.bind hS).imp fun v s1 H1 ρ1 x1 S1 P1 y hy => ?_)
  obtain ⟨n, ns, xs, b, rfl, k, P2⟩ := gIsx_some P1
  refine ⟨by show 2 ≤ sizeLine; decide, fun tp htp => ?_⟩
  have hx := S1.ext (o := .tup [.ty T, .ty U]) htp
  obtain ⟨a, ys, rfl, h2, _⟩ := hy
  exact ⟨a, n, ns, ys, ρ1, b, tp, rfl, h2.mono hx.toExtW, upd_same, k, P2 _ ρ1 hx (S1.new htp) _ rfl⟩
/-- e.f -/
def FdTab (K : PySem.W.Frag) (f : Str) (tab : List Str) : Prop := ∀ n ∈ tab, ∀ C, PySem.W.nsIn K mainGlobals n = some (some (.ref C)) → OxA K C ∧ PySem.W.findIn K (.ref C) f = some none
def lookP (f : Str) : List Str → List PV → Option PV
  | n :: ns, x :: xs => bif f == n then some x else lookP f ns xs
  | _, _ => none
def gFld (tab : List Str) (f : Str) : PV → Sto → R PV := fun v s => match v with
  | .exc n ns xs => bif tab.elem n then (match lookP f ns xs with
    | some y => .ok y s
    | none => .bad) else .bad
  | _ => .bad
def mFld (tab : List Str) (f : Str) (m : M) : M := fun env s => (m env s).bind fun v s1 => gFld tab f v s1
theorem lookP_ok {K : PySem.W.Frag} {H : Hp} {ρ : Rh} {x : PV} : ∀ {ns : List Str} {xs : List PV} {ys : List V}, RVs K H ρ xs ys → lookP f ns xs = some x → ∃ y, (ns.zip ys).lookup f = some y ∧ RV K H ρ x y
  | n :: ns, z :: zs, ys, r, h => by
    obtain ⟨v, ws, rfl, h2, h3⟩ := r
    unfold lookP at h
    cases q : f == n with
    | true => rw [q] at h; cases h; exact ⟨v, by simp [List.lookup, q], h2⟩
    | false =>
      rw [q] at h
      obtain ⟨y, h4, h5⟩ := lookP_ok h3 h
      exact ⟨y, by simp [List.lookup, q]; exact h4, h5⟩
  | [], _, _, _, h => by cases h
  | _ :: _, [], _, _, h => by cases h
theorem e_fld {tab : List Str} {m : M} (T : FdTab X.K f tab) (ha : ME X W e m) (hb : attributeBase e f X.env (eval e X.env) = eval e X.env := by rfl) : ME X W (.Attribute e f pos) (mFld tab f m) := by
  obtain ⟨t, q, s⟩ := ha
  refine ⟨fun σ H Q => t σ H fun x H1 => ∃ a n ns ys ρ v, x = .ref a ∧ FzX X.K H1 ρ a n ns ys ∧ n ∈ tab ∧ (ns.zip ys).lookup f = some v ∧ Q v H1, ⟨fun pins st σ H Q I h => ?_⟩, fun σ H ρ env sto Q hE hS hP => ?_⟩
  · refine attr_of hb (thn (q.run pins st σ H _ I h) fun u s1 ⟨x, H1, I1, r1, a, n, ns, ys, ρ, v, ex, hx, hn, hl, q1⟩ => ?_)
    subst ex
    obtain rfl : u = Value.ref a := r1
    obtain ⟨C, ox, od, hC, J, hf⟩ := x_inst I1 hx
    obtain ⟨A, hno⟩ := T n hn C hC
    obtain ⟨o, rfl, hg⟩ := hf fun z => by rw [z] at hl; cases hl
    obtain ⟨u, hu, ru⟩ := hg f
    rw [hl] at ru
    obtain ⟨u', rfl, ru'⟩ := RelO.some_of ru
    exact HandSPX.exc_get I1.kIn J A.ga A.gg A.exC (PySem.W.findObj_own A.hd hno rfl hu) (handed_of ru') ⟨v, H1, I1.tok _, ru', q1⟩
  · refine s σ H ρ env sto _ hE hS ((hP.bind hS).imp fun v s1 H1 ρ1 x1 S1 P1 y hy => ?_)
    unfold gFld at P1
    split at P1
    · rename_i n ns xs
      obtain ⟨hn, P1⟩ := and_of (C := Post X.K _ H1 ρ1 (GV X.K Q)) P1 (fun z => z)
      cases k : lookP f ns xs with
      | none => rw [k] at P1; exact P1.elim
      | some z =>
        rw [k] at P1
        obtain ⟨a, ys, rfl, h2, h3⟩ := hy
        obtain ⟨y, h4, h5⟩ := lookP_ok h3 k
        exact ⟨a, n, ns, ys, ρ1, y, rfl, h2, by simpa using hn, h4, P1 H1 ρ1 .refl S1 _ h5⟩
    · exact P1.elim
/-! tables -/
inductive TabOne (K : PySem.W.Frag) (cv : Value) : List (Str × Bool) → Prop
  | nil : TabOne K cv []
  | cons {n : Str} {C : Addr} {b : Bool} {r : List (Str × Bool)} (a : PySem.W.nsIn K mainGlobals n = some (some (.ref C))) (A : OxA K C) (q : PySem.W.kitOne K (.ref C) cv = some b) (t : TabOne K cv r) : TabOne K cv ((n, b) :: r)
inductive TabAny (K : PySem.W.Frag) (cs : List Value) : List (Str × Bool) → Prop
  | nil : TabAny K cs []
  | cons {n : Str} {C : Addr} {b : Bool} {r : List (Str × Bool)} (a : PySem.W.nsIn K mainGlobals n = some (some (.ref C))) (A : OxA K C) (q : PySem.W.kitAny K (.ref C) cs = some b) (t : TabAny K cs r) : TabAny K cs ((n, b) :: r)
inductive TabFld (K : PySem.W.Frag) (f : Str) : List Str → Prop
  | nil : TabFld K f []
  | cons {n : Str} {C : Addr} {r : List Str} (a : PySem.W.nsIn K mainGlobals n = some (some (.ref C))) (A : OxA K C) (q : PySem.W.findIn K (.ref C) f = some none) (t : TabFld K f r) : TabFld K f (n :: r)
theorem tab_one {K : PySem.W.Frag} {cv : Value} : ∀ (tab : List (Str × Bool)), TabOne K cv tab → IsTab K cv tab
  | _, .nil => fun n b h => by simp [List.lookup] at h
  | _, .cons (n := m) (C := D) (b := b0) (r := r) a A q t => fun n b h C hC => by
    by_cases e : n = m
    · subst e
      rw [a] at hC
      cases hC
      rw [List.lookup_cons_self] at h
      cases h
      exact ⟨A, q⟩
    · have e' : (n == m) = false := by simpa using e
      simp only [List.lookup, e'] at h
      exact tab_one r t n b h C hC
theorem tab_any {K : PySem.W.Frag} {cs : List Value} : ∀ (tab : List (Str × Bool)), TabAny K cs tab → IsTabs K cs tab
  | _, .nil => fun n b h => by simp [List.lookup] at h
  | _, .cons (n := m) (C := D) (b := b0) (r := r) a A q t => fun n b h C hC => by
    by_cases e : n = m
    · subst e
      rw [a] at hC
      cases hC
      rw [List.lookup_cons_self] at h
      cases h
      exact ⟨A, q⟩
    · have e' : (n == m) = false := by simpa using e
      simp only [List.lookup, e'] at h
      exact tab_any r t n b h C hC
theorem tab_fld {K : PySem.W.Frag} {f : Str} : ∀ {tab : List Str}, TabFld K f tab → FdTab K f tab
  | _, .nil => fun n h => by simp at h
  | _, .cons (n := m) a A q t => fun n h C hC => by
    rcases List.mem_cons.mp h with e | h
    · subst e
      rw [a] at hC
      cases hC
      exact ⟨A, q⟩
    · exact tab_fld t n h C hC
end
end Mi

noncomputable section
namespace Mi
open PySem PySem.Spec PyProof.Rows L2

/-! ### raise C() -/
section
variable {X : Cx} {pins : List (Addr × Obj)} {σ : L2.St} {H : Hp} {s : Shared} {a C : Addr} {B newId initId : String} {bm : List Value}
/-- the end of C(): the object is let go, the heap read as ahead of it -/
theorem mk_gone {hp hp2 h2 : Heap} {g1 g2 : Array GenState} {d1 d2 : Drawn} {t1 t2 : Nat} {os1 os2 : OsState} (I : Inv X pins σ H ⟨hp, g1, d1, t1, os1⟩) (ha : hp.objs.size ≤ a) (k : ∀ b o, hp.get? b = some o → hp2.get? b = some o)
    (un : Un (frs X.stack) [] (upd H a (exo a C none)) (upd H a (exo a C none)) hp2 h2) (hok : HOk X.prog X.w (upd H a (exo a C none)) h2) (ho : os2 = os1) (hb : AllBare g2) :
    ∃ (t0 : Addr) (G : Heap), Inv X pins σ H ⟨G, g2, d2, t2, os2⟩ ∧ (∀ b o, G.get? b = some o → h2.get? b = some o) ∧ G.get? a = none ∧ H a = none ∧
      h2.get? a = some ({ cls := .ref C, dict := none, data := .fields #[.ref t0, .none, .none, .none, .bool false, .none] } : Obj) := by
  obtain ⟨t0, hoe⟩ := exo_at hok upd_same
  have hn : H a = none := I.hok.fresh ha
  obtain ⟨G, r1, r2⟩ := restrict h2 fun b => decide (b ≠ a)
  have gk : ∀ b, b ≠ a → G.get? b = h2.get? b := fun b z => r1 b (decide_eq_true z)
  have ge : G.get? a = none := r2 a (by simp)
  have na : ∀ {b : Addr} {o : Obj}, hp.get? b = some o → b ≠ a := fun z => Nat.ne_of_lt (Nat.lt_of_lt_of_le (Heap.lt_size z) ha)
  have up : ∀ {b : Addr}, b ≠ a → H b = none → upd H a (exo a C none) b = none := fun z n => by rw [upd_ne z]; exact n
  have U : Un (frs X.stack) [] H H hp G := {
    keep := fun b o z n hf hx => by rw [gk b (na z)]; exact un.keep b o (k b o z) (up (na z) n) hf hx
    slot := fun b o z n hf hx => by rw [gk b (na z)]; exact un.slot b o (k b o z) (up (na z) n) hf hx
    free := fun b o z n hx => n
    there := fun b o z hx => by rw [gk b (na z)]; exact un.there b o (k b o z) hx
    tups := fun b xs z => z
    frzs := fun b o v z => z
    tbls := fun b ps z => ⟨#[], by rw [z]; simp⟩ }
  have hok3 : HOk X.prog X.w H G := fun b o z => by
    have hba : b ≠ a := fun e => by rw [e, hn] at z; cases z
    have z2 : upd H a (exo a C none) b = some o := by rw [upd_ne hba]; exact z
    have noa : ∀ {c u}, H c = some u → c ≠ a := fun hc e => by rw [e, hn] at hc; cases hc
    refine (hok b o z2).stay (fun c v hc y => ?_) (fun c hc => ?_) (fun c xs hc => ?_)
    · have hca : c ≠ a := by
        rcases hc with hc | hc
        · rw [hc]; exact hba
        · exact fun e => by rw [e, upd_same] at hc; exact exo_own (Option.some.inj hc)
      rw [gk c hca]; exact y
    · have hca : c ≠ a := fun e => by rw [e, upd_same] at hc; exact exo_own (Option.some.inj hc)
      rw [upd_ne hca] at hc; exact hc
    · have hca : c ≠ a := fun e => by rw [e, upd_same] at hc; exact exo_tup (Option.some.inj hc)
      rw [upd_ne hca] at hc; exact hc
  have J : Inv X pins σ H ⟨G, g2, d2, t2, os2⟩ := I.call' (ch := []) ho U hok3 hb (fun b z => absurd z (by simp))
  refine ⟨t0, G, J, fun b o z => ?_, ge, hn, hoe⟩
  by_cases hba : b = a
  · rw [hba, ge] at z; cases z
  · exact (gk b hba).symm.trans z
theorem bmk0 {W : WK} {fI : Addr} {k : Nat} {fd : FuncData} (FB : ExcBaseFacts B newId initId bm) (T : OxC X.K newId bm C) (iC : PySem.W.findIn X.K (.ref C) "__init__" = some (some (.ref fI))) (tI : PySem.W.typeIn X.K (.ref fI) = some (.type "function"))
    (F : FnOk X.prog X.w X.K X.mg X.base (L2.CX X.prog X.w) k fI fd ["self"] (sp0 C)) (hr : Room (k + 1) X.A) (hb : Binds X.K fd ["self"] []) (tk : Takes X W) {Q : XK} (I : Inv X pins σ H s) (h : Q (.ref C) none H) :
    wpAny (model X.prog X.w) X.A (call (.ref C) []) (MkP X pins σ Q) X.xe s := by
  obtain ⟨nm, N, qn, bs, bc, hdct, sn, sub, ab, col, dd, k0, k1, k2, k3, k5, hC, hT⟩ := PySem.W.excInit_of I.kIn T.ini
  obtain ⟨hp, g, dr, t, os⟩ := s
  have hsz : hp.objs.size ≤ hp.objs.size + 1 := Nat.le_succ _
  have kk : ∀ b o, hp.get? b = some o → ((hp.push (PySem.W.kdv_tup [])).push (PySem.HandSPX.excO C hp.objs.size)).get? b = some o := fun b o z => Heap.get?_push_of_some _ (Heap.get?_push_of_some _ z)
  have hget : ((hp.push (PySem.W.kdv_tup [])).push (PySem.HandSPX.excO C hp.objs.size)).get? (hp.objs.size + 1) = some (PySem.HandSPX.excO C hp.objs.size) := by heap_get
  have J : Inv X pins σ (upd H (hp.objs.size + 1) (exo (hp.objs.size + 1) C none)) ⟨(hp.push (PySem.W.kdv_tup [])).push (PySem.HandSPX.excO C hp.objs.size), g, dr, t, os⟩ :=
    I.laid (t' := t) (a := hp.objs.size + 1) kk hsz (exo_ok hget)
  have b := hb _ [Value.ref (hp.objs.size + 1)] J.kIn (by rfl)
  rw [List.append_nil] at b
  refine wpAny_call (PySem.HandSPX.call_own FB hT hC (PySem.W.looks_findIn I.kIn iC) (fun v => PySem.W.bind_fn I.kIn v tI) (by rw [sizeLine_eq]; simp)
    (codeAny_mono (F.run _ X.stack _ _ ⟨[Value.ref (hp.objs.size + 1)], []⟩ _ [.ref (hp.objs.size + 1)] (fun v H2 => v = .non ∧ H2 = upd H (hp.objs.size + 1) (exo (hp.objs.size + 1) C none)) (WE W σ) (hr.make C [] []) (J.env0.make C [] []) b (.cons rfl .nil) ⟨_, rfl, upd_same, rfl, rfl⟩) fun r' s' z => ?_))
  match r', z with
  | .error er, z => exact passAt tk σ pins _ _ er s' J z
  | .ok (.ret u), z =>
    obtain ⟨v, H2, os2, bare2, un2, hok2, rv, hv, e2⟩ := z
    subst hv
    subst e2
    obtain ⟨h2, g2, d2, t2, os'⟩ := s'
    obtain ⟨t0, G, J2, kG, ge, hn, hoe⟩ := mk_gone (d2 := d2) (t2 := t2) I hsz kk un2 hok2 os2 bare2
    exact ⟨rv, hp.objs.size + 1, _, _, ⟨G, g2, d2, t2, os'⟩, H, .ref C, none, rfl, J2, kG, ge, hoe, ⟨rfl, rfl⟩, rfl, rfl, hn, rfl, bare2, raises_own T.A.exC T.A.ty, h⟩
  | .ok .next, z => exact z.elim
  | .ok .brk, z => exact z.elim
  | .ok .cont, z => exact z.elim
end
def sRaise (n : Str) : MS := fun env s => .ex ⟨n, []⟩ env s
section
variable {X : Cx} {W : WK} {C : Addr} {B newId initId : String} {bm : List Value} {p pos pos2 : Pos}
theorem s_raise0 {n : Str} {fI : Addr} {k : Nat} {fd : FuncData} (FB : ExcBaseFacts B newId initId bm) (T : OxC X.K newId bm C) (hC : PySem.W.nsIn X.K mainGlobals n = some (some (.ref C))) (iC : PySem.W.findIn X.K (.ref C) "__init__" = some (some (.ref fI))) (tI : PySem.W.typeIn X.K (.ref fI) = some (.type "function"))
    (F : FnOk X.prog X.w X.K X.mg X.base (L2.CX X.prog X.w) k fI fd ["self"] (sp0 C)) (hr : Room (k + 1) X.A) (hb : Binds X.K fd ["self"] []) (hc : X.calm = true) (tk : Takes X W) (hg : Gl X n) (hm : X.mg n = some (.ref C)) (hdb : (n == ("__debug__" : Str)) = false := by decide) :
    MSt X W (.Raise (some (.Call (.Name n p) [] [] pos)) none pos2) (sRaise n) := by
  have pm : PMk X (.Call (.Name n p) [] [] pos) (fun _ H Q => Q (.ref C) none H) := fun pins s σ H Q I h => by
    refine wpAny_Call_Name_kw (ld_glob I hg hm ?_ hdb)
    exact PySem.W.callWith_K0 I.kIn T.kC (bmk0 FB T iC tI F hr hb tk I h)
  exact ⟨_, ps_raise hc tk pm, fun D σ H ρ env sto h1 h2 h3 => h3 (.ref C) none σ H ρ .refl h2 h1 ⟨⟨C, hC, rfl⟩, rfl⟩⟩
end
/-! ### try: .. except C: .. -/
def XmTab (K : PySem.W.Frag) (c : Value) (tab : List (Str × Bool)) : Prop := ∀ n b, tab.lookup n = some b → ∀ C, PySem.W.nsIn K mainGlobals n = some (some (.ref C)) → PySem.W.exmOne K (.ref C) c = some b
def Fl.noex : Fl → Fl
  | .ex _ _ _ => .bad
  | r => r
def sTry (tab : List (Str × Bool)) (b u : MS) : MS := fun env s => match b env s with
  | .ex e env1 s1 => match tab.lookup e.cls with
    | some true => (u env1 s1).noex
    | some false => .ex e env1 s1
    | none => .bad
  | r => r
theorem FPost.unex {K : PySem.W.Frag} {W W' : WK} {D : Ends} {H : Hp} {ρ : Rh} : ∀ {f : Fl}, FPost K W D H ρ f.noex → FPost K W' D H ρ f
  | .nx _ _, h => h
  | .rt _ _, h => h
  | .bk _ _, h => h
  | .ct _ _, h => h
  | .ex _ _ _, h => h.elim
  | .bad, h => h
section
variable {X : Cx} {W : WK} {x : Str} {c : Value} {body suite : List Stmt} {b₀ : Stmt} {np pos pos' : Pos} {mb mu : MS}
theorem s_try {tab : List (Str × Bool)} (hs : X.stack = X.env :: X.outer) (hf : X.env.frame = some X.env.locals) (hc : Names X x c) (tk : Takes X W) (T : XmTab X.K c tab)
    (hb : ∀ (W' : WK) (pn : List (Addr × Obj)) (xe : Value → Shared → Prop), Takes (X.tr pn xe) W' → PassesOwn (model X.prog X.w) X.A X.env xe → MSs (X.tr pn xe) W' body mb)
    (hu : ∀ (a : Addr) (oe : Obj) (pn : List (Addr × Obj)), MSs (X.suite a ((a, oe) :: pn)) WF (b₀ :: suite) mu) :
    MSt X W (.Try body [.ExceptHandler (some (.Name x np)) none (b₀ :: suite) pos'] [] [] pos) (sTry tab mb mu) := by
  refine ⟨_, ps_try_only (tb := fun W' => cS X.K W' mb) (ts := fun _ _ _ => cS X.K WF mu) hs hf hc tk (fun W' pn xe h1 h2 => (hb W' pn xe h1 h2).can) (fun a oe cls d pn _ _ => (hu a oe pn).can), fun D σ H ρ env sto h1 h2 h3 => ⟨ρ, env, sto, h1, h2, ?_⟩⟩
  unfold sTry at h3
  cases q : mb env sto with
  | nx e s => rw [q] at h3; exact h3
  | rt v s => rw [q] at h3; exact h3
  | bk e s => rw [q] at h3; exact h3
  | ct e s => rw [q] at h3; exact h3
  | bad => rw [q] at h3; exact h3
  | ex e env1 s1 =>
    rw [q] at h3
    dsimp only at h3
    intro cls d σ' H' ρ' xx S E R
    obtain ⟨⟨C, hC, rfl⟩, _⟩ := id R
    cases l : tab.lookup e.cls with
    | none => rw [l] at h3; exact h3.elim
    | some b =>
      rw [l] at h3
      refine ⟨b, T _ _ l C hC, fun hb1 a ha => ?_, fun hb0 => ?_⟩
      · subst hb1
        exact ⟨ρ', env1, s1, E, S, FPost.unex (FPost.shift xx h2.hh h3)⟩
      · subst hb0
        exact h3 _ _ _ _ _ xx S E R
end
inductive TabXm (K : PySem.W.Frag) (c : Value) : List (Str × Bool) → Prop
  | nil : TabXm K c []
  | cons {n : Str} {C : Addr} {b : Bool} {r : List (Str × Bool)} (a : PySem.W.nsIn K mainGlobals n = some (some (.ref C))) (q : PySem.W.exmOne K (.ref C) c = some b) (t : TabXm K c r) : TabXm K c ((n, b) :: r)
theorem tab_xm {K : PySem.W.Frag} {c : Value} : ∀ (tab : List (Str × Bool)), TabXm K c tab → XmTab K c tab
  | _, .nil => fun n b h => by simp [List.lookup] at h
  | _, .cons (n := m) (C := D) (b := b0) (r := r) a q t => fun n b h C hC => by
    by_cases e : n = m
    · subst e
      rw [a] at hC
      cases hC
      rw [List.lookup_cons_self] at h
      cases h
      exact q
    · have e' : (n == m) = false := by simpa using e
      simp only [List.lookup, e'] at h
      exact tab_xm r t n b h C hC
theorem exm_own {K : PySem.W.Frag} {C : Addr} {cls : Value} {b : Bool} (A : OxA K C) (h : PySem.W.subIn K cls (.ref C) = some b) : PySem.W.exmOne K cls (.ref C) = some b := by
  obtain ⟨cd, hc, _⟩ := PySem.W.any_some (show (PySem.W.clsIn K C).any (·.hasDict) = true from A.hd)
  show (if (PySem.W.subIn K (.ref C) (.type "BaseException") == some true) = true then (if ((PySem.W.clsIn K C).isSome && PySem.W.typeIn K (.ref C) == some (.type "type")) = true then PySem.W.subIn K cls (.ref C) else none) else none) = some b
  rw [A.exC, hc, A.ty]
  exact h
end Mi

noncomputable section
namespace Mi
open PySem PySem.Spec PyProof.Rows L2

/-! ### f(a=.., b=..): all arguments by name, in the order of the parameters -/
section
variable {X : Cx} {W : WK} {k : Nat} {f : Addr} {fd : FuncData} {ps : List Str} {run : GC} {x : Str} {mk : MA} {p pos : Pos} {kws : List Keyword}
theorem e_callW (F : FOk X.prog X.w X.K X.mg X.base k f fd ps run) (hr : Room k X.A) (tk : Takes X W) (hg : Gl X x) (hm : X.mg x = some (.ref f)) (hk : PySem.W.keepIn X.K (.ref f) = true)
    (hb : ∀ (s : Shared) (ws : List Value), ws.length = ps.length → BindsTo s fd ⟨[], ps.zip ws⟩ (ps.zip ws)) (ha : MKs X W kws mk) {n : Nat} (hn : ps.length = n := by rfl)
    (hall : (backToKw pos (keywordEach kws X.env)).all (·.1.isSome) = true := by rfl) (hks : (backToKw pos (keywordEach kws X.env)).filterMap (·.1) = ps := by rfl) (hdb : (x == ("__debug__" : Str)) = false := by decide)
    (hpl : ((backTo pos (starEach [] X.env)).any (·.1) || (backToKw pos (keywordEach kws X.env)).any (·.1.isNone)) = false := by rfl) : ME X W (.Call (.Name x p) [] kws pos) (mCall (ar n run) mk) := by
  subst hn
  obtain ⟨t, q, s⟩ := ha
  refine ⟨fun σ H Q => t σ H fun vs H1 => spF X.K ps.length run vs H1 Q (WE W σ), ⟨fun pins st σ H Q I h => ?_⟩, fun σ H ρ env sto Q hE hS hP => ?_⟩
  · refine wpAny_Call_Name_kw (ld_glob I hg hm ?_ hdb)
    refine PySem.W.callWith_KW0 (h₀ := X.base) I.ok.mod.kin hk hall (thn (q.run pos pins st σ H _ I h) fun us s1 ⟨vs, H1, I1, r, q1⟩ => ⟨I1.kIn, ?_⟩) hpl
    rw [hks]
    have hl : us.length = ps.length := by rw [← Paired.length r]; exact F.len _ _ _ _ q1
    refine wpAny_call (codeAny_mono (F.run X.A X.stack s1 H1 ⟨[], ps.zip us⟩ us vs Q (WE W σ) hr I1.env0 (hb s1 us hl) r q1) fun r' s' z => ?_)
    match r', z with
    | .error er, z => exact passAt tk σ pins _ _ er s' I1 z
    | .ok (.ret u), z => exact I1.after z
    | .ok .next, z => exact z.elim
    | .ok .brk, z => exact z.elim
    | .ok .cont, z => exact z.elim
  · refine s σ H ρ env sto _ hE hS ((hP.bind hS).imp fun v s1 H1 ρ1 x1 S1 P1 ys hys => ?_)
    unfold ar at P1
    cases q : Nat.beq v.length ps.length with
    | false => rw [q] at P1; exact P1.elim
    | true =>
      rw [q] at P1
      exact ⟨by rw [← hys.length]; exact Nat.eq_of_beq_eq_true q, v, ρ1, s1, hys, S1, P1⟩
end
/-! ### isinstance(caught, T) in the suite -/
def mIsC (a : Addr) (i : Nat) (ob : Option Bool) : M := fun env s => match env[i]? with
  | some (some (.obj a')) => if a' = a then (match ob with
    | some b => .ok (.bl b) s
    | none => .bad) else .bad
  | _ => .bad
/-- the same, the name's slot left alone -/
def mIsD (ob : Option Bool) : M := fun _ s => match ob with
  | some b => .ok (.bl b) s
  | none => .bad
section
variable {X : Cx} {W : WK} {a C : Addr} {oe : Obj} {pn : List (Addr × Obj)} {c : Expr} {p p2 pos : Pos}
theorem cr_isC {cV : V} {cv : Value} {b : Bool} (Kk : OxK X.K) (A : OxA X.K C) (hz : Zc (.ref C) none oe) (hf : ∃ vs, oe.data = .fields vs) (hcv : ∀ u, RelV cV u → u = cv) (k : PySem.W.kitOne X.K (.ref C) cv = some b) :
    CallR (X.suite a ((a, oe) :: pn)) (.builtin "isinstance") (fun vs H Q => vs = [.ref a, cV] ∧ Q (.bl b) H) := by
  intro pins s σ H vs us Q I r h
  obtain ⟨rfl, q⟩ := h
  obtain ⟨u1, u2, rfl, r1, r2⟩ := vals2 r
  obtain rfl : u1 = Value.ref a := r1
  have e2 := hcv _ r2
  subst e2
  obtain ⟨hget, _⟩ := I.pin (a, oe) (List.mem_append.mpr (.inl List.mem_cons_self))
  obtain ⟨vs, hv⟩ := hf
  have J : PySem.W.InstAt s.heap a oe C none := by
    obtain ⟨oc, od, oda, osl⟩ := oe
    obtain ⟨h1, h2⟩ := hz
    dsimp only at h1 h2 hv
    subst h1 h2 hv
    exact ⟨hget, rfl, rfl, trivial⟩
  have hcl : (PySem.W.clsIn X.K C).isSome = true := by
    obtain ⟨cd, hcd, _⟩ := PySem.W.any_some (show (PySem.W.clsIn X.K C).any (·.hasDict) = true from A.hd)
    rw [hcd]; rfl
  exact PySem.W.kia_one (PySem.W.kitx_exc hcl A.ga A.gg A.exC A.cl Kk.gs Kk.tk A.ob) I.kIn J k (fun z => nomatch z) fun t => ⟨.bl b, H, I.tok t, rfl, q⟩
theorem e_isC {n : Str} {i : Nat} {tab : List (Str × Bool)} {cV : V} {cv : Value} {x : Str} (hn : PySem.W.nsIn X.K mainGlobals n = some (some (.ref C))) (Kk : OxK X.K) (T : IsTab X.K cv tab) (hz : Zc (.ref C) none oe) (hf : ∃ vs, oe.data = .fields vs)
    (gl : Gl (X.suite a ((a, oe) :: pn)) "isinstance") (hm : X.mg "isinstance" = none) (hc : PE (X.suite a ((a, oe) :: pn)) c (tC cV)) (hcv : ∀ u, RelV cV u → u = cv) (hN : X.N[i]? = some x) (hv : Vis X.env.scope x)
    (hd : (x == ("__debug__" : Str)) = false := by decide) (hcd : (x == ("__classdict__" : Str)) = false := by decide)
    (he : starEach [.Name x p2, c] X.env = (false, eval (.Name x p2) X.env) :: starEach [c] X.env := by rfl) (he2 : starEach [c] X.env = (false, eval c X.env) :: starEach [] X.env := by rfl) (hpl : (backTo pos (starEach [c] X.env)).any (·.1) = false := by rfl) :
    ME (X.suite a ((a, oe) :: pn)) W (.Call (.Name "isinstance" p) [.Name x p2, c] [] pos) (mIsC a i (tab.lookup n)) := by
  cases l : tab.lookup n with
  | none =>
    refine ⟨fun _ _ _ => False, ⟨fun _ _ _ _ _ _ h => h.elim⟩, fun σ H ρ env sto Q hE hS hP => ?_⟩
    unfold mIsC at hP
    split at hP
    · split at hP <;> exact hP.elim
    · exact hP.elim
  | some b =>
    obtain ⟨A, k⟩ := T n b l C hn
    refine ⟨_, pe_callB (cr_isC Kk A hz hf hcv k) gl hm (by decide +kernel) (pa_cons (pe_var (i := i) hN hv hd hcd) (pa_cons hc pa_nil he2) he) (by decide) (by decide) he hpl, fun σ H ρ env sto Q hE hS hP => ?_⟩
    unfold mIsC at hP
    split at hP
    · rename_i a' e
      split at hP
      · rename_i e2
        subst e2
        obtain ⟨v, h1, h2⟩ := hE.2 i _ e
        cases h2
        exact ⟨_, h1, rfl, hP H ρ .refl hS _ rfl⟩
      · exact hP.elim
    · exact hP.elim
end
/-! ### try: .. except C as n: .. -/
def putF (i : Nat) (v : Option PV) : Fl → Fl
  | .nx e s => .nx (e.set i v) s
  | .bk e s => .bk (e.set i v) s
  | .ct e s => .ct (e.set i v) s
  | .ex x e s => .ex x (e.set i v) s
  | r => r
theorem putF_nx (i : Nat) (v : Option PV) (e : Env) (s : Sto) : putF i v (.nx e s) = .nx (e.set i v) s := rfl
theorem putF_rt (i : Nat) (v : Option PV) (x : PV) (s : Sto) : putF i v (.rt x s) = .rt x s := rfl
theorem bind_ok {α β : Type} (a : α) (s : Sto) (f : α → Sto → R β) : (R.ok a s).bind f = f a s := rfl
theorem fl_ok {α : Type} (a : α) (s : Sto) (env : Env) (f : α → Sto → Fl) : (R.ok a s).fl env f = f a s := rfl
theorem putF_fl {α : Type} (i : Nat) (v : Option PV) (env : Env) (r : R α) (f : α → Sto → Fl) : putF i v (r.fl env f) = r.fl (env.set i v) fun x s => putF i v (f x s) := by cases r <;> rfl
theorem clr {i : Nat} {K : PySem.W.Frag} {H : Hp} {ρ : Rh} {v : Option PV} {e : Env} {σ : L2.St} (E : REnv K H ρ (e.set i v) σ) : REnv K H ρ (e.set i none) (σ.set i none) := by
  refine ⟨by simpa using E.1, fun j p q => ?_⟩
  by_cases hj : i = j
  · subst hj
    rw [List.getElem?_set] at q
    simp at q
  · rw [List.getElem?_set_ne hj] at q
    obtain ⟨w, h1, h2⟩ := E.2 j p (by rw [List.getElem?_set_ne hj]; exact q)
    exact ⟨w, by rw [List.getElem?_set_ne hj]; exact h1, h2⟩
def sTryAs (tab : List (Str × Bool)) (i : Nat) (b : MS) (u : Str → MS) : MS := fun env s => match b env s with
  | .ex e env1 s1 => match tab.lookup e.cls with
    | some true => match e.flds with
      | [] => bif Nat.blt i env1.length then putF i none (u e.cls (env1.set i none) s1).noex else .bad
      | _ => .bad
    | some false => .ex e env1 s1
    | none => .bad
  | r => r
section
variable {X : Cx} {W : WK} {x n : Str} {i : Nat} {c : Value} {body suite : List Stmt} {b₀ : Stmt} {np pos pos' : Pos} {mb : MS} {mu : Addr → Str → MS} {mu0 : Str → MS}
theorem putF_post {K : PySem.W.Frag} {D : Ends} {H : Hp} {ρ : Rh} {v : Option PV} : ∀ {f : Fl}, FPost K WF D H ρ (putF i none f).noex →
    FPost K WF { nx := fun σ' H' => D.nx (σ'.set i none) H', rt := D.rt, bk := fun σ' H' => D.bk (σ'.set i none) H', ct := fun σ' H' => D.ct (σ'.set i none) H' } H ρ (putF i v f)
  | .nx e s, h => fun σ' H' ρ' x S E => h _ H' ρ' x S (clr E)
  | .rt _ _, h => h
  | .bk e s, h => fun σ' H' ρ' x S E => h _ H' ρ' x S (clr E)
  | .ct e s, h => fun σ' H' ρ' x S E => h _ H' ρ' x S (clr E)
  | .ex _ _ _, h => h.elim
  | .bad, h => h
theorem s_try_as {tab : List (Str × Bool)} (hs : X.stack = X.env :: X.outer) (hf : X.env.frame = some X.env.locals) (hN : X.N.Nodup) (hi : X.N[i]? = some n) (hln : X.env.kindOf n = some .local) (hc : Names X x c) (tk : Takes X W) (T : XmTab X.K c tab)
    (hb : ∀ (W' : WK) (pn : List (Addr × Obj)) (xe : Value → Shared → Prop), Takes (X.tr pn xe) W' → PassesOwn (model X.prog X.w) X.A X.env xe → MSs (X.tr pn xe) W' body mb)
    (hu : ∀ (k : Str) (C a : Addr) (oe : Obj) (pn : List (Addr × Obj)), PySem.W.nsIn X.K mainGlobals k = some (some (.ref C)) → Zc (.ref C) none oe → (∃ vs, oe.data = .fields vs) → MSs (X.suite a ((a, oe) :: pn)) WF (b₀ :: suite) (mu a k))
    (hp : ∀ (a : Addr) (k : Str) (env : Env) (s : Sto), i < env.length → mu a k (env.set i (some (.obj a))) s = putF i (some (.obj a)) (mu0 k (env.set i none) s)) :
    MSt X W (.Try body [.ExceptHandler (some (.Name x np)) (some n) (b₀ :: suite) pos'] [] [] pos) (sTryAs tab i mb mu0) := by
  refine ⟨_, ps_try_as (i := i) (tb := fun W' => cS X.K W' mb) (ts := fun a cls d D σ H => ∃ k C, PySem.W.nsIn X.K mainGlobals k = some (some (.ref C)) ∧ cls = .ref C ∧ d = none ∧ cS X.K WF (mu a k) D σ H) hs hf hN hi hln hc tk (fun W' pn xe h1 h2 => (hb W' pn xe h1 h2).can) (fun a oe cls d pn hz hv => ⟨fun pins s σ H D I h => ?_⟩), fun D σ H ρ env sto h1 h2 h3 => ⟨ρ, env, sto, h1, h2, ?_⟩⟩
  · obtain ⟨k, C, hk, e1, e2, h⟩ := h
    subst e1 e2
    exact (hu k C a oe pn hk hz hv).can.run pins s σ H D I h
  unfold sTryAs at h3
  cases q : mb env sto with
  | nx e s => rw [q] at h3; exact h3
  | rt v s => rw [q] at h3; exact h3
  | bk e s => rw [q] at h3; exact h3
  | ct e s => rw [q] at h3; exact h3
  | bad => rw [q] at h3; exact h3
  | ex e env1 s1 =>
    rw [q] at h3
    dsimp only at h3
    intro cls d σ' H' ρ' xx S E R
    obtain ⟨⟨C, hC, rfl⟩, hd⟩ := id R
    cases l : tab.lookup e.cls with
    | none => rw [l] at h3; exact h3.elim
    | some b =>
      rw [l] at h3
      refine ⟨b, T _ _ l C hC, fun hb1 a ha => ?_, fun hb0 => ?_⟩
      · subst hb1
        dsimp only at h3
        cases fl : e.flds with
        | cons _ _ => rw [fl] at h3; exact h3.elim
        | nil =>
          rw [fl] at h3
          have hdn : d = none := by
            cases d with
            | none => rfl
            | some d => exact absurd fl hd.1
          subst hdn
          refine ⟨e.cls, C, hC, rfl, rfl, ρ', env1.set i (some (.obj a)), s1, E.set i rfl, S, ?_⟩
          obtain ⟨hlen, h3⟩ := and_of (C := FPost X.K W D H ρ) h3 (fun z => z)
          have hlen : i < env1.length := Nat.le_of_ble_eq_true hlen
          have z : FPost X.K WF D H' ρ' (putF i none (mu0 e.cls (env1.set i none) s1)).noex := by
            have z := FPost.shift xx h2.hh h3
            cases r : mu0 e.cls (env1.set i none) s1 <;> rw [r] at z <;> exact z
          rw [hp a e.cls env1 s1 hlen]
          exact putF_post z
      · subst hb0
        exact h3 _ _ _ _ _ xx S E R
end
end Mi

noncomputable section
namespace Mi
open PySem PySem.Spec PyProof.Rows L2

/-! ### the end of a law whose defs' tables may grow -/
/-- the tables of these defs, by the written part -/
def tabsOf (K : PySem.W.Frag) (pres : List Str) : List (Addr × Addr) := pres.filterMap (PySem.W.tabIn K)
theorem noTab_look {K : PySem.W.Frag} (h : PySem.W.noTabs K = true) {a : Addr} {ps : Array Value} : K.lookup a ≠ some (PySem.W.tabObj ps) := fun e => by
  have q := List.all_eq_true.mp h _ (PySem.W.mem_of_lookupK e)
  cases q
/-- what the law's call starts from -/
structure Begin (K : PySem.W.Frag) (tabs : List Addr) (a : Addr) (ns : List Int) (H : Hp) : Prop where
  tab : ∀ b ∈ tabs, H b = some (.ext (G0.tabOk b))
  sq : SqL K H a (ns.map V.int)
  only : ∀ b, H b = none ∨ b ∈ tabs ∨ ∃ o xs, H b = some (.frz o (.lst xs))
section
variable {P : Program} {w : World} {K : PySem.W.Frag} {mg mb : Str → Option Value} {CX : CXT} {k : Nat} {fa a : Addr} {cs : List (Addr × Addr)} {fd : FuncData} {x : Str} {sp : Sp} {s1 : Shared} {vs : List Value} {ns : List Int}
theorem law_run (KX : K.In s1.heap) (nK : PySem.W.noTabs K = true) (hns : s1.heap.Ns mainGlobals mg) (hb : s1.heap.Ns builtinsNs mb) (hbb : ∀ x : Str, x ≠ "__name__" → mb x = bootBuiltins x) (hlim : s1.heap.NoLimit) (hg : s1.gens = #[])
    (hT : ∀ p ∈ cs, PySem.W.CodeHd s1.heap p.1 p.2 ∧ s1.heap.get? p.2 = some (PySem.W.tabObj #[]))
    (hbm : ∃ (bm : Addr) (ob : Obj), mg "__builtins__" = some (.ref bm) ∧ bm ≠ builtinsNs ∧ s1.heap.get? bm = some ob ∧ ob.cls = .type "module" ∧ ob.dict = some builtinsNs ∧ ob.data = .plain)
    (ha : s1.heap.get? a = some { cls := .type "list", data := .seq vs.toArray }) (hi : IntsAre vs ns) (hl : ns.length ≤ sizeLine) (hr : Room k callerA)
    (F : ∀ base : Heap, K.In base → base.Ns mainGlobals mg → (∀ p ∈ cs, GxR.TabB base mg p.1 p.2) → FnOk P w K mg base CX k fa fd [x] sp) (hbind : ∀ (s : Shared) (u : Value), BindsTo s fd ⟨[u], []⟩ [(x, u)])
    (hsp : ∀ H : Hp, Begin K (cs.map (·.2)) a ns H → sp [.ref a] H (fun v H' => v = .bl true ∧ ∀ b ∈ cs.map (·.2), H' b = some (.ext (G0.tabOk b))) fun _ _ _ => False)
    (hCX : ∀ H e s', CX [] H s1 (fun _ _ _ => False) e s' → False) :
    codeAny (model P w) callerA (.call (.ref fa) ⟨[.ref a], []⟩) (fun r s' => r = .ok (.ret (.bool true)) ∧ OldK s1.heap s'.heap ∧ s'.os = s1.os ∧ AllBare s'.gens) s1 := by
  classical
  have rv := vals_ints hi
  have lenV := hi.length
  generalize hTs : cs.map (·.2) = ts at hsp
  have tabAt : ∀ b ∈ ts, s1.heap.get? b = some (PySem.W.tabObj #[]) := fun b hb => by
    rw [← hTs] at hb
    obtain ⟨p, hp, e⟩ := List.mem_map.mp hb
    rw [← e]; exact (hT p hp).2
  have aT : a ∉ ts := fun z => by
    have q := tabAt a z
    rw [ha] at q
    cases congrArg Obj.cls (Option.some.inj q)
  have mem2 : ∀ p ∈ cs, p.2 ∈ ts := fun p hp => by rw [← hTs]; exact List.mem_map.mpr ⟨p, hp, rfl⟩
  have go : ∀ H : Hp, Begin K ts a ns H → HOk P w H s1.heap → (∀ b, H b ≠ none → b = a ∨ b ∈ ts) → (H a ≠ none → K.lookup a = none) →
      codeAny (model P w) callerA (.call (.ref fa) ⟨[.ref a], []⟩) (fun r s' => r = .ok (.ret (.bool true)) ∧ OldK s1.heap s'.heap ∧ s'.os = s1.os ∧ AllBare s'.gens) s1 := by
    intro H B hok hA hK
    have other : ∀ {b : Addr} {o : Obj}, s1.heap.get? b = some o → (∀ v n, o.data ≠ .seq v n) → o.data ≠ .fields #[] → H b = none := fun {b o} e d1 d2 => by
      by_cases q : H b = none
      · exact q
      · rcases hA b q with z | z
        · rw [z, ha] at e; cases e; exact (d1 _ _ rfl).elim
        · rw [tabAt b z] at e; cases e; exact (d2 rfl).elim
    have shown : ∀ {b : Addr} {o : Obj}, s1.heap.get? b = some o → (∀ v n, o.data ≠ .seq v n) → o.data ≠ .fields #[] → (hidT s1.heap H).get? b = some o := fun e d1 d2 => hidT_get e (other e d1 d2)
    have nsK : ∀ {b : Addr} {m : Str → Option Value}, s1.heap.Ns b m → (hidT s1.heap H).Ns b m := fun {b m} ⟨o, es, ep, e, d, r⟩ => ⟨o, es, ep, shown e (fun v n z => by rw [d] at z; cases z) (fun z => by rw [d] at z; cases z), d, r⟩
    have hKb : K.In (hidT s1.heap H) := fun b o e => by
      have e1 := KX b o e
      refine hidT_get e1 ?_
      by_cases q : H b = none
      · exact q
      · rcases hA b q with z | z
        · rw [z] at e q; rw [hK q] at e; cases e
        · rw [tabAt b z] at e1; cases e1; exact (noTab_look nK e).elim
    have hM : L2.Mod K mg (hidT s1.heap H) := ⟨hKb, nsK hns, ⟨mb, nsK hb, hbb⟩, let ⟨mc, h1, h2⟩ := hlim; ⟨mc, nsK h1, h2⟩⟩
    have TB : ∀ p ∈ cs, GxR.TabB (hidT s1.heap H) mg p.1 p.2 := fun p hp => by
      obtain ⟨C, hTp⟩ := hT p hp
      refine ⟨?_, ?_, fun z => ?_⟩
      · obtain ⟨o, us, file, tf, flags, tg, inF, text, tt, e1, r1, r2, r3, rest⟩ := C
        exact ⟨o, us, file, tf, flags, tg, inF, text, tt, shown e1 (fun v n z => by rw [r2] at z; cases z) (fun z => by rw [r2] at z; cases z; simp at r3), r1, r2, r3, rest⟩
      · obtain ⟨bm, ob, b1, b2, b3, b4, b5, b6⟩ := hbm
        have d1 : ∀ v n, ob.data ≠ .seq v n := fun v n z => by rw [b6] at z; cases z
        have d2 : ob.data ≠ .fields #[] := fun z => by rw [b6] at z; cases z
        refine ⟨bm, ob, b1, b2, fun q => ?_, fun q => ?_, shown b3 d1 d2, b4, b5, b6⟩
        · obtain ⟨o, es, ep, e, hd, _⟩ := hns
          rw [q, e] at b3; cases b3
          rw [hd] at b6; cases b6
        · rw [q, hTp] at b3; cases b3; cases b6
      · obtain ⟨o, es, ep, e, hd, _⟩ := hns
        rw [z, hTp] at e; cases e; cases hd
    have e0 : Env0 P w K mg (hidT s1.heap H) callerA [] s1 H := ⟨rfl, hM, fun b o e => of_hidT e, Nat.le_of_eq (hidT_size _ _), trivial, fun b hb => absurd (show b ∈ ([] : List Addr) from hb) (by simp), hok, .of_eq hg⟩
    refine codeAny_mono ((F _ hKb (nsK hns) TB).run callerA [] s1 H ⟨[.ref a], []⟩ [.ref a] [.ref a] _ _ hr e0 (hbind s1 (.ref a)) (.cons rfl .nil) (hsp H B)) fun r s' h => ?_
    match r, h with
    | .error e, h => exact (hCX H e s' h).elim
    | .ok .next, h => exact h.elim
    | .ok .brk, h => exact h.elim
    | .ok .cont, h => exact h.elim
    | .ok (.ret u), h =>
      obtain ⟨v, H', os, bare, un, hok', r', q, qt⟩ := h
      subst q
      obtain rfl : u = Value.bool true := r'
      have key : ∀ b o, b ∉ ts → s1.heap.get? b = some o → s'.heap.get? b = some o := fun b o nb e => by
        rcases B.only b with q | q | ⟨ob, xs, z⟩
        · exact un.keep b o e q (fun z => by cases z) (fun z => by cases z)
        · exact absurd q nb
        · obtain ⟨e1, _⟩ := hok b _ z
          obtain ⟨e2, _⟩ := hok' b _ (un.frzs b ob _ z)
          rw [e] at e1; cases e1
          exact e2
      have grown : ∀ b ∈ ts, ∃ more : Array Value, s'.heap.get? b = some (PySem.W.tabObj more) := fun b hb => by
        obtain ⟨⟨ps, e, _⟩, _⟩ := hok' b _ (qt b hb)
        exact ⟨ps, e⟩
      refine ⟨rfl, ⟨fun b o e => ?_, fun b o e => ?_⟩, os, bare⟩
      · by_cases hbt : b ∈ ts
        · have hbt' := hbt
          rw [← hTs] at hbt'
          obtain ⟨p, hp, ep⟩ := List.mem_map.mp hbt'
          subst ep
          obtain ⟨more, hm⟩ := grown _ hbt
          obtain ⟨C, hTp⟩ := hT p hp
          rw [hTp] at e; cases e
          exact .inr (.inl ⟨(C.tab hTp).isCodeTable, rfl, #[], more, rfl, by rw [Array.empty_append]; exact hm⟩)
        · exact .inl (key b o hbt e)
      · by_cases hbt : b ∈ ts
        · obtain ⟨more, hm⟩ := grown _ hbt
          exact ⟨_, hm⟩
        · exact ⟨o, key b o hbt e⟩
  have tabs : ∀ b ∈ ts, ∀ H : Hp, ObjOk P w H s1.heap b (.ext (G0.tabOk b)) := fun b hb H => G0.tabOk_obj ⟨#[], tabAt b hb, by simp [TriplesOk]⟩
  cases hk : K.lookup a with
  | some o =>
    have e := KX a o hk
    rw [ha] at e; cases e
    refine go (fun b => if b ∈ ts then some (.ext (G0.tabOk b)) else none) ⟨fun b hb => if_pos hb, .inr ⟨_, vs.toArray, _, hk, rfl, rfl, rfl, by rw [List.size_toArray, lenV]; exact hl, by simpa using rv⟩, fun b => ?_⟩ (fun b u z => ?_) (fun b z => ?_) fun z => absurd (if_neg aT) z
    · by_cases hb : b ∈ ts
      · exact .inr (.inl hb)
      · exact .inl (if_neg hb)
    · by_cases hb : b ∈ ts
      · have z' := (if_pos hb).symm.trans z
        cases z'; exact tabs b hb _
      · have z' := (if_neg hb).symm.trans z
        cases z'
    · by_cases hb : b ∈ ts
      · exact .inr hb
      · exact absurd (if_neg hb) z
  | none =>
    refine go (fun b => if b = a then some (.frz { cls := .type "list", data := .seq vs.toArray } (.lst (ns.map V.int))) else if b ∈ ts then some (.ext (G0.tabOk b)) else none)
      ⟨fun b hb => (if_neg (show ¬ b = a from fun z => aT (z ▸ hb))).trans (if_pos hb), .inl (.inr ⟨{ cls := .type "list", data := .seq vs.toArray }, if_pos rfl⟩), fun b => ?_⟩ (fun b u z => ?_) (fun b z => ?_) fun _ => hk
    · by_cases h1 : b = a
      · exact .inr (.inr ⟨_, _, if_pos h1⟩)
      · by_cases h2 : b ∈ ts
        · exact .inr (.inl h2)
        · exact .inl ((if_neg h1).trans (if_neg h2))
    · by_cases h1 : b = a
      · have z' := (if_pos h1).symm.trans z
        cases z'
        rw [h1]
        exact ⟨ha, by rw [List.length_map]; exact hl, vs, _, rv, ha⟩
      · have z1 := (if_neg h1).symm.trans z
        by_cases h2 : b ∈ ts
        · have z' := (if_pos h2).symm.trans z1
          cases z'; exact tabs b h2 _
        · have z' := (if_neg h2).symm.trans z1
          cases z'
    · by_cases h1 : b = a
      · exact .inl h1
      · by_cases h2 : b ∈ ts
        · exact .inr h2
        · exact absurd ((if_neg h1).trans (if_neg h2)) z
end
theorem walk_ofX {l : PySem.W.OpenLaw} {n k : Nat} {q : Program} {loose : List Str} {XP : (Str → Option Value) → Heap → Prop} {YP : World → Heap → Prop} {d : DefRec} {K : Params → PySem.W.Frag} {CX : World → CXT} {sp : World → Sp} {x : Str} {pres : List Str}
    (hn : l.most = some n) (hn2 : n ≤ sizeLine) (hdf : d.params.defaults = []) (hr : Room k callerA) (nK : ∀ p, PySem.W.noTabs (K p) = true) (hrec : ∀ x ∈ pres, (((recsOf q).find? fun e => e.name == x).isSome) = true)
    (hY : ∀ (w : World) (h : Heap), YP w h → (K w.params).In h)
    (F : ∀ (w : World) (mg : Str → Option Value) (fa : Addr) (h : Heap), (K w.params).In h → h.Ns mainGlobals mg → mg d.name = some (.ref fa) →
      ∃ fd : FuncData, (∀ (s : Shared) (u : Value), BindsTo s fd ⟨[u], []⟩ [(x, u)]) ∧ (∀ x ∈ gdefs, x ∈ pres ∨ PySem.W.tabIn (K w.params) x = none) ∧
        ∀ base : Heap, (K w.params).In base → base.Ns mainGlobals mg → (∀ p ∈ tabsOf (K w.params) pres, GxR.TabB base mg p.1 p.2) → FnOk l.prog w (K w.params) mg base (CX w) k fa fd [x] (sp w))
    (hsp : ∀ (w : World) (H : Hp) (a : Addr) (ns : List Int) (ts : List Addr), ns.length ≤ n → (∀ z ∈ ns, Builtin.Int.intBits z ≤ 1048576) → Begin (K w.params) ts a ns H → (∀ b, GenTab (K w.params) b → b ∈ ts) → (∀ b ∈ ts, ∃ c x, PySem.W.tabIn (K w.params) x = some (c, b) ∧ x ∈ pres) →
      sp w [.ref a] H (fun v H' => v = .bl true ∧ ∀ b ∈ ts, H' b = some (.ext (G0.tabOk b))) fun _ _ _ => False)
    (hCX : ∀ (w : World) (H : Hp) (s : Shared) (e : Value) (s' : Shared), CX w [] H s (fun _ _ _ => False) e s' → False) :
    PySem.W.WalkO q loose XP YP l.row.toRowW d [] (fun f vs => PySem.call f vs) := by
  refine Att.attach_callB hn hdf fun w s₀ s1 mg mb fa o pm cd doc a vs ns G Y ho hd hcd hmg hobj hints hlen hbits hg => ?_
  have KX := hY w _ Y
  obtain ⟨fd, hb, hpr, hF⟩ := F w mg fa _ KX G.T.g hmg
  have hT : ∀ p ∈ tabsOf (K w.params) pres, PySem.W.CodeHd s1.heap p.1 p.2 ∧ s1.heap.get? p.2 = some (PySem.W.tabObj #[]) := fun p hp => by
    obtain ⟨x, hx, e⟩ := List.mem_filterMap.mp hp
    obtain ⟨d', hd'⟩ := Option.isSome_iff_exists.mp (hrec x hx)
    exact PySem.W.tab_of G.T KX hd' e
  refine law_run KX (nK _) G.T.g G.T.b G.T.builtins G.T.nolimit hg hT G.T.bmain hobj hints (Nat.le_trans hlen hn2) hr hF hb (fun H B => hsp w H a ns _ hlen hbits B (fun b hb => ?_) fun b hb => ?_) fun H e s' => hCX w H s1 e s'
  · obtain ⟨x, hx, c, e⟩ := hb
    rcases hpr x hx with z | z
    · exact List.mem_map.mpr ⟨(c, b), List.mem_filterMap.mpr ⟨x, z, e⟩, rfl⟩
    · rw [z] at e; cases e
  · obtain ⟨p, hp, e⟩ := List.mem_map.mp hb
    obtain ⟨x, hx, e2⟩ := List.mem_filterMap.mp hp
    exact ⟨p.1, x, by rw [e2, ← e], hx⟩
end Mi

noncomputable section
namespace Mi
open PySem PySem.Spec PyProof.Rows L2

/-! ### all, any of a generator expression -/
def genL (st : Bool) (J : MIt) (g : MG) (elt : M) (env : Env) : Nat → Nat → Sto → R PV
  | 0, _, _ => .bad
  | n + 1, i, s => match J i s with
    | none => .ok (.bl (!st)) s
    | some v => ((g v env s).noex).bind fun env1 s1 => ((elt env1 s1).noex).bind fun y s2 => match y with
      | .bl b => bif b == st then .ok (.bl st) s2 else genL st J g elt env n (i + 1) s2
      | _ => .bad
def mGen (st : Bool) (N : Nat) (mi : MI) (vs : List Nat) (g : MG) (elt : M) : M := fun env s => (mi env s).bind fun J s1 => genL st J g elt (wipeE env vs) N 0 s1
section
variable {mi : MI} {g : MG} {me : M} {sl : List Nat}
theorem gen_ok {K : PySem.W.Frag} {W : WK} {P : Addr} {vs : List Nat} {wi : TI} {gt : TG} {te : TE} (st : Bool) (N : Nat) (hi : SI K W wi mi) (hg : SG K WF gt g sl) (he : SE K WF te me) (hs : ∀ j ∈ sl, j ∈ vs) (hP : GenTab K P) : SE K W (G0.tGenP P st wi gt te vs) (mGen st N mi vs g me) := by
  intro σ H ρ env sto Q hE hS hP'
  refine hi σ H ρ env sto _ hE hS ((hP'.bind hS).imp fun J s1 H1 ρ1 x1 S1 P1 Jh hJ => ?_)
  refine ⟨(S1.tb P hP).1, fun i n H => ∃ ρ s, Ext ρ1 H1 ρ H ∧ RSt K H ρ s ∧ Post K (fun c d h => W c d σ h) H ρ (GV K Q) (genL st J g me (wipeE env vs) n i s), ⟨N, ρ1, s1, .refl, S1, P1⟩, ?_⟩
  rintro i n H2 ⟨ρ2, s2, x2, S2, P2⟩
  cases n with
  | zero => exact P2.elim
  | succ n =>
    have hj := hJ i H2 ρ2 s2 x2.toExtW S2
    unfold genL at P2
    cases e : J i s2 with
    | none =>
      rw [e] at hj P2
      exact .inl ⟨hj, P2 H2 ρ2 .refl S2 _ rfl⟩
    | some v =>
      rw [e] at hj P2
      refine .inr ⟨hj.1, fun H => ∃ ρ s, Ext ρ1 H1 ρ H ∧ RSt K H ρ s ∧ Post K (fun c d h => W c d σ h) H ρ (GV K Q) (genL st J g me (wipeE env vs) n (i + 1) s), fun H' h => ⟨n, Nat.lt_succ_self n, h⟩, fun x H' hy => ?_⟩
      obtain ⟨y1, y2, y3⟩ := hj.2 x H' hy
      have E2 : REnv K H' ρ2 (wipeE env vs) (wipe σ vs) := (wipeE_ok hE vs).mono ((x1.toExtW.trans x2.toExtW).trans y1.toExtW)
      refine hg v x (wipe σ vs) H' ρ2 (wipeE env vs) s2 _ E2 y2 y3 (Post.unex (((Post.shift y1 S2.hh P2).bind y2).imp fun env3 s3 H3 ρ3 x3 S3 P3 σ3 E3 O3 => ⟨wipe_only O3 hs, ?_⟩))
      refine he σ3 H3 ρ3 env3 s3 _ E3 S3 (Post.unex ((P3.bind S3).imp fun y s4 H4 ρ4 x4 S4 P4 z hz => ?_))
      cases y with
      | bl b =>
        cases hz
        refine ⟨b, rfl, ?_⟩
        have P4 : Post K (fun c d h => W c d σ h) H4 ρ4 (GV K Q) (bif b == st then .ok (.bl st) s4 else genL st J g me (wipeE env vs) n (i + 1) s4) := P4
        cases hb : (b == st) with
        | true => rw [hb] at P4; exact P4 H4 ρ4 .refl S4 _ rfl
        | false => rw [hb] at P4; exact ⟨ρ4, s4, ((x2.trans y1 S1.hh).trans x3 S1.hh).trans x4 S1.hh, S4, P4⟩
      | _ => exact P4.elim
end
/-- a def that holds a generator expression -/
structure GD (K : PySem.W.Frag) (mg : Str → Option Value) (base : Heap) (fd : FuncData) where
  c : Addr
  P : Addr
  code : fd.code = .ref c
  tb : GxR.TabB base mg c P
  isT : GenTab K P
/-- in every run of the generator's body -/
abbrev InGen (X : Cx) (k : Nat) (scope : Scope) (Pr : Cx → Prop) : Prop := ∀ (A' : Around) (s : Shared) (H : Hp) (C : Addr) (code : Value) (fp : List Addr), Room k A' → Pr (G0.gX X A' s H (G0.gEnv X scope C code) fp)
section
variable {X : Cx} {W : WK} {elt tg iter : Expr} {scope : Scope} {own : List (Str × Nat)} {p pos gpos : Pos} {mi : MI} {g : MG} {me : M} {sl : List Nat} {k : Nat} {fd : FuncData}
theorem gsc_of (ok : BlkOk X.N X.env.scope scope own) (co : scope.isCoroutine = false) (cell : (scope.names.all fun y => match y.2 with | .cell => false | _ => true) = true) (dot : scope.names.lookup (".0" : Str) = some NameKind.local) : G0.GSc X scope own :=
  ⟨ok, co, fun y hy e => (by
    have q := List.all_eq_true.mp cell y hy
    rw [e] at q; cases q), dot⟩
theorem e_allG (N : Nat) (vs : List Nat) (hr : Room (k + 1) X.A) (hgl : Gl X "all") (hm : X.mg "all" = none) (D : GD X.K X.mg X.base fd) (hcode : X.env.code = fd.code) (S : G0.GSc X scope own) (hN : X.N.Nodup) (hs : ∀ j ∈ sl, j ∈ vs) (hi : MIr X W tg iter mi)
    (hg : InGen X k scope fun Y => MGt Y WF tg g sl) (he : InGen X k scope fun Y => ME Y WF elt me) (hv : own.map (·.2) = vs := by rfl)
    (hf : ∀ v, genFold iter X.env v = pure v := by intro _; rfl)
    (hst : starEach [.GeneratorExp elt [⟨tg, iter, [], 0⟩] scope gpos] X.env = (false, eval (.GeneratorExp elt [⟨tg, iter, [], 0⟩] scope gpos) X.env) :: starEach [] X.env := by rfl) :
    ME X W (.Call (.Name "all" p) [.GeneratorExp elt [⟨tg, iter, [], 0⟩] scope gpos] [] pos) (mGen false N mi vs g me) := by
  subst hv
  obtain ⟨t, q, s⟩ := hi
  exact ⟨_, G0.pe_allG (g := cG X.K g sl) (te := cE X.K WF me) hr hgl hm (by decide +kernel) D.tb (hcode.trans D.code) S hN q (fun A s H C code fp r => (hg A s H C code fp r).can) (fun A s H C code fp r => (he A s H C code fp r).can) hf hst, gen_ok false N s sg_can se_can hs D.isT⟩
theorem e_anyG (N : Nat) (vs : List Nat) (hr : Room (k + 1) X.A) (hgl : Gl X "any") (hm : X.mg "any" = none) (D : GD X.K X.mg X.base fd) (hcode : X.env.code = fd.code) (S : G0.GSc X scope own) (hN : X.N.Nodup) (hs : ∀ j ∈ sl, j ∈ vs) (hi : MIr X W tg iter mi)
    (hg : InGen X k scope fun Y => MGt Y WF tg g sl) (he : InGen X k scope fun Y => ME Y WF elt me) (hv : own.map (·.2) = vs := by rfl)
    (hf : ∀ v, genFold iter X.env v = pure v := by intro _; rfl)
    (hst : starEach [.GeneratorExp elt [⟨tg, iter, [], 0⟩] scope gpos] X.env = (false, eval (.GeneratorExp elt [⟨tg, iter, [], 0⟩] scope gpos) X.env) :: starEach [] X.env := by rfl) :
    ME X W (.Call (.Name "any" p) [.GeneratorExp elt [⟨tg, iter, [], 0⟩] scope gpos] [] pos) (mGen true N mi vs g me) := by
  subst hv
  obtain ⟨t, q, s⟩ := hi
  exact ⟨_, G0.pe_anyG (g := cG X.K g sl) (te := cE X.K WF me) hr hgl hm (by decide +kernel) D.tb (hcode.trans D.code) S hN q (fun A s H C code fp r => (hg A s H C code fp r).can) (fun A s H C code fp r => (he A s H C code fp r).can) hf hst, gen_ok true N s sg_can se_can hs D.isT⟩
end
section
variable {P : Program} {w : World} {K : PySem.W.Frag} {mg : Str → Option Value} {base : Heap} {k : Nat} {f : Addr} {fd : FuncData} {ps N : List Str} {x qual : Str} {st : Stmt}
/-- fn_ok, the code object told -/
theorem fn_okC {body : MS} (m : Nat) (F : Fun K x qual st f fd) (S : FnScope N ps (defScope st)) (hm : N.length - ps.length = m)
    (hb : ∀ (cdv : Value) (A : Around) (outer : List PySem.Env) (s : Shared) (H : Hp) (E : XK), cdv = fd.code → Room k (A.deeper (envOfC qual (defScope st) s.heap.objs.size f cdv)) →
      MSs (cxOf (L2.CX P w) P w K mg base N qual (defScope st) f cdv A outer s H E) (fun cls d _ H => E cls d H) (defBody st) body) :
    FOk P w K mg base (k + 1) f fd ps (runB m body) := by
  obtain ⟨oc, od, kV, doc, pm, an, cdv, ct, osl, rfl, lk, hcd⟩ := F.ex
  refine fn_of lk hcd S (fun _ _ _ _ h => h.1) fun A outer s H vs Q E hr h => ?_
  obtain ⟨hl, args, ρ, sto, r, St, P⟩ := h
  obtain ⟨t, p, z⟩ := hb cdv A outer s H E rfl hr
  refine ⟨t, p, z _ (L2.start N vs) H ρ (start' m args) sto (start_ok r (by rw [hl]; exact hm)) St ?_⟩
  unfold runB at P
  cases q : body (start' m args) sto with
  | nx env s => rw [q] at P; exact fun σ' H' ρ' x S' _ => P H' ρ' x S' _ rfl
  | rt v s => rw [q] at P; exact fun y H' ρ' x S' hy => P H' ρ' x S' y hy
  | bk env s => rw [q] at P; exact P.elim
  | ct env s => rw [q] at P; exact P.elim
  | ex e env s => rw [q] at P; exact fun cls d σ' H' ρ' x S' _ hx => P cls d H' ρ' x S' hx
  | bad => rw [q] at P; exact P.elim
end

/-! ### defs as values -/
section
variable {X : Cx} {W : WK} {k i t : Nat} {f : Addr} {fd : FuncData} {ps : List Str} {run : GC} {x y : Str} {e : Expr} {es : List Expr} {ms : MA} {p pos : Pos}
/-- the def's name, handed on -/
theorem e_fn (hg : Gl X x) (hm : X.mg x = some (.ref f)) (hh : hofs[t]? = some x) (hn : PySem.W.nsIn X.K mainGlobals x = some (some (.ref f))) (hd : (x == ("__debug__" : Str)) = false := by decide) : ME X W (.Name x pos) (mC (.fn t)) :=
  ⟨_, pe_glob (v := .ref f) hg hm rfl hd, fun _ H ρ _ _ _ _ hS hP => hP H ρ .refl hS _ ⟨x, f, hh, hn, rfl⟩⟩
/-- a local that holds the t-th of them is called -/
def mCallL (i t : Nat) (run : GC) (ms : MA) : M := fun env s => match env[i]? with
  | some (some (.fn n)) => bif Nat.beq n t then (ms env s).bind run else .bad
  | _ => .bad
theorem e_callL (F : FOk X.prog X.w X.K X.mg X.base k f fd ps run) (hr : Room k X.A) (tk : Takes X W) (hh : hofs[t]? = some y) (hn : PySem.W.nsIn X.K mainGlobals y = some (some (.ref f))) (hk : PySem.W.keepIn X.K (.ref f) = true) (hb : Binds X.K fd ps [])
    (hN : X.N[i]? = some x) (hv : Vis X.env.scope x) (ha : MEs X W (e :: es) ms) {n : Nat} (hl : ps.length = n := by rfl)
    (hdb : (x == ("__debug__" : Str)) = false := by decide) (hcd : (x == ("__classdict__" : Str)) = false := by decide) (he : starEach (e :: es) X.env = (false, eval e X.env) :: starEach es X.env := by rfl) (hpl : (backTo pos (starEach es X.env)).any (·.1) = false := by rfl) :
    ME X W (.Call (.Name x p) (e :: es) [] pos) (mCallL i t (ar n run) ms) := by
  subst hl
  obtain ⟨tt, q, s⟩ := ha
  refine ⟨fun σ H Q => σ[i]? = some (some (.ref f)) ∧ tt σ H fun vs H1 => spF X.K ps.length run vs H1 Q (WE W σ), ⟨fun pins s σ H Q I h => ?_⟩, fun σ H ρ env sto Q hE hS hP => ?_⟩
  · obtain ⟨hs, ht⟩ := h
    refine wpAny_Call_Name_kw (thn ((pe_var (pos := p) hN hv hdb hcd).run pins s σ H (fun v H1 => v = .ref f ∧ H1 = H) I ⟨.ref f, hs, rfl, rfl⟩) fun u s1 ⟨v, H1, I1, r1, q1⟩ => ?_)
    obtain ⟨rfl, rfl⟩ := q1
    cases r1
    refine PySem.W.callWith_K (h₀ := X.base) I.ok.mod.kin hk (thn (q.run pos pins s1 σ _ _ I1 ht) fun us s2 ⟨vs, H2, I2, r, q2⟩ => ⟨I2.kIn, ?_⟩) he hpl
    exact run_fnS (E := WE W) F hr hb (passAt tk σ) I2 r q2
  · unfold mCallL at hP
    split at hP
    · rename_i n e1
      obtain ⟨hq, hP2⟩ := and_of (C := Post X.K (fun c d h => W c d σ h) H ρ (GV X.K Q)) hP (fun z => z)
      have hq : _ = t := Nat.eq_of_beq_eq_true hq
      subst hq
      obtain ⟨v, h1, x', f', h2, h3, rfl⟩ := hE.2 i _ e1
      rw [hh] at h2; cases h2
      rw [hn] at h3; cases h3
      refine ⟨h1, s σ H ρ env sto _ hE hS ((hP2.bind hS).imp fun v s1 H1 ρ1 x1 S1 P1 ys hys => ?_)⟩
      unfold ar at P1
      cases q : Nat.beq v.length ps.length with
      | false => rw [q] at P1; exact P1.elim
      | true =>
        rw [q] at P1
        exact ⟨by rw [← hys.length]; exact Nat.eq_of_beq_eq_true q, v, ρ1, s1, hys, S1, P1⟩
    · exact hP.elim
end

/-! ### constants of the module -/
/-- x holds the constant c -/
def Cst (K : PySem.W.Frag) (mg : Str → Option Value) (x : Str) (c : PV) : Prop := ∃ u v, mg x = some u ∧ RelV v u ∧ ∀ H ρ, RV K H ρ c v
theorem e_cst {X : Cx} {W : WK} {x : Str} {c : PV} {pos : Pos} (hg : Gl X x) (hc : Cst X.K X.mg x c) (hd : (x == ("__debug__" : Str)) = false := by decide) : ME X W (.Name x pos) (mC c) := by
  obtain ⟨u, v, hm, r, h⟩ := hc
  exact ⟨_, pe_glob (v := v) hg hm r hd, fun _ H ρ _ _ _ _ hS hP => hP H ρ .refl hS _ (h H ρ)⟩
/-- a written value -/
def CsV (K : PySem.W.Frag) (c : PV) (u : Value) : Prop := ∃ v, RelV v u ∧ ∀ H ρ, RV K H ρ c v
def CsVs (K : PySem.W.Frag) (cs : List PV) (us : List Value) : Prop := ∃ vs, Vals vs us ∧ ∀ H ρ, RVs K H ρ cs vs
section
variable {K : PySem.W.Frag} {mg : Str → Option Value} {x : Str} {c : PV} {cs : List PV} {u : Value} {us : List Value}
theorem cst_of {h : Heap} (X : K.In h) (G : h.Ns mainGlobals mg) (e : PySem.W.nsIn K mainGlobals x = some (some u)) (hc : CsV K c u) : Cst K mg x c := let ⟨v, r, q⟩ := hc; ⟨u, v, PySem.W.mg_of X G e, r, q⟩
theorem cv_int {i : Int} {t : Tok} : CsV K (.int i) (.int i t) := ⟨.int i, ⟨t, rfl⟩, fun _ _ => rfl⟩
theorem cv_str {i : Str} {t : Tok} : CsV K (.str i) (.str i t) := ⟨.str i, ⟨t, rfl⟩, fun _ _ => rfl⟩
theorem cv_bl {i : Bool} : CsV K (.bl i) (.bool i) := ⟨.bl i, rfl, fun _ _ => rfl⟩
theorem cv_non : CsV K .non .none := ⟨.non, rfl, fun _ _ => rfl⟩
theorem cv_nil : CsVs K [] [] := ⟨[], .nil, fun _ _ => rfl⟩
theorem cv_cons (h : CsV K c u) (t : CsVs K cs us) : CsVs K (c :: cs) (u :: us) := let ⟨v, r, q⟩ := h; let ⟨vs, rs, qs⟩ := t; ⟨v :: vs, .cons r rs, fun H ρ => .cons (q H ρ) (qs H ρ)⟩
theorem cv_tup {a : Addr} {d : Option Addr} {n : Nat} {sl : Array (Option Value)} {its : Array Value} (e : K.lookup a = some ⟨.type "tuple", d, .seq its n, sl⟩) (h : CsVs K cs its.toList) (hl : Nat.ble its.size sizeLine = true) : CsV K (.tup cs) (.ref a) :=
  let ⟨vs, rs, qs⟩ := h; ⟨.ref a, rfl, fun H ρ => ⟨a, vs, rfl, .inr (.inr ⟨_, its, n, e, rfl, rfl, Nat.le_of_ble_eq_true hl, rs⟩), qs H ρ⟩⟩
end
end Mi

/-! zip of any two, each a list or a tuple (true: a tuple) -/
namespace G1
open PySem PySem.Spec PyProof.Rows L2 RZ
def IsQ : Bool → Heap → Addr → Array Value → Prop
  | true, h, a, xs => h.IsTuple a xs
  | false, h, a, xs => h.IsList a xs
def IsQI : Bool → Heap → Addr → Addr → Nat → Prop
  | true, h, a, l, i => h.IsTupleIter a l i
  | false, h, a, l, i => h.IsListIter a l i
def itC : Bool → String
  | true => "tuple_iterator"
  | false => "list_iterator"
theorem IsQ.up {t : Bool} {h h' : Heap} {a : Addr} {xs : Array Value} (x : IsQ t h a xs) (e : ∀ o, h.get? a = some o → h'.get? a = some o) : IsQ t h' a xs := match t, x with
  | true, x => Heap.IsTuple.at x e
  | false, x => Heap.IsList.at x e
theorem IsQI.up {t : Bool} {h h' : Heap} {a l : Addr} {i : Nat} (x : IsQI t h a l i) (e : ∀ o, h.get? a = some o → h'.get? a = some o) : IsQI t h' a l i := match t, x with
  | true, x => Heap.IsTupleIter.at x e
  | false, x => Heap.IsListIter.at x e
theorem IsQI.hd {t : Bool} {h : Heap} {a l : Addr} {i : Nat} (x : IsQI t h a l i) : ∃ o f, h.get? a = some o ∧ o.data = .fields f := match t, x with
  | true, ⟨o, e, _, d⟩ => ⟨o, _, e, d⟩
  | false, ⟨o, e, _, d⟩ => ⟨o, _, e, d⟩
section
variable {prog : Program} {w : World} {A : Around} {E : Value → Shared → Prop} {s : Shared}
theorem nx_item {t : Bool} {j m : Addr} {i : Nat} {xs : Array Value} {x : Value} {Q : Value → Shared → Prop} (a1 : IsQI t s.heap j m i) (a2 : IsQ t s.heap m xs) (a3 : xs[i]? = some x)
    (q : ∀ h', IsQI t h' j m (i + 1) → Heap.SameBut j s.heap h' → Q x { s with heap := h' }) : wpAny (model prog w) A (Builtin.SmallTypes.nextOf (.ref j)) Q E s := match t, a1, a2, q with
  | true, a1, a2, q => nextOf_tuple_item a1 a2 a3 q
  | false, a1, a2, q => wpAny_nextOf_list_item a1 a2 a3 q
theorem nx_end {t : Bool} {j m : Addr} {i : Nat} {xs : Array Value} {Q : Value → Shared → Prop} (hh : A.handled = none) (a1 : IsQI t s.heap j m i) (a2 : IsQ t s.heap m xs) (a3 : xs[i]? = none)
    (q : ∀ h' e, Heap.ExtBut j s.heap h' → (∃ o, h'.get? e = some o ∧ o.cls = .type "StopIteration") → E (.ref e) { s with heap := h' }) : wpAny (model prog w) A (Builtin.SmallTypes.nextOf (.ref j)) Q E s := match t, a1, a2 with
  | true, a1, a2 => nextOf_tuple_end hh a1 a2 a3 q
  | false, a1, a2 => wpAny_nextOf_list_end hh a1 a2 a3 q
variable {z TI TO i1 i2 l1 l2 : Addr} {k1 k2 : Nat} {xs ys : Array Value} {t1 t2 : Bool}
/-- what a step may touch -/
abbrev Off (z TO i1 i2 : Addr) (h h' : Heap) : Prop := ∀ c o, c ≠ z ∧ c ≠ TO ∧ c ≠ i1 ∧ c ≠ i2 → h.get? c = some o → h'.get? c = some o
/-- zip's own step -/
theorem zq_item {x y a b : Value} {Q : Value → Shared → Prop} (D : ZipApart z TI TO i1 i2 l1 l2) (b0 : IsZip s.heap z TI TO .none) (b1 : IsPair s.heap TI (.ref i1) (.ref i2)) (b2 : IsPair s.heap TO a b)
    (b3 : IsQI t1 s.heap i1 l1 k1) (b4 : IsQI t2 s.heap i2 l2 k2) (b5 : IsQ t1 s.heap l1 xs) (b6 : IsQ t2 s.heap l2 ys) (b7 : xs[k1]? = some x) (b8 : ys[k2]? = some y)
    (q : ∀ h', IsZip h' z TI TO (rawInt s.heap.objs.size) → IsPair h' TO x y → IsQI t1 h' i1 l1 (k1 + 1) → IsQI t2 h' i2 l2 (k2 + 1) → IsPair h' s.heap.objs.size x y → Off z TO i1 i2 s.heap h' → Q (.ref s.heap.objs.size) { s with heap := h' }) :
    wpAny (model prog w) A (Builtin.«zip.__next__» ⟨[.ref z], []⟩) (fun fin s' => ∃ v, fin = .done (.ret v) ∧ Q v s') E s := by
  show wpAny (model prog w) A (field (.ref z) 2 >>= _) _ E s
  refine wpAny_bind (wpAny_field b0 rfl (x := .bool false) rfl (show wpAny (model prog w) A (field (.ref z) 3 >>= _) _ E s from ?_))
  refine wpAny_bind (wpAny_field b0 rfl (x := .ref TI) rfl (wpAny_bind (wpAny_seqItems b1 rfl ?_)))
  show wpAny (model prog w) A (Builtin.SmallTypes.ownedTupleIsFree (.ref z) >>= _) _ E s
  refine wpAny_bind (show wpAny (model prog w) A (Builtin.SmallTypes.ownedTupleIsFree (.ref z)) _ E s from ?_)
  unfold Builtin.SmallTypes.ownedTupleIsFree
  refine wpAny_bind (wpAny_field b0 rfl (x := .none) rfl (wpAny_pure (show wpAny (model prog w) A (if true = true then _ else _) _ E s from ?_)))
  rw [if_pos rfl]
  refine wpAny_bind (wpAny_rule (wpAny_bind (wpAny_field b0 rfl (x := .ref TO) rfl (wpAny_bind (wpAny_setField_rec b0 (by simp) fun g1 c0 e1 => ?_)))))
  replace c0 : IsZip g1 z TI TO .ellipsis := c0
  have n1 : ∀ {c o}, c ≠ z → s.heap.get? c = some o → g1.get? c = some o := fun {c o} n e => e1.extBut c o n e
  simp only [List.zipIdx_cons, List.zipIdx_nil, List.forIn_cons, List.forIn_nil]
  refine wpAny_bind (wpAny_bind (wpAny_bind (wpAny_onRaise (show wpAny (model prog w) _ (Builtin.SmallTypes.nextOf (.ref i1) >>= _) _ _ _ from wpAny_bind (nx_item (b3.up fun o => n1 D.i1z) (b5.up fun o => n1 D.l1z) b7 fun g2 c1 e2 => wpAny_pure ?_)))))
  have n2 : ∀ {c o}, c ≠ i1 → g1.get? c = some o → g2.get? c = some o := fun {c o} n e => e2.extBut c o n e
  have p2 : IsPair g2 TO a b := n2 D.TOi1 (n1 D.TOz b2)
  refine wpAny_bind (wpAny_seqItems p2 rfl (wpAny_bind (wpAny_updateSeq_pair p2 fun g3 p3 e3 => ?_)))
  replace p3 : IsPair g3 TO x b := p3
  have n3 : ∀ {c o}, c ≠ TO → g2.get? c = some o → g3.get? c = some o := fun {c o} n e => e3.extBut c o n e
  refine wpAny_bind (wpAny_letGo (wpAny_pure (wpAny_bind (wpAny_bind (wpAny_onRaise (show wpAny (model prog w) _ (Builtin.SmallTypes.nextOf (.ref i2) >>= _) _ _ _ from ?_))))))
  refine wpAny_bind (nx_item (b4.up fun o e => n3 D.TOi2.symm (n2 D.i12.symm (n1 D.i2z e))) (b6.up fun o e => n3 D.l2TO (n2 D.l2i1 (n1 D.l2z e))) b8 fun g4 c2 e4 => wpAny_pure ?_)
  have n4 : ∀ {c o}, c ≠ i2 → g3.get? c = some o → g4.get? c = some o := fun {c o} n e => e4.extBut c o n e
  have p4 : IsPair g4 TO x b := n4 D.TOi2 p3
  refine wpAny_bind (wpAny_seqItems p4 rfl (wpAny_bind (wpAny_updateSeq_pair p4 fun g5 p5 e5 => ?_)))
  replace p5 : IsPair g5 TO x y := p5
  have n5 : ∀ {c o}, c ≠ TO → g4.get? c = some o → g5.get? c = some o := fun {c o} n e => e5.extBut c o n e
  refine wpAny_bind (wpAny_letGo (wpAny_pure (wpAny_pure (wpAny_bind (wpAny_seqItems p5 rfl (wpAny_bind (wpAny_newTuple ?_)))))))
  have sz : g5.objs.size = s.heap.objs.size := by rw [e5.1, e4.1, e3.1, e2.1, e1.1]
  have c5 : IsZip g5 z TI TO .ellipsis := n5 D.TOz.symm (n4 D.i2z.symm (n3 D.TOz.symm (n2 D.i1z.symm c0)))
  have ix : IsQI t1 g5 i1 l1 (k1 + 1) := c1.up fun o e => n5 D.TOi1.symm (n4 D.i12 (n3 D.TOi1.symm e))
  have iy : IsQI t2 g5 i2 l2 (k2 + 1) := c2.up fun o e => n5 D.TOi2.symm e
  have zlt : z < g5.objs.size := Heap.lt_size c5
  show wpAny (model prog w) A (Builtin.SmallTypes.ownedTupleHandOut (.ref z) (.ref g5.objs.size) >>= _) _ E _
  refine wpAny_bind (show wpAny (model prog w) A (Builtin.SmallTypes.ownedTupleHandOut (.ref z) (.ref g5.objs.size)) _ E _ from ?_)
  unfold Builtin.SmallTypes.ownedTupleHandOut
  have c6 : IsZip (g5.push { cls := .type "tuple", data := .seq #[x, y] }) z TI TO .ellipsis := Heap.get?_push_of_some _ c5
  refine wpAny_bind (wpAny_setField_rec c6 (by simp) fun g7 c7 e7 => ?_)
  replace c7 : IsZip g7 z TI TO (rawInt g5.objs.size) := c7
  refine wpAny_setField_rec c7 (by simp) fun g8 c8 e8 => ?_
  replace c8 : IsZip g8 z TI TO (rawInt g5.objs.size) := c8
  have nw : ∀ {c o}, c ≠ z → (g5.push { cls := .type "tuple", data := .seq #[x, y] }).get? c = some o → g8.get? c = some o := fun {c o} n e => e8.extBut c o n (e7.extBut c o n e)
  have T8 : IsPair g8 g5.objs.size x y := nw (Nat.ne_of_gt zlt) (Heap.get?_push_size _ rfl)
  rw [sz] at c8 T8
  refine wpAny_pure ⟨_, rfl, ?_⟩
  show Q (.ref g5.objs.size) _
  rw [sz]
  exact q g8 c8 (nw D.TOz (Heap.get?_push_of_some _ p5)) (ix.up fun o e => nw D.i1z (Heap.get?_push_of_some _ e)) (iy.up fun o e => nw D.i2z (Heap.get?_push_of_some _ e)) T8 fun c o n e =>
    nw n.1 (Heap.get?_push_of_some _ (n5 n.2.1 (n4 n.2.2.2 (n3 n.2.1 (n2 n.2.2.1 (n1 n.1 e))))))
/-- zip's step behind the last pair -/
theorem zq_end {a b : Value} {Q : Fin → Shared → Prop} (hh : A.handled = none) (D : ZipApart z TI TO i1 i2 l1 l2) (b0 : IsZip s.heap z TI TO .none) (b1 : IsPair s.heap TI (.ref i1) (.ref i2)) (b2 : IsPair s.heap TO a b)
    (b3 : IsQI t1 s.heap i1 l1 k1) (b4 : IsQI t2 s.heap i2 l2 k2) (b5 : IsQ t1 s.heap l1 xs) (b6 : IsQ t2 s.heap l2 ys) (b7 : xs[k1]? = none ∨ ys[k2]? = none)
    (q : ∀ h' e, Off z TO i1 i2 s.heap h' → (∃ o, h'.get? e = some o ∧ o.cls = .type "StopIteration") → E (.ref e) { s with heap := h' }) :
    wpAny (model prog w) A (Builtin.«zip.__next__» ⟨[.ref z], []⟩) Q E s := by
  show wpAny (model prog w) A (field (.ref z) 2 >>= _) Q E s
  refine wpAny_bind (wpAny_field b0 rfl (x := .bool false) rfl (show wpAny (model prog w) A (field (.ref z) 3 >>= _) Q E s from ?_))
  refine wpAny_bind (wpAny_field b0 rfl (x := .ref TI) rfl (wpAny_bind (wpAny_seqItems b1 rfl ?_)))
  show wpAny (model prog w) A (Builtin.SmallTypes.ownedTupleIsFree (.ref z) >>= _) Q E s
  refine wpAny_bind (show wpAny (model prog w) A (Builtin.SmallTypes.ownedTupleIsFree (.ref z)) _ E s from ?_)
  unfold Builtin.SmallTypes.ownedTupleIsFree
  refine wpAny_bind (wpAny_field b0 rfl (x := .none) rfl (wpAny_pure (show wpAny (model prog w) A (if true = true then _ else _) Q E s from ?_)))
  rw [if_pos rfl]
  refine wpAny_bind (wpAny_rule (wpAny_bind (wpAny_field b0 rfl (x := .ref TO) rfl (wpAny_bind (wpAny_setField_rec b0 (by simp) fun g1 c0 e1 => ?_)))))
  replace c0 : IsZip g1 z TI TO .ellipsis := c0
  have n1 : ∀ {c o}, c ≠ z → s.heap.get? c = some o → g1.get? c = some o := fun {c o} n e => e1.extBut c o n e
  have other : ∀ {g : Heap} {e : Addr}, IsZip g z TI TO .ellipsis → (∃ o, g.get? e = some o ∧ o.cls = .type "StopIteration") → e ≠ z := fun {g e} c ⟨o, ho, hc⟩ n => by
    rw [n, c] at ho; cases ho; simp at hc
  simp only [List.zipIdx_cons, List.zipIdx_nil, List.forIn_cons, List.forIn_nil]
  refine wpAny_bind (wpAny_bind (wpAny_bind (wpAny_onRaise (show wpAny (model prog w) _ (Builtin.SmallTypes.nextOf (.ref i1) >>= _) _ _ _ from ?_))))
  cases hx : xs[k1]? with
  | none =>
    refine wpAny_bind (nx_end hh (b3.up fun o => n1 D.i1z) (b5.up fun o => n1 D.l1z) hx fun g2 e e2 he => ?_)
    have c2 : IsZip g2 z TI TO .ellipsis := e2 z _ D.i1z.symm c0
    have ne := other c2 he
    obtain ⟨o, ho, hc⟩ := he
    exact wpAny_setField_rec c2 (by simp) fun g3 _ e3 => q g3 e (fun c o n u => e3.extBut c o n.1 (e2 c o n.2.2.1 (n1 n.1 u))) ⟨o, e3.extBut e o ne ho, hc⟩
  | some x =>
    have hy : ys[k2]? = none := b7.resolve_left fun u => by rw [hx] at u; cases u
    refine wpAny_bind (nx_item (b3.up fun o => n1 D.i1z) (b5.up fun o => n1 D.l1z) hx fun g2 c1 e2 => wpAny_pure ?_)
    have n2 : ∀ {c o}, c ≠ i1 → g1.get? c = some o → g2.get? c = some o := fun {c o} n e => e2.extBut c o n e
    have p2 : IsPair g2 TO a b := n2 D.TOi1 (n1 D.TOz b2)
    refine wpAny_bind (wpAny_seqItems p2 rfl (wpAny_bind (wpAny_updateSeq_pair p2 fun g3 p3 e3 => ?_)))
    have n3 : ∀ {c o}, c ≠ TO → g2.get? c = some o → g3.get? c = some o := fun {c o} n e => e3.extBut c o n e
    refine wpAny_bind (wpAny_letGo (wpAny_pure (wpAny_bind (wpAny_bind (wpAny_onRaise (show wpAny (model prog w) _ (Builtin.SmallTypes.nextOf (.ref i2) >>= _) _ _ _ from ?_))))))
    refine wpAny_bind (nx_end hh (b4.up fun o e => n3 D.TOi2.symm (n2 D.i12.symm (n1 D.i2z e))) (b6.up fun o e => n3 D.l2TO (n2 D.l2i1 (n1 D.l2z e))) hy fun g4 e e4 he => ?_)
    have c4 : IsZip g4 z TI TO .ellipsis := e4 z _ D.i2z.symm (n3 D.TOz.symm (n2 D.i1z.symm c0))
    have ne := other c4 he
    obtain ⟨o, ho, hc⟩ := he
    exact wpAny_setField_rec c4 (by simp) fun g5 _ e5 => q g5 e (fun c o n u => e5.extBut c o n.1 (e4 c o n.2.2.2 (n3 n.2.1 (n2 n.2.2.1 (n1 n.1 u))))) ⟨o, e5.extBut e o ne ho, hc⟩
theorem pyNextQ {x y a b : Value} {Q : Option Value → Shared → Prop} (D : ZipApart z TI TO i1 i2 l1 l2) (b0 : IsZip s.heap z TI TO .none) (b1 : IsPair s.heap TI (.ref i1) (.ref i2)) (b2 : IsPair s.heap TO a b)
    (b3 : IsQI t1 s.heap i1 l1 k1) (b4 : IsQI t2 s.heap i2 l2 k2) (b5 : IsQ t1 s.heap l1 xs) (b6 : IsQ t2 s.heap l2 ys) (b7 : xs[k1]? = some x) (b8 : ys[k2]? = some y)
    (q : ∀ h', IsZip h' z TI TO (rawInt s.heap.objs.size) → IsPair h' TO x y → IsQI t1 h' i1 l1 (k1 + 1) → IsQI t2 h' i2 l2 (k2 + 1) → IsPair h' s.heap.objs.size x y → Off z TO i1 i2 s.heap h' → Q (some (.ref s.heap.objs.size)) { s with heap := h' }) :
    wpAny (model prog w) A (pyNext (.ref z)) Q E s := by
  have ht : s.TypeIs (.ref z) "zip" := ⟨_, b0, rfl⟩
  unfold pyNext
  refine wpAny_bind (wpAny_attempt (wpAny_callSpecial?_slot (name := Str.ofString "__next__") ht F.slot_zip_next (wpAny_call_entry F.slot_zip_next ht F.entry_zip_next (zq_item D b0 b1 b2 b3 b4 b5 b6 b7 b8 ?_) (F.args_zip_next_1 _))))
  exact fun h' u1 u2 u3 u4 u5 u6 => wpAny_pure (q h' u1 u2 u3 u4 u5 u6)
theorem pyEndQ {a b : Value} {Q : Option Value → Shared → Prop} (hh : A.handled = none) (D : ZipApart z TI TO i1 i2 l1 l2) (b0 : IsZip s.heap z TI TO .none) (b1 : IsPair s.heap TI (.ref i1) (.ref i2)) (b2 : IsPair s.heap TO a b)
    (b3 : IsQI t1 s.heap i1 l1 k1) (b4 : IsQI t2 s.heap i2 l2 k2) (b5 : IsQ t1 s.heap l1 xs) (b6 : IsQ t2 s.heap l2 ys) (b7 : xs[k1]? = none ∨ ys[k2]? = none) (q : ∀ h', Off z TO i1 i2 s.heap h' → Q none { s with heap := h' }) :
    wpAny (model prog w) A (pyNext (.ref z)) Q E s := by
  have ht : s.TypeIs (.ref z) "zip" := ⟨_, b0, rfl⟩
  unfold pyNext
  refine wpAny_bind (wpAny_attempt (wpAny_callSpecial?_slot (name := Str.ofString "__next__") ht F.slot_zip_next (wpAny_call_entry F.slot_zip_next ht F.entry_zip_next (zq_end hh D b0 b1 b2 b3 b4 b5 b6 b7 ?_) (F.args_zip_next_1 _))))
  exact fun h' e hk ⟨o, ho, hc⟩ => wpAny_bind (wpAny_isInstance (T := "StopIteration") (b := true) ⟨o, ho, hc⟩ isSubtype_stop (wpAny_pure (q h' hk)))
end
abbrev f1 (t : Bool) (h : Heap) (a : Addr) : Heap := h.push { cls := .type (itC t), data := .fields #[.ref a, .int 0 0] }
abbrev f3 (t1 t2 : Bool) (h : Heap) (a b : Addr) : Heap := (f1 t2 (f1 t1 h a) b).push { cls := .type "tuple", data := .seq #[.ref h.objs.size, .ref (f1 t1 h a).objs.size] }
abbrev f4 (t1 t2 : Bool) (h : Heap) (a b : Addr) : Heap := (f3 t1 t2 h a b).push { cls := .type "tuple", data := .seq #[.none, .none] }
abbrev f5 (t1 t2 : Bool) (h : Heap) (a b : Addr) : Heap := (f4 t1 t2 h a b).push { cls := .type "zip", data := .fields #[.none, .bool false, .bool false, .ref (f1 t2 (f1 t1 h a) b).objs.size, .ref (f3 t1 t2 h a b).objs.size] }
theorem meetsTL (a b : Addr) (xs ys : Array Value) : Meets (Builtin.«zip.__new__» ⟨[.type "zip", .ref a, .ref b], []⟩) (fun _ R s => s.heap.IsTuple a xs ∧ s.heap.IsList b ys ∧ R (.ok (.ret (.ref (f4 true false s.heap a b).objs.size))) { s with heap := f5 true false s.heap a b }) :=
  .of_wp fun prog w A R s h => by
    obtain ⟨hp, g, d, tk, os⟩ := s; obtain ⟨h1, h2, h⟩ := h
    have hsub := sub_zip
    have q1 : Heap.IsTuple (Shared.heap ⟨hp, g, d, tk, os⟩) a xs := h1
    have q2 : Heap.IsList (Shared.heap ⟨hp.push { cls := .type "tuple_iterator", data := .fields #[.ref a, .int 0 0] }, g, d, tk, os⟩) b ys := Heap.IsList.push h2 _
    wp_walk using wpAny_pyIter_tuple q1, wpAny_pyIter_list q2
    exact ⟨_, rfl, h⟩
theorem meetsLT (a b : Addr) (xs ys : Array Value) : Meets (Builtin.«zip.__new__» ⟨[.type "zip", .ref a, .ref b], []⟩) (fun _ R s => s.heap.IsList a xs ∧ s.heap.IsTuple b ys ∧ R (.ok (.ret (.ref (f4 false true s.heap a b).objs.size))) { s with heap := f5 false true s.heap a b }) :=
  .of_wp fun prog w A R s h => by
    obtain ⟨hp, g, d, tk, os⟩ := s; obtain ⟨h1, h2, h⟩ := h
    have hsub := sub_zip
    have q1 : Heap.IsList (Shared.heap ⟨hp, g, d, tk, os⟩) a xs := h1
    have q2 : Heap.IsTuple (Shared.heap ⟨hp.push { cls := .type "list_iterator", data := .fields #[.ref a, .int 0 0] }, g, d, tk, os⟩) b ys := Heap.IsTuple.push h2 _
    wp_walk using wpAny_pyIter_list q1, wpAny_pyIter_tuple q2
    exact ⟨_, rfl, h⟩
theorem new_it (t : Bool) {h : Heap} {a l : Addr} (e : h.get? a = some { cls := .type (itC t), data := .fields #[.ref l, .int 0 0] }) : IsQI t h a l 0 := match t, e with
  | true, e => ⟨_, e, rfl, rfl⟩
  | false, e => ⟨_, e, rfl, rfl⟩
section
variable {prog : Program} {w : World} {A : Around} {E : Value → Shared → Prop} {s : Shared}
theorem made {t1 t2 : Bool} {a b : Addr} {Q : Value → Shared → Prop}
    (q : ∀ h' n, n = s.heap.objs.size → IsZip h' (n + 4) (n + 2) (n + 3) .none → IsPair h' (n + 2) (.ref n) (.ref (n + 1)) → IsPair h' (n + 3) .none .none → IsQI t1 h' n a 0 → IsQI t2 h' (n + 1) b 0 → (∀ c o, s.heap.get? c = some o → h'.get? c = some o) → Q (.ref (n + 4)) { s with heap := h' }) :
    Q (.ref (f4 t1 t2 s.heap a b).objs.size) { s with heap := f5 t1 t2 s.heap a b } := by
  have z1 : (f1 t1 s.heap a).objs.size = s.heap.objs.size + 1 := Heap.size_push ..
  have z2 : (f1 t2 (f1 t1 s.heap a) b).objs.size = s.heap.objs.size + 2 := by rw [Heap.size_push, z1]
  have z3 : (f3 t1 t2 s.heap a b).objs.size = s.heap.objs.size + 3 := by rw [Heap.size_push, z2]
  have z4 : (f4 t1 t2 s.heap a b).objs.size = s.heap.objs.size + 4 := by rw [Heap.size_push, z3]
  have u5 : (f5 t1 t2 s.heap a b).get? (f4 t1 t2 s.heap a b).objs.size = some _ := Heap.get?_push_size _ rfl
  have u4 : (f5 t1 t2 s.heap a b).get? (f3 t1 t2 s.heap a b).objs.size = some _ := Heap.get?_push_of_some _ (Heap.get?_push_size _ rfl)
  have u3 : (f5 t1 t2 s.heap a b).get? (f1 t2 (f1 t1 s.heap a) b).objs.size = some _ := Heap.get?_push_of_some _ (Heap.get?_push_of_some _ (Heap.get?_push_size _ rfl))
  have u2 : (f5 t1 t2 s.heap a b).get? (f1 t1 s.heap a).objs.size = some _ := Heap.get?_push_of_some _ (Heap.get?_push_of_some _ (Heap.get?_push_of_some _ (Heap.get?_push_size _ rfl)))
  have u1 : (f5 t1 t2 s.heap a b).get? s.heap.objs.size = some _ := Heap.get?_push_of_some _ (Heap.get?_push_of_some _ (Heap.get?_push_of_some _ (Heap.get?_push_of_some _ (Heap.get?_push_size _ rfl))))
  rw [z2, z3, z4] at u5
  rw [z1, z2] at u3
  rw [z3] at u4
  rw [z1] at u2
  rw [z4]
  exact q _ _ rfl u5 u3 u4 (new_it t1 u1) (new_it t2 u2) fun c o x => Heap.get?_push_of_some _ (Heap.get?_push_of_some _ (Heap.get?_push_of_some _ (Heap.get?_push_of_some _ (Heap.get?_push_of_some _ x))))
theorem callQ {t1 t2 : Bool} (mixed : t1 = !t2) {a b : Addr} {xs ys : Array Value} {Q : Value → Shared → Prop} (h1 : IsQ t1 s.heap a xs) (h2 : IsQ t2 s.heap b ys)
    (q : ∀ h' n, n = s.heap.objs.size → IsZip h' (n + 4) (n + 2) (n + 3) .none → IsPair h' (n + 2) (.ref n) (.ref (n + 1)) → IsPair h' (n + 3) .none .none → IsQI t1 h' n a 0 → IsQI t2 h' (n + 1) b 0 → (∀ c o, s.heap.get? c = some o → h'.get? c = some o) → Q (.ref (n + 4)) { s with heap := h' }) :
    wpAny (model prog w) A (call (.type "zip") [.ref a, .ref b]) Q E s := by
  have m := made (s := s) (Q := Q) q
  cases t2 with
  | false =>
    subst mixed
    refine callType_new F.called_zip (by decide) (F.typeCall_zip_2 _ _) (F.newCall_zip_2 _ _) (fun obj => F.args_object_init_3 obj _ _) F.entry_zip_new (meetsTL a b xs ys) ⟨h1, h2, ?_⟩
    have e : (f5 true false s.heap a b).get? (f4 true false s.heap a b).objs.size = some _ := Heap.get?_push_size _ rfl
    exact ⟨⟨_, e, rfl⟩, m⟩
  | true =>
    subst mixed
    refine callType_new F.called_zip (by decide) (F.typeCall_zip_2 _ _) (F.newCall_zip_2 _ _) (fun obj => F.args_object_init_3 obj _ _) F.entry_zip_new (meetsLT a b xs ys) ⟨h1, h2, ?_⟩
    have e : (f5 false true s.heap a b).get? (f4 false true s.heap a b).objs.size = some _ := Heap.get?_push_size _ rfl
    exact ⟨⟨_, e, rfl⟩, m⟩
end
/-! the loop over it -/
def SqQ (K : PySem.W.Frag) (t : Bool) (H : Hp) (a : Addr) (xs : List V) : Prop := match t with
  | true => SqT K H a xs
  | false => SqL K H a xs
theorem inv_sq {X : Cx} {pins : List (Addr × Obj)} {σ : L2.St} {H : Hp} {s : Shared} {t : Bool} {a : Addr} {xs : List V} (I : Inv X pins σ H s) (h : SqQ X.K t H a xs) : ∃ its : List Value, Vals xs its ∧ IsQ t s.heap a its.toArray ∧ a < s.heap.objs.size := by
  cases t with
  | true =>
    obtain ⟨its, rv, p, _⟩ := I.tuple h
    have p' : s.heap.IsTuple a its.toArray := p
    obtain ⟨o, ho, _⟩ := id p'
    exact ⟨its, rv, p', Heap.lt_size ho⟩
  | false =>
    obtain ⟨its, rv, p, _⟩ := I.list h
    exact ⟨its, rv, p.isList, p.lt⟩
theorem inv_inj {X : Cx} {pins : List (Addr × Obj)} {σ : L2.St} {H : Hp} {s : Shared} {t : Bool} {a : Addr} {xs ys : List V} (I : Inv X pins σ H s) (h : SqQ X.K t H a xs) (h' : SqQ X.K t H a ys) : xs = ys := match t, h, h' with
  | true, h, h' => I.tuple_inj h h'
  | false, h, h' => I.list_inj h h'
/-- both as they stand at each turn, their items in new pairs -/
def ItzQ (K : PySem.W.Frag) (t1 t2 : Bool) (a b : Addr) : It :=
  ⟨fun i H => ∃ (xs ys : List V) (x y : V), (SqQ K t1 H a xs ∧ xs[i]? = some x) ∧ SqQ K t2 H b ys ∧ ys[i]? = some y,
    fun i H v H' => ∃ T x y, (v = .ref T ∧ H T = none ∧ H' = upd H T (.tup [x, y])) ∧ (∀ xs, SqQ K t1 H a xs → xs[i]? = some x) ∧ ∀ ys, SqQ K t2 H b ys → ys[i]? = some y,
    fun i H => ∃ xs ys : List V, (SqQ K t1 H a xs ∧ SqQ K t2 H b ys) ∧ (xs.length ≤ i ∨ ys.length ≤ i)⟩
abbrev ZSt (t1 t2 : Bool) (a b z TI TO i1 i2 : Addr) (i : Nat) (h : Heap) : Prop := (IsZip h z TI TO .none ∧ IsPair h TI (.ref i1) (.ref i2) ∧ ∃ x y, IsPair h TO x y) ∧ IsQI t1 h i1 a i ∧ IsQI t2 h i2 b i
theorem five {c z TI TO i1 i2 : Addr} (h : c ∈ [z, TI, TO, i1, i2]) : c = z ∨ c = TI ∨ c = TO ∨ c = i1 ∨ c = i2 := by simpa using h
theorem turnQ {P : Program} {w : World} {K : PySem.W.Frag} {elts : List Expr} {kk : Nat} {tpos : Pos} {t1 t2 : Bool} {a b z TI TO i1 i2 : Addr} (D : ZipApart z TI TO i1 i2 a b) :
    Turn P w K (.Tuple elts kk tpos) (ItzQ K t1 t2 a b) [z, TI, TO, i1, i2] z (ZSt t1 t2 a b z TI TO i1 i2) where
  mem := .head _
  obj := fun i h ⟨⟨b0, b1, x, y, b2⟩, b3, b4⟩ c hc => by
    rcases five hc with rfl | rfl | rfl | rfl | rfl
    · exact ⟨_, b0, fun _ e => nomatch e⟩
    · exact ⟨_, b1, fun _ e => nomatch e⟩
    · exact ⟨_, b2, fun _ e => nomatch e⟩
    · obtain ⟨o, f, e, d⟩ := b3.hd; exact ⟨o, e, fun v q => by rw [d] at q; cases q⟩
    · obtain ⟨o, f, e, d⟩ := b4.hd; exact ⟨o, e, fun v q => by rw [d] at q; cases q⟩
  keep := fun i h h' ⟨⟨b0, b1, x, y, b2⟩, b3, b4⟩ k => ⟨⟨k z (by simp) _ b0, k TI (by simp) _ b1, x, y, k TO (by simp) _ b2⟩, b3.up fun o e => k i1 (by simp) o e, b4.up fun o e => k i2 (by simp) o e⟩
  item := by
    rintro X rfl rfl rfl hc i pins s σ H E I hf ⟨⟨b0, b1, x0, y0, b2⟩, b3, b4⟩ ⟨xs, ys, x, y, ⟨hqx, hx⟩, hqy, hy⟩
    obtain ⟨us, ru, pu, _⟩ := inv_sq I hqx
    obtain ⟨vs, rv, pv, _⟩ := inv_sq I hqy
    obtain ⟨u, hu, wu⟩ := ru.get hx
    obtain ⟨v, hv, wv⟩ := rv.get hy
    have zl : z < s.heap.objs.size := Heap.lt_size b0
    refine pyNextQ D b0 b1 b2 b3 b4 pu pv (x := u) (y := v) (by simpa using hu) (by simpa using hv) fun g c0 c2 c3 c4 cT off => ⟨_, rfl, wpAny_letOwnedTupleGo_zip (s := { s with heap := g }) c0 fun g' d0 sb => ?_⟩
    have up : ∀ {c o}, c ≠ z → g.get? c = some o → g'.get? c = some o := fun {c o} n e => (sb.2 c n).trans e
    have new : ObjOk X.prog X.w (upd H s.heap.objs.size (.tup [x, y])) g' s.heap.objs.size (.tup [x, y]) := ⟨(show 2 ≤ sizeLine by decide), [u, v], .cons wu (.cons wv .nil), ⟨_, up (Nat.ne_of_gt zl) cT, rfl, _, rfl⟩⟩
    have kept : ∀ c o, c ∉ [z, TI, TO, i1, i2] → s.heap.get? c = some o → g'.get? c = some o := fun c o n e => by
      have n' : c ≠ z ∧ c ≠ TO ∧ c ≠ i1 ∧ c ≠ i2 := ⟨fun q => n (by simp [q]), fun q => n (by simp [q]), fun q => n (by simp [q]), fun q => n (by simp [q])⟩
      exact up n'.1 (off c o n' e)
    have J : Inv X pins σ (upd H s.heap.objs.size (.tup [x, y])) { s with heap := g' } := I.turnedNew (t' := s.toks) (ch := [z, TI, TO, i1, i2]) kept hf (Nat.le_refl _) new
    refine ⟨.ref s.heap.objs.size, _, J, rfl, ⟨_, x, y, ⟨rfl, I.hok.fresh (Nat.le_refl _), rfl⟩, fun l hl => inv_inj I hl hqx ▸ hx, fun l hl => inv_inj I hl hqy ▸ hy⟩, ⟨⟨d0, up D.TIz (off _ _ ⟨D.TIz, D.TITO, D.TIi1, D.TIi2⟩ b1), u, v, up D.TOz c2⟩, c3.up fun o e => up D.i1z e, c4.up fun o e => up D.i2z e⟩, fun c hcm => ?_⟩
    have lt : c < s.heap.objs.size := by
      rcases five hcm with rfl | rfl | rfl | rfl | rfl
      · exact zl
      · exact Heap.lt_size b1
      · exact Heap.lt_size b2
      · obtain ⟨o, f, e, _⟩ := b3.hd; exact Heap.lt_size e
      · obtain ⟨o, f, e, _⟩ := b4.hd; exact Heap.lt_size e
    rw [upd_ne (Nat.ne_of_lt lt)]
    exact (hf c hcm).1
  done := by
    rintro X rfl rfl rfl hc i pins s σ H E I hf ⟨⟨b0, b1, x0, y0, b2⟩, b3, b4⟩ ⟨xs, ys, ⟨hqx, hqy⟩, hend⟩
    obtain ⟨us, ru, pu, _⟩ := inv_sq I hqx
    obtain ⟨vs, rv, pv, _⟩ := inv_sq I hqy
    have e1 := ru.length
    have e2 := rv.length
    refine pyEndQ (I.ok.hd hc) D b0 b1 b2 b3 b4 pu pv (hend.imp (fun q => by simp; omega) fun q => by simp; omega) fun g off => ⟨rfl, I.turnedL (t' := s.toks) (ch := [z, TI, TO, i1, i2]) (fun c o n e => off c o ?_ e) hf⟩
    exact ⟨fun q => n (by simp [q]), fun q => n (by simp [q]), fun q => n (by simp [q]), fun q => n (by simp [q])⟩
  self := fun A i s Q E st h => wpAny_pyIter_zip st.1.1 h
end G1

noncomputable section
namespace Mi
open PySem PySem.Spec PyProof.Rows L2

/-! ### dicts with keys that are ints and texts -/
section
variable {κ : Type} [DecidableEq κ]
def valP : List (κ × PV) → κ → Option PV
  | [], _ => none
  | p :: r, k => bif decide (p.1 = k) then some p.2 else valP r k
def setP : List (κ × PV) → κ → PV → List (κ × PV)
  | [], _, _ => []
  | p :: r, k, v => bif decide (p.1 = k) then (p.1, v) :: setP r k v else p :: setP r k v
def putP (kvs : List (κ × PV)) (k : κ) (v : PV) : List (κ × PV) := match valP kvs k with
  | some _ => setP kvs k v
  | none => kvs ++ [(k, v)]
def dropP : List (κ × PV) → κ → List (κ × PV)
  | [], _ => []
  | p :: r, k => bif decide (p.1 = k) then dropP r k else p :: dropP r k
/-- one and the same table -/
def RKs (K : PySem.W.Frag) (H : Hp) (ρ : Rh) (kvs : List (κ × PV)) (yvs : List (κ × V)) : Prop := kvs.map (·.1) = yvs.map (·.1) ∧ RVs K H ρ (kvs.map (·.2)) (yvs.map (·.2))
variable {K : PySem.W.Frag} {H H1 : Hp} {ρ ρ1 : Rh}
theorem RKs.mono {kvs : List (κ × PV)} {yvs : List (κ × V)} (e : ExtW ρ H ρ1 H1) (r : RKs K H ρ kvs yvs) : RKs K H1 ρ1 kvs yvs := ⟨r.1, r.2.mono e⟩
theorem RKs.nil : RKs K H ρ ([] : List (κ × PV)) [] := ⟨rfl, rfl⟩
theorem RKs.length {kvs : List (κ × PV)} {yvs : List (κ × V)} (r : RKs K H ρ kvs yvs) : kvs.length = yvs.length := by
  have := congrArg List.length r.1
  simpa using this
theorem RKs.un {p : κ × PV} {kvs : List (κ × PV)} {yvs : List (κ × V)} (r : RKs K H ρ (p :: kvs) yvs) : ∃ y yr, yvs = (p.1, y) :: yr ∧ RV K H ρ p.2 y ∧ RKs K H ρ kvs yr := by
  cases yvs with
  | nil => cases r.1
  | cons q yr =>
    obtain ⟨h1, h2⟩ := r
    simp only [List.map_cons, List.cons.injEq] at h1
    obtain ⟨v, ws, e, h3, h4⟩ := h2
    simp only [List.map_cons, List.cons.injEq] at e
    exact ⟨q.2, yr, by rw [h1.1], e.1 ▸ h3, h1.2, e.2 ▸ h4⟩
theorem RKs.cons {p : κ × PV} {y : V} {kvs : List (κ × PV)} {yvs : List (κ × V)} (h : RV K H ρ p.2 y) (r : RKs K H ρ kvs yvs) : RKs K H ρ (p :: kvs) ((p.1, y) :: yvs) :=
  ⟨by simp [r.1], .cons h r.2⟩
theorem RKs.val (k : κ) : ∀ {kvs : List (κ × PV)} {yvs : List (κ × V)}, RKs K H ρ kvs yvs → match valP kvs k with
    | some x => ∃ y, valV yvs k = some y ∧ RV K H ρ x y
    | none => valV yvs k = none
  | [], yvs, r => by
    cases yvs with
    | nil => rfl
    | cons _ _ => cases r.1
  | p :: kvs, yvs, r => by
    obtain ⟨y, yr, rfl, h, t⟩ := r.un
    unfold valP
    by_cases e : p.1 = k
    · rw [decide_eq_true e]
      exact ⟨y, valV_pos (p := (p.1, y)) e, h⟩
    · rw [decide_eq_false e]
      have ih := RKs.val k t
      show match valP kvs k with
        | some x => _
        | none => _
      rw [valV_neg (p := (p.1, y)) e]
      exact ih
theorem RKs.set (k : κ) {x : PV} {y : V} (hx : RV K H ρ x y) : ∀ {kvs : List (κ × PV)} {yvs : List (κ × V)}, RKs K H ρ kvs yvs → RKs K H ρ (setP kvs k x) (yvs.map fun kv => if kv.1 = k then (kv.1, y) else kv)
  | [], yvs, r => by
    cases yvs with
    | nil => exact .nil
    | cons _ _ => cases r.1
  | p :: kvs, yvs, r => by
    obtain ⟨z, yr, rfl, h, t⟩ := r.un
    have ih := RKs.set k hx t
    unfold setP
    rw [List.map_cons]
    by_cases e : p.1 = k
    · rw [decide_eq_true e, if_pos e]
      exact RKs.cons (p := (p.1, x)) hx ih
    · rw [decide_eq_false e, if_neg e]
      exact RKs.cons h ih
theorem RKs.snoc {x : PV} {y : V} (hx : RV K H ρ x y) (k : κ) : ∀ {kvs : List (κ × PV)} {yvs : List (κ × V)}, RKs K H ρ kvs yvs → RKs K H ρ (kvs ++ [(k, x)]) (yvs ++ [(k, y)])
  | [], yvs, r => by
    cases yvs with
    | nil => exact RKs.cons (p := (k, x)) hx .nil
    | cons _ _ => cases r.1
  | p :: kvs, yvs, r => by
    obtain ⟨z, yr, rfl, h, t⟩ := r.un
    exact RKs.cons h (RKs.snoc hx k t)
theorem RKs.put (k : κ) {x : PV} {y : V} (hx : RV K H ρ x y) {kvs : List (κ × PV)} {yvs : List (κ × V)} (r : RKs K H ρ kvs yvs) : RKs K H ρ (putP kvs k x) (putK yvs k y) := by
  have q := r.val k
  unfold putP putK
  rw [valV_any]
  cases e : valP kvs k with
  | some z =>
    rw [e] at q
    obtain ⟨u, h1, _⟩ := q
    rw [h1]
    exact r.set k hx
  | none =>
    rw [e] at q
    have q : valV yvs k = none := q
    rw [q]
    exact r.snoc hx k
theorem RKs.drop (k : κ) : ∀ {kvs : List (κ × PV)} {yvs : List (κ × V)}, RKs K H ρ kvs yvs → RKs K H ρ (dropP kvs k) (dropK yvs k)
  | [], yvs, r => by
    cases yvs with
    | nil => exact .nil
    | cons _ _ => cases r.1
  | p :: kvs, yvs, r => by
    obtain ⟨z, yr, rfl, h, t⟩ := r.un
    have ih := RKs.drop k t
    unfold dropP dropK
    rw [List.filter_cons]
    by_cases e : p.1 = k
    · rw [decide_eq_true e]
      simp only [e, ne_eq, not_true_eq_false, decide_false]
      exact ih
    · rw [decide_eq_false e]
      simp only [e, ne_eq, not_false_eq_true, decide_true]
      exact RKs.cons h ih
end
def keyP : PV → Option Key
  | .int i => some (.inl i)
  | .str x => some (.inr x)
  | _ => none
theorem keyP_ok {K : PySem.W.Frag} {H : Hp} {ρ : Rh} : ∀ {x : PV} {v : V} {k : Key}, RV K H ρ x v → keyP x = some k → v = kV k
  | .int _, _, _, r, h => by cases r; cases h; rfl
  | .str _, _, _, r, h => by cases r; cases h; rfl
  | .non, _, _, _, h => by cases h
  | .bl _, _, _, _, h => by cases h
  | .tup _, _, _, _, h => by cases h
  | .lst _, _, _, _, h => by cases h
  | .fro _, _, _, _, h => by cases h
  | .box _, _, _, _, h => by cases h
  | .ty _, _, _, _, h => by cases h
  | .obj _, _, _, _, h => by cases h
  | .fn _, _, _, _, h => by cases h
  | .cat _ _ _ _, _, _, _, h => by cases h
  | .exc _ _ _, _, _, _, h => by cases h
/-- the dict that the handle holds -/
def dOf (s : Sto) : PV → Option (Nat × List (Key × PV))
  | .box n => match s[n]? with
    | some (.d kvs) => some (n, kvs)
    | _ => none
  | _ => none
theorem dOf_ok {K : PySem.W.Frag} {H : Hp} {ρ : Rh} {sto : Sto} (S : RSt K H ρ sto) {x : PV} {v : V} {n : Nat} {kvs : List (Key × PV)} (r : RV K H ρ x v) (h : dOf sto x = some (n, kvs)) :
    ∃ a yvs, x = .box n ∧ v = .ref a ∧ ρ.bx[n]? = some a ∧ H a = some (.dK yvs) ∧ RKs K H ρ kvs yvs := by
  cases x with
  | box m =>
    obtain ⟨a, rfl, ha⟩ := r
    have h : (match sto[m]? with
      | some (.d kvs) => some (m, kvs)
      | _ => none) = some (n, kvs) := h
    split at h
    · rename_i kvs' e
      cases h
      obtain ⟨yvs, h1, h2, h3⟩ := S.at_ n a _ ha e
      exact ⟨a, yvs, rfl, rfl, ha, h1, h2, h3⟩
    · cases h
  | _ => cases h
/-- the handle goes on to hold the same -/
theorem bx_keep {ρ ρ1 : Rh} {H H1 : Hp} (x : ExtW ρ H ρ1 H1) {n : Nat} {a : Addr} (h : ρ.bx[n]? = some a) : ρ1.bx[n]? = some a := by
  obtain ⟨r, hr, _⟩ := x.pre
  rw [hr, List.getElem?_append_left (List.getElem?_eq_some_iff.mp h).1]
  exact h
def mDNew : M := fun _ s => .ok (.box s.length) (s ++ [.d []])
def gDGet : G2 := fun o i s => match dOf s o with
  | some (_, kvs) => match keyP i with
    | some k => match valP kvs k with
      | some v => .ok v s
      | none => .bad
    | none => .bad
  | none => .bad
/-- key first, then the dict -/
def gDIn (f : Bool → Bool) : G2 := fun i o s => match dOf s o with
  | some (_, kvs) => match keyP i with
    | some k => .ok (.bl (f (valP kvs k).isSome)) s
    | none => .bad
  | none => .bad
def sDPut (mo mi mv : M) : MS := fun env s => (mv env s).fl env fun v s1 => (mo env s1).fl env fun o s2 => (mi env s2).fl env fun i s3 => match dOf s3 o with
  | some (n, kvs) => match keyP i with
    | some k => bif Nat.blt kvs.length sizeLine then .nx env (s3.set n (.d (putP kvs k v))) else .bad
    | none => .bad
  | none => .bad
section
variable {K : PySem.W.Frag} {H : Hp} {ρ : Rh} {sto : Sto}
theorem RSt.putD' {n : Nat} {a : Addr} {kvs : List (Key × PV)} {yvs zvs : List (Key × V)} (S : RSt K H ρ sto) (ha : ρ.bx[n]? = some a) (h : H a = some (.dK zvs)) (r : RKs K H ρ kvs yvs) : Ext ρ H ρ (upd H a (.dK yvs)) ∧ RSt K (upd H a (.dK yvs)) ρ (sto.set n (.d kvs)) :=
  S.putB ha (S.lt ha) (fun u e => by rw [h] at e; cases e; exact ⟨yvs, rfl⟩) fun H1 x e => ⟨yvs, e, r.1, r.2.mono x⟩
end
section
variable {X : Cx} {W : WK} {o i value e f : Expr} {mo mi mv : M} {pos pos' p apos cpos : Pos}
theorem e_dnew : ME X W (.Dict [] [] pos) mDNew :=
  ⟨_, pe_dnewK, fun σ H ρ env sto Q hE hS hP p hp => by
    obtain ⟨x, S⟩ := hS.newBx (b := .d []) (o := .dK []) hp fun H1 _ e => ⟨[], e, rfl, rfl⟩
    exact hP _ _ x S _ ⟨p, rfl, by rw [← hS.len]; simp⟩⟩
theorem e_dget (hu : X.A.units + 1 < cLine) (ho : ME X W o mo) (hi : ME X W i mi) (hs : NoSl i := by exact fun _ _ => rfl) : ME X W (.Subscript o i pos) (mBin gDGet mo mi) := by
  obtain ⟨t, q, s⟩ := ho
  obtain ⟨u, r, z⟩ := hi
  refine ⟨_, pe_dget hu q r hs, fun σ H ρ env sto Q hE hS hP => ?_⟩
  refine s σ H ρ env sto _ hE hS ((hP.bind hS).imp fun ov s1 H1 ρ1 x1 S1 P1 x hx => ?_)
  refine z σ H1 ρ1 env s1 _ (hE.mono x1.toExtW) S1 ((P1.bind S1).imp fun iv s2 H2 ρ2 x2 S2 P2 y hy => ?_)
  unfold gDGet at P2
  split at P2
  · rename_i n kvs e1
    split at P2
    · rename_i k e2
      obtain ⟨a, yvs, _, rfl, _, h1, h2⟩ := dOf_ok S2 (hx.mono x2.toExtW) e1
      obtain rfl := keyP_ok hy e2
      have hv := h2.val k
      split at P2
      · rename_i v e3
        rw [e3] at hv
        obtain ⟨w, hw, rw'⟩ := hv
        exact ⟨a, w, rfl, hw ▸ DGet.k h1, now S2 P2 rw'⟩
      · exact P2.elim
    · exact P2.elim
  · exact P2.elim
theorem se_din (f : Bool → Bool) {tk td : TE} (s : SE X.K W tk mi) (z : SE X.K W td mo) : SE X.K W (fun σ H Q => tk σ H fun y H1 => td σ H1 fun x H2 => ∃ a o, x = .ref a ∧ DGet H2 a y o ∧ Q (.bl (f o.isSome)) H2) (mBin (gDIn f) mi mo) := by
  intro σ H ρ env sto Q hE hS hP
  refine s σ H ρ env sto _ hE hS ((hP.bind hS).imp fun iv s1 H1 ρ1 x1 S1 P1 y hy => ?_)
  refine z σ H1 ρ1 env s1 _ (hE.mono x1.toExtW) S1 ((P1.bind S1).imp fun ov s2 H2 ρ2 x2 S2 P2 x hx => ?_)
  unfold gDIn at P2
  split at P2
  · rename_i n kvs e1
    split at P2
    · rename_i k e2
      obtain ⟨a, yvs, _, rfl, _, h1, h2⟩ := dOf_ok S2 hx e1
      obtain rfl := keyP_ok (hy.mono x2.toExtW) e2
      refine ⟨a, valV yvs k, rfl, DGet.k h1, ?_⟩
      have hv := h2.val k
      cases e3 : valP kvs k with
      | some v =>
        rw [e3] at hv P2
        obtain ⟨w, hw, _⟩ := hv
        rw [hw]
        exact now S2 P2 rfl
      | none =>
        rw [e3] at hv P2
        have hv : valV yvs k = none := hv
        rw [hv]
        exact now S2 P2 rfl
    · exact P2.elim
  · exact P2.elim
theorem e_din (hu : X.A.units + 1 < cLine) (hi : ME X W i mi) (ho : ME X W o mo) (hm : behindInMarks CmpOp.In o = false := by rfl) : ME X W (.Compare i [.In] [o] pos) (mBin (gDIn id) mi mo) := by
  obtain ⟨t, q, s⟩ := hi
  obtain ⟨u, r, z⟩ := ho
  exact ⟨_, pe_cmp (pc_din hu q r) hm, se_din id s z⟩
theorem e_dnotin (hu : X.A.units + 1 < cLine) (hi : ME X W i mi) (ho : ME X W o mo) (hm : behindInMarks CmpOp.NotIn o = false := by rfl) : ME X W (.Compare i [.NotIn] [o] pos) (mBin (gDIn not) mi mo) := by
  obtain ⟨t, q, s⟩ := hi
  obtain ⟨u, r, z⟩ := ho
  exact ⟨_, pe_cmp (pc_dnotin hu q r) hm, se_din not s z⟩
theorem t_din (hu : X.A.units + 1 < cLine) (hi : ME X W i mi) (ho : ME X W o mo) (hm : behindInMarks CmpOp.In o = false := by rfl) : MTe X W (.Compare i [.In] [o] pos) (mT (mBin (gDIn id) mi mo)) := by
  obtain ⟨t, q, s⟩ := hi
  obtain ⟨u, r, z⟩ := ho
  exact ⟨_, pt_cmp (pc_din hu q r) hm, st_test (se_din id s z)⟩
theorem t_dnotin (hu : X.A.units + 1 < cLine) (hi : ME X W i mi) (ho : ME X W o mo) (hm : behindInMarks CmpOp.NotIn o = false := by rfl) : MTe X W (.Compare i [.NotIn] [o] pos) (mT (mBin (gDIn not) mi mo)) := by
  obtain ⟨t, q, s⟩ := hi
  obtain ⟨u, r, z⟩ := ho
  exact ⟨_, pt_cmp (pc_dnotin hu q r) hm, st_test (se_din not s z)⟩
/-- d[k] = v -/
theorem s_dput (hu : X.A.units + 1 < cLine) (ho : ME X W o mo) (hi : ME X W i mi) (hv : ME X W value mv) (hs : swapsWith value (some (.Subscript o i pos')) pos.line X.env = pure false := by rfl) : MSt X W (.Assign [.Subscript o i pos'] value pos) (sDPut mo mi mv) := by
  obtain ⟨t, q, s⟩ := ho
  obtain ⟨u, r, z⟩ := hi
  obtain ⟨tv, qv, sv⟩ := hv
  refine ⟨_, ps_dput hu q r qv hs, fun D σ H ρ env sto h1 h2 h3 => ?_⟩
  refine sv σ H ρ env sto _ h1 h2 ((FPost.bind h1 h2 h3).imp fun v s1 H1 ρ1 x1 S1 P1 y hy => ?_)
  have E1 := h1.mono x1.toExtW
  refine s σ H1 ρ1 env s1 _ E1 S1 ((FPost.bind E1 S1 P1).imp fun ov s2 H2 ρ2 x2 S2 P2 x hx => ?_)
  have E2 := E1.mono x2.toExtW
  refine z σ H2 ρ2 env s2 _ E2 S2 ((FPost.bind E2 S2 P2).imp fun iv s3 H3 ρ3 x3 S3 P3 w hw => ?_)
  have E3 := E2.mono x3.toExtW
  split at P3
  · rename_i n kvs e1
    split at P3
    · rename_i k e2
      obtain ⟨hz, P3⟩ := and_of (C := FPost X.K W D H3 ρ3) P3 (fun z => z)
      obtain ⟨a, yvs, _, rfl, ha, k1, k2⟩ := dOf_ok S3 (hx.mono x3.toExtW) e1
      obtain rfl := keyP_ok hw e2
      have hz : kvs.length < sizeLine := Nat.le_of_ble_eq_true hz
      obtain ⟨x4, S4⟩ := S3.putD' ha k1 (k2.put k ((hy.mono x2.toExtW).mono x3.toExtW))
      exact ⟨a, _, rfl, DPut.k k1 (by rw [← k2.length]; exact hz), P3 σ _ ρ3 x4 S4 (E3.mono x4.toExtW)⟩
    · exact P3.elim
  · exact P3.elim
/-- d.setdefault(k, x) -/
def mSetd (mo mi mv : M) : M := fun env s => (mo env s).bind fun o s1 => match dOf s1 o with
  | some _ => (mi env s1).bind fun i s2 => (mv env s2).bind fun v s3 => match dOf s3 o with
    | some (n, kvs) => match keyP i with
      | some k => match valP kvs k with
        | some w => bif Nat.blt kvs.length sizeLine then .ok w s3 else .bad
        | none => bif Nat.blt kvs.length sizeLine then .ok v (s3.set n (.d (putP kvs k v))) else .bad
      | none => .bad
    | none => .bad
  | none => .bad
theorem e_setd (ho : ME X W o mo) (hi : ME X W e mi) (hv : ME X W f mv) (m : M2 X o "setdefault" apos e f cpos := by exact ⟨rfl, rfl, rfl, rfl⟩) : ME X W (.Call (.Attribute o "setdefault" apos) [e, f] [] cpos) (mSetd mo mi mv) := by
  obtain ⟨t, q, s⟩ := ho
  obtain ⟨u, r, z⟩ := hi
  obtain ⟨tv, qv, sv⟩ := hv
  refine ⟨_, pe_dsetd q r qv m, fun σ H ρ env sto Q hE hS hP => ?_⟩
  refine s σ H ρ env sto _ hE hS ((hP.bind hS).imp fun ov s1 H1 ρ1 x1 S1 P1 x hx => ?_)
  have E1 := hE.mono x1.toExtW
  split at P1
  · rename_i pr e0
    obtain ⟨a, yvs0, hb, rfl, _, k10, _⟩ := dOf_ok S1 hx (n := pr.1) (kvs := pr.2) e0
    refine ⟨a, rfl, .inl ⟨_, .of k10⟩, z σ H1 ρ1 env s1 _ E1 S1 ((P1.bind S1).imp fun iv s2 H2 ρ2 x2 S2 P2 y hy => ?_)⟩
    have E2 := E1.mono x2.toExtW
    refine sv σ H2 ρ2 env s2 _ E2 S2 ((P2.bind S2).imp fun v s3 H3 ρ3 x3 S3 P3 w hw => ?_)
    split at P3
    · rename_i n kvs e1
      split at P3
      · rename_i k e2
        obtain ⟨a', yvs, _, ea, ha, k1, k2⟩ := dOf_ok S3 ((hx.mono x2.toExtW).mono x3.toExtW) e1
        cases ea
        obtain rfl := keyP_ok (hy.mono x3.toExtW) e2
        have hvk := k2.val k
        split at P3
        · rename_i w' e3
          obtain ⟨hz, P3⟩ := and_of (C := Post X.K (fun c d h => W c d σ h) H3 ρ3 (GV X.K Q)) P3 (fun z => z)
          have hz : kvs.length < sizeLine := Nat.le_of_ble_eq_true hz
          rw [e3] at hvk
          obtain ⟨u', hu', ru'⟩ := hvk
          exact ⟨yvs, k, k1, rfl, by rw [← k2.length]; exact hz, ⟨fun v' hv' => (by rw [hu'] at hv'; cases hv'; exact now S3 P3 ru'), fun hn => (by rw [hu'] at hn; cases hn)⟩⟩
        · rename_i e3
          obtain ⟨hz, P3⟩ := and_of (C := Post X.K (fun c d h => W c d σ h) H3 ρ3 (GV X.K Q)) P3 (fun z => z)
          have hz : kvs.length < sizeLine := Nat.le_of_ble_eq_true hz
          rw [e3] at hvk
          have hvk : valV yvs k = none := hvk
          obtain ⟨x4, S4⟩ := S3.putD' ha k1 (k2.put k hw)
          exact ⟨yvs, k, k1, rfl, by rw [← k2.length]; exact hz, ⟨fun v' hv' => (by rw [hvk] at hv'; cases hv'), fun _ => P3 _ ρ3 x4 S4 _ (hw.mono x4.toExtW)⟩⟩
      · exact P3.elim
    · exact P3.elim
  · exact P1.elim
end
end Mi

namespace G1
open PySem PySem.Spec PyProof.Rows L2 RZ
/-- of any two -/
def iZipQ (K : PySem.W.Frag) (ta : TA) : TI := fun σ H R => ta σ H fun vs H1 => ∃ a b xs ys, vs = [.ref a, .ref b] ∧
  ((SqL K H1 a xs ∧ SqL K H1 b ys ∧ R (Itz K a b) H1) ∨ (SqT K H1 a xs ∧ SqT K H1 b ys ∧ R (ItzT K a b) H1) ∨ ∃ t, (SqQ K (!t) H1 a xs ∧ SqQ K t H1 b ys) ∧ R (ItzQ K (!t) t a b) H1)
theorem pi_zipQ {X : Cx} {e e2 : Expr} {ta : TA} {p pos tpos : Pos} {elts : List Expr} {kk : Nat} (hg : Gl X "zip") (hm : X.mg "zip" = none) (ha : PA X [e, e2] ta)
    (hs : starEach [e, e2] X.env = (false, eval e X.env) :: starEach [e2] X.env := by rfl) (hpl : (backTo pos (starEach [e2] X.env)).any (·.1) = false := by rfl) :
    PI X (.Tuple elts kk tpos) (.Call (.Name "zip" p) [e, e2] [] pos) (iZipQ X.K ta) := by
  refine ⟨fun pins s σ H R I h => ?_⟩
  refine Call_ (ld_blt I hg hm PyProof.Rows.boot_zip ?_)
  refine PyProof.Rows.callWith_type1 (thn (ha.run pos pins s σ H _ I h) ?_) hs hpl
  intro us s1 hq
  obtain ⟨vs, H1, I1, r1, q1⟩ := hq
  obtain ⟨a, b, xs, ys, ex, q1⟩ := q1
  subst ex
  cases r1 with
  | cons ra rr =>
  cases rr with
  | cons rb rr =>
  cases rr
  cases ra
  cases rb
  have fr : ∀ n, n = s1.heap.objs.size → ∀ c, c ∈ [n + 4, n + 2, n + 3, n, n + 1] → FpOk X pins H1 c := fun n hn c hc => by
    have le : s1.heap.objs.size ≤ c := by rcases five hc with z | z | z | z | z <;> rw [z, hn] <;> first | exact Nat.le_refl _ | exact Nat.le_add_right _ _
    exact I1.fpOk le (I1.hok.fresh le)
  rcases q1 with ⟨hx, hy, q⟩ | ⟨hx, hy, q⟩ | ⟨t, ⟨hx, hy⟩, q⟩
  · obtain ⟨as, _, pa, _⟩ := I1.list hx
    obtain ⟨bs, _, pb, _⟩ := I1.list hy
    refine call_zip_2 pa.isList pb.isList fun g z0 z1 z2 z3 z4 _ hk => wpAny_pyIter_zip z0 ?_
    have J : Inv X pins σ H1 { s1 with heap := g } := I1.kept (t' := s1.toks) hk
    exact ⟨s1.heap.objs.size + 4, [s1.heap.objs.size + 4, s1.heap.objs.size + 2, s1.heap.objs.size + 3, s1.heap.objs.size, s1.heap.objs.size + 1], _, Itz X.K a b, H1, rfl, J, turn_zip (PySem.W.ktu_apart s1.heap.objs.size a b pa.lt pb.lt), ⟨z0, z1, ⟨_, _, z2⟩, z3, z4⟩, fr _ rfl, q⟩
  · obtain ⟨as, _, pa, la⟩ := inv_sq (t := true) I1 hx
    obtain ⟨bs, _, pb, lb⟩ := inv_sq (t := true) I1 hy
    refine call_zipT pa pb fun g z0 z1 z2 z3 z4 _ hk => wpAny_pyIter_zip z0 ?_
    have J : Inv X pins σ H1 { s1 with heap := g } := I1.kept (t' := s1.toks) hk
    exact ⟨s1.heap.objs.size + 4, [s1.heap.objs.size + 4, s1.heap.objs.size + 2, s1.heap.objs.size + 3, s1.heap.objs.size, s1.heap.objs.size + 1], _, ItzT X.K a b, H1, rfl, J, turn_zipT (PySem.W.ktu_apart s1.heap.objs.size a b la lb), ⟨z0, z1, ⟨_, _, z2⟩, z3, z4⟩, fr _ rfl, q⟩
  · obtain ⟨as, _, pa, la⟩ := inv_sq I1 hx
    obtain ⟨bs, _, pb, lb⟩ := inv_sq I1 hy
    refine callQ rfl pa pb fun g n hn z0 z1 z2 z3 z4 hk => wpAny_pyIter_zip z0 ?_
    have J : Inv X pins σ H1 { s1 with heap := g } := I1.kept (t' := s1.toks) hk
    have D : ZipApart (n + 4) (n + 2) (n + 3) n (n + 1) a b := hn ▸ PySem.W.ktu_apart s1.heap.objs.size a b la lb
    exact ⟨n + 4, [n + 4, n + 2, n + 3, n, n + 1], _, ItzQ X.K (!t) t a b, H1, rfl, J, turnQ D, ⟨⟨z0, z1, _, _, z2⟩, z3, z4⟩, fr n hn, q⟩
end G1

/-! t[::-1] of a tuple -/
namespace G3
open PySem PySem.Spec PyProof.Rows L2
theorem back_bounds (n : Nat) : Builtin.Slice.sliceAdjust none none (-1) (n : Int) = ((n : Int) - 1, -1) := by
  unfold Builtin.Slice.sliceAdjust
  rfl
theorem back_places (n : Nat) : Builtin.Slice.slicePlaces ((n : Int) - 1) (-1) (-1) = n := by
  unfold Builtin.Slice.slicePlaces
  have h1 : ¬ ((-1 : Int) > 0) := by omega
  simp only [h1, if_false, show (- -1 : Int) = 1 from rfl, Int.ediv_one]
  split <;> omega
theorem fm_same {α β : Type} {f g : α → Option β} : ∀ {l : List α}, (∀ x ∈ l, f x = g x) → l.filterMap f = l.filterMap g
  | [], _ => rfl
  | x :: l, h => by rw [List.filterMap_cons, List.filterMap_cons, h x List.mem_cons_self, fm_same fun y hy => h y (List.mem_cons_of_mem _ hy)]
theorem back_pick (xs : Array Value) : ((List.range xs.size).filterMap fun (k : Nat) => xs[((xs.size : Int) - 1 + (k : Int) * (-1)).toNat]?).toArray = xs.toList.reverse.toArray := by
  have q := pick_run xs.toList.reverse.toArray 0 xs.size
  rw [List.filterMap_map] at q
  have e : List.filterMap (fun (k : Nat) => xs[((xs.size : Int) - 1 + (k : Int) * (-1)).toNat]?) (List.range xs.size) = List.filterMap ((fun x => xs.toList.reverse.toArray[x]?) ∘ fun x => 0 + x) (List.range xs.size) := by
    refine fm_same fun k hk => ?_
    have hk : k < xs.size := List.mem_range.mp hk
    have e1 : ((xs.size : Int) - 1 + (k : Int) * (-1)).toNat = xs.size - 1 - k := by omega
    rw [e1]
    show xs[xs.size - 1 - k]? = xs.toList.reverse.toArray[0 + k]?
    have e2 : xs.toList.reverse.toArray[k]? = xs.toList.reverse[k]? := by simp
    rw [Nat.zero_add, e2, List.getElem?_reverse (by rw [Array.length_toList]; exact hk), Array.length_toList, Array.getElem?_toList]
  rw [e, q]
  congr 1
  rw [List.take_of_length_le (by simp)]
  rfl
section
variable {prog : Program} {w : World} {A : Around} {E : Value → Shared → Prop} {s : Shared}
theorem back_item {t sl : Addr} {items : Array Value} {u : Tok} {Q : Value → Shared → Prop} (ht : IsTup s.heap t items) (hs : s.heap.IsSliceOf sl .none .none (.int (-1) u)) (hz : items.size ≤ sizeLine)
    (q : Q (.ref s.heap.objs.size) { s with heap := s.heap.push { cls := .type "tuple", data := .seq items.toList.reverse.toArray } }) : wpAny (model prog w) A (getItem (.ref t) (.ref sl)) Q E s := by
  have fits : sizeOk (.seq items.toList.reverse.toArray) := show items.toList.reverse.toArray.size ≤ sizeLine by simpa using hz
  obtain ⟨os, f1, f2, f3⟩ := id hs
  have hTs : s.TypeIs (.ref sl) "slice" := ⟨os, f1, f2⟩
  unfold getItem
  try with_reducible refine wpAny_holding ?_
  first | refine wpAny_bind (wpAny_pure ?_) | skip
  refine wpAny_bind (wpAny_sequenceKey ht.typeIs (by decide) (wpAny_bind (wpAny_callSpecial?_slot (name := Str.ofString "__getitem__") ht.typeIs slot_tuple_getitem (wpAny_call_entry slot_tuple_getitem ht.typeIs entry_tuple_getitem ?_ (args_tuple_getitem _ _)))))
  show wpAny _ _ (Builtin.Tuple.tupleItemsOf (.ref t) >>= _) _ _ s
  refine wpAny_bind (tupleItemsOf_ ht (wpAny_bind (wpAny_typeOf hTs ?_)))
  rw [if_pos (by decide)]
  refine wpAny_bind (show wpAny (model prog w) _ (Builtin.Slice.sliceApplied (.ref sl) (pure (items.size : Int))) _ E s from ?_)
  unfold Builtin.Slice.sliceApplied Builtin.Slice.sliceFields
  refine wpAny_bind (wpAny_bind (wpAny_field f1 f3 (x := .none) rfl (wpAny_bind (wpAny_field f1 f3 (x := .none) rfl (wpAny_bind (wpAny_field f1 f3 (x := .int (-1) u) rfl (wpAny_pure (wpAny_bind (slicePart_int ?_)))))))))
  show wpAny _ _ (if ((-1 : Int) == 0) = true then _ else _) _ _ s
  rw [if_neg (by decide)]
  refine wpAny_bind (slicePart_none (wpAny_bind (slicePart_none (wpAny_bind (wpAny_pure ?_)))))
  show wpAny _ _ (match Builtin.Slice.sliceAdjust none none (-1) (items.size : Int) with | (lo, hi) => pure (lo, (-1 : Int), Builtin.Slice.slicePlaces lo hi (-1))) _ _ s
  rw [back_bounds]
  show wpAny _ _ (pure ((items.size : Int) - 1, (-1 : Int), Builtin.Slice.slicePlaces ((items.size : Int) - 1) (-1) (-1))) _ _ s
  rw [back_places]
  refine wpAny_pure ?_
  show wpAny _ _ (if ((items.size : Int) - 1 == 0 && (-1 : Int) == 1 && items.size == items.size) = true then _ else _) _ _ s
  rw [if_neg (show ¬ ((items.size : Int) - 1 == 0 && (-1 : Int) == 1 && items.size == items.size) = true by simp), back_pick]
  first
    | exact wpAny_bind (m := Builtin.Tuple.tupleExact _) (wpAny_newObj_type (wpAny_pure ⟨_, rfl, wpAny_pure q⟩) fits)
    | exact wpAny_bind (wpAny_bind (m := Builtin.Tuple.tupleExact _) (wpAny_newObj_type (wpAny_pure ⟨_, rfl, wpAny_pure q⟩) fits))
end
section
variable {X : Cx}
def tBackT (K : PySem.W.Frag) (te : TE) : TE := fun σ H Q => te σ H fun x H1 => ∃ a xs, x = .ref a ∧ SqT K H1 a xs ∧ ∀ p, H1 p = none → Q (.ref p) (upd H1 p (.tup xs.reverse))
theorem pe_backT {e : Expr} {te : TE} {k : Nat} {p1 p2 p3 pos : Pos} (he : PE X e te) : PE X (.Subscript e (.Slice none none (some (.UnaryOp .USub (.Constant (.int 1) k p1) p2)) p3) pos) (tBackT X.K te) := by
  refine ⟨fun pins s σ H Q I h => Subscript_ (thn (he.run pins s σ H _ I h) ?_)⟩
  intro v s1 hq
  obtain ⟨x, H1, I1, r1, a, xs, ex, hx, q⟩ := hq
  subst ex
  cases r1
  have st : PO X (some (.UnaryOp .USub (.Constant (.int 1) k p1) p2)) (tPart (tUn (rU fun i => .int (-i)) (tC (.int 1)))) := po_some (pe_un un_neg pe_int)
  refine wpAny_Slice (thn (po_none.run pins s1 σ H1 (fun o H2 => o = none ∧ H2 = H1) I1 ⟨rfl, rfl⟩) ?_)
  intro vl s2 hq
  obtain ⟨l, H2, I2, pl, el, e2⟩ := hq
  subst el e2
  refine thn (po_none.run pins s2 σ H2 (fun o H3 => o = none ∧ H3 = H2) I2 ⟨rfl, rfl⟩) ?_
  intro vu s3 hq
  obtain ⟨l, H3, I3, pu, el, e3⟩ := hq
  subst el e3
  refine thn (st.run pins s3 σ H3 (fun o H4 => o = some (-1) ∧ H4 = H3) I3 ⟨1, rfl, -1, rfl, rfl, rfl⟩) ?_
  intro vs s4 hq
  obtain ⟨o, H4, I4, ps, eo, e4⟩ := hq
  subst eo e4
  cases pl
  cases pu
  obtain ⟨u, rfl⟩ : ∃ u, vs = .int (-1) u := match ps with | .int _ u => ⟨u, rfl⟩
  have I5 : Inv X pins σ H4 { s4 with heap := s4.heap.push { cls := .type "slice", data := .fields #[.none, .none, .int (-1) u] } } := I4.kept (t' := s4.toks) fun b ob q => Heap.get?_push_of_some _ q
  obtain ⟨its, r, ht, hz⟩ := I5.tuple hx
  have hlen := r.length
  show wpAny (model X.prog X.w) X.A (subscriptTail e (.Slice none none (some (.UnaryOp .USub (.Constant (.int 1) k p1) p2)) p3) (.ref a) (.ref s4.heap.objs.size)) (EP X pins σ Q) X.xe { s4 with heap := s4.heap.push { cls := .type "slice", data := .fields #[.none, .none, .int (-1) u] } }
  refine tail_any (ops := [.ref a, .ref s4.heap.objs.size]) ht.typeIs (PyProof.Rows.slot_tuple_getitem.lookup) (back_item ht (Heap.IsSliceOf.new _ .none .none (.int (-1) u)) (by rw [List.size_toArray]; omega) ?_) (by with_unfolding_all rfl)
  refine ⟨.ref _, _, I5.laid (t' := s4.toks) (o := .tup xs.reverse) (fun b ob q => Heap.get?_push_of_some _ q) (Nat.le_refl _) ?_, rfl, q _ (I5.hok.fresh (Nat.le_refl _))⟩
  exact ⟨by rw [List.length_reverse]; exact hz, _, r.reverse, ⟨_, Heap.get?_push_size _ rfl, rfl, _, rfl⟩⟩
end
end G3

noncomputable section
namespace Mi
open PySem PySem.Spec PyProof.Rows L2

/-! ### x += e of ints -/
def sAug (i : Nat) (f : Int → Int → Int) (m : M) : MS := fun env s => match env[i]? with
  | some (some (.int a)) => (m env s).fl env fun v s1 => match v with
    | .int b => .nx (env.set i (some (.int (f a b)))) s1
    | _ => .bad
  | _ => .bad
section
variable {X : Cx} {W : WK} {e : Expr} {m : M} {pos pos' : Pos}
theorem s_augI {i : Nat} {x : Str} {op : Operator} {f : Int → Int → Int} (ho : PIp X op (ipI f)) (hN : X.N.Nodup) (hi : X.N[i]? = some x) (hx : Loc X.env.scope x) (hf : X.fn x = true ∨ X.env.scope.names.lookup x = some .local) (he : ME X W e m) : MSt X W (.AugAssign (.Name x pos') op e pos) (sAug i f m) := by
  obtain ⟨t, q, s⟩ := he
  refine ⟨_, ps_aug hN hi hx q ho hf, fun D σ H ρ env sto h1 h2 h3 => ?_⟩
  unfold sAug at h3
  split at h3
  · rename_i a ea
    obtain ⟨v, ev, rv⟩ := h1.2 i _ ea
    cases rv
    refine ⟨_, ev, s σ H ρ env sto _ h1 h2 ((FPost.bind h1 h2 h3).imp fun v s1 H1 ρ1 x1 S1 P1 y hy => ?_)⟩
    split at P1
    · cases hy
      exact ⟨_, _, rfl, rfl, P1 _ H1 ρ1 .refl S1 ((h1.mono x1.toExtW).set i rfl)⟩
    · exact P1.elim
  · exact h3.elim
end

/-! ### sorted, of ints -/
def insI (a : Int) : List Int → List Int
  | [] => [a]
  | b :: r => bif decide (a ≤ b) then a :: b :: r else b :: insI a r
def srtI : List Int → List Int
  | [] => []
  | a :: r => insI a (srtI r)
theorem insI_perm (a : Int) : ∀ l : List Int, (insI a l).Perm (a :: l)
  | [] => .refl _
  | b :: r => by
    unfold insI
    cases decide (a ≤ b) with
    | true => exact .refl _
    | false => exact ((insI_perm a r).cons b).trans (.swap a b r)
theorem srtI_perm : ∀ l : List Int, (srtI l).Perm l
  | [] => .refl _
  | a :: r => (insI_perm a (srtI r)).trans ((srtI_perm r).cons a)
theorem insI_up (a : Int) : ∀ l : List Int, l.Pairwise (· ≤ ·) → (insI a l).Pairwise (· ≤ ·)
  | [], _ => List.pairwise_singleton _ _
  | b :: r, h => by
    unfold insI
    obtain ⟨h1, h2⟩ := List.pairwise_cons.mp h
    by_cases e : a ≤ b
    · rw [decide_eq_true e]
      refine List.pairwise_cons.mpr ⟨fun z hz => ?_, h⟩
      rcases List.mem_cons.mp hz with rfl | hz
      · exact e
      · have := h1 z hz; omega
    · rw [decide_eq_false e]
      refine List.pairwise_cons.mpr ⟨fun z hz => ?_, insI_up a r h2⟩
      rcases List.mem_cons.mp ((insI_perm a r).mem_iff.mp hz) with rfl | hz
      · omega
      · exact h1 z hz
theorem srtI_up : ∀ l : List Int, (srtI l).Pairwise (· ≤ ·)
  | [] => .nil
  | a :: r => insI_up a _ (srtI_up r)
theorem srtI_only {l ys : List Int} (p : ys.Perm l) (u : ys.Pairwise (· ≤ ·)) : ys = srtI l := PySem.W.ksm_same (p.trans (srtI_perm l).symm) u (srtI_up l)
def inlsOf : List (Key × PV) → Option (List Int)
  | [] => some []
  | (.inl i, _) :: r => match inlsOf r with
    | some is => some (i :: is)
    | none => none
  | _ :: _ => none
theorem inlsOf_ok : ∀ {kvs : List (Key × PV)} {is : List Int}, inlsOf kvs = some is → kvs.map (·.1) = is.map Sum.inl
  | [], _, h => by cases h; rfl
  | (.inl i, v) :: r, is, h => by
    unfold inlsOf at h
    split at h
    · rename_i js e
      cases h
      rw [List.map_cons, List.map_cons, inlsOf_ok e]
    · cases h
  | (.inr x, v) :: r, is, h => by cases h
def gSorted (fr : Bool) : GC := fun xs s => match xs with
  | [x] => match dOf s x with
    | some (_, kvs) => match inlsOf kvs with
      | some is => bif Nat.blt is.length 64 then fresh fr ((srtI is).map .int) s else .bad
      | none => .bad
    | none => match getF s x with
      | some ys => match intsOf ys with
        | some is => fresh fr ((srtI is).map .int) s
        | none => .bad
      | none => .bad
  | _ => .bad
section
variable {K : PySem.W.Frag} {H : Hp} {ρ : Rh}
theorem rvs_ints : ∀ is : List Int, RVs K H ρ (is.map PV.int) (is.map V.int)
  | [] => rfl
  | _ :: is => .cons rfl (rvs_ints is)
end
theorem g_sorted {K : PySem.W.Frag} {fr : Bool} : SRc K (fun xs H Q => (∃ (a : Addr) (kvs : List (Key × V)) (ks : List Int), xs = [.ref a] ∧ Rd H a (.dK kvs) ∧ kvs.map (·.1) = ks.map Sum.inl ∧ ks.length < 64 ∧
    ∀ (ys : List Int) (p : Addr), ys.Perm ks → ys.Pairwise (· ≤ ·) → H p = none → Q (.ref p) (upd H p (.lst (ys.map V.int)))) ∨ rSortedI K xs H Q) (gSorted fr) := by
  intro WP H ρ sto xs vs Q S r P
  unfold gSorted at P
  split at P
  · obtain ⟨v, rfl, rv⟩ := r.one
    split at P
    · rename_i n kvs e
      split at P
      · rename_i is e2
        obtain ⟨hz, P⟩ := and_of (C := Post K WP H ρ (GV K Q)) P (fun z => z)
        have hz : is.length < 64 := Nat.le_of_ble_eq_true hz
        obtain ⟨a, yvs, _, rfl, _, h1, h2⟩ := dOf_ok S rv e
        refine .inl ⟨a, yvs, is, rfl, .inl h1, h2.1.symm.trans (inlsOf_ok e2), hz, fun ys p hp hu hn => ?_⟩
        rw [srtI_only hp hu]
        exact fresh_ok S (rvs_ints _) P hn
      · exact P.elim
    · split at P
      · rename_i ys e
        obtain ⟨a, zs, rfl, h1, h2⟩ := getF_ok S rv e
        split at P
        · rename_i is e2
          refine .inr ⟨a, is, rfl, by rw [← intsOf_ok _ h2 e2]; exact h1, fun ys p hp hu hn => ?_⟩
          rw [srtI_only hp hu]
          exact fresh_ok S (rvs_ints _) P hn
        · exact P.elim
      · exact P.elim
  · exact P.elim
/-- len, of dicts too -/
def gLenD : GC := fun xs s => match xs with
  | [x] => match dOf s x with
    | some (_, kvs) => .ok (.int kvs.length) s
    | none => gLen [x] s
  | _ => .bad
section
variable {X : Cx} {W : WK} {e e2 : Expr} {p pos tpos : Pos} {es elts : List Expr} {ms : MA} {kk : Nat} {m : M}
theorem e_sorted {fr : Bool} (hc : X.calm = true) (gl : Gl X "sorted") (hm : X.mg "sorted" = none) (ha : MEs X W (e :: es) ms) (he : starEach (e :: es) X.env = (false, eval e X.env) :: starEach es X.env := by rfl) (hpl : (backTo pos (starEach es X.env)).any (·.1) = false := by rfl) :
    ME X W (.Call (.Name "sorted" p) (e :: es) [] pos) (mCall (gSorted fr) ms) := e_callB (.or (call_sortedDI hc) cr_sortedI) g_sorted gl hm (by decide +kernel) ha (by decide) (by decide) he hpl

/-! ### zip of any two -/
def seqOf (s : Sto) (x : PV) : Option (Bool × MIt) := match x with
  | .tup xs => some (true, fun i _ => nthC xs i)
  | x => match itOf s x with
    | some J => some (false, J)
    | none => none
def iZq (ms : MA) : MI := fun env s => (ms env s).bind fun vs s1 => match vs with
  | [v, w] => match seqOf s1 v, seqOf s1 w with
    | some (_, J), some (_, L) => .ok (zipI J L) s1
    | _, _ => .bad
  | _ => .bad
section
variable {K : PySem.W.Frag} {H0 : Hp} {ρ0 : Rh} {s0 : Sto}
def SeqIt (K : PySem.W.Frag) (H0 : Hp) (ρ0 : Rh) (t : Bool) (a : Addr) (J : MIt) : Prop := ∀ (i : Nat) (H : Hp) (ρ : Rh) (sto : Sto), ExtW ρ0 H0 ρ H → RSt K H ρ sto → ∃ ys : List V, G1.SqQ K t H a ys ∧ match J i sto with
  | some v => ∃ y, ys[i]? = some y ∧ RV K H ρ v y
  | none => ys.length ≤ i
theorem seqOf_ok (S0 : RSt K H0 ρ0 s0) {v : PV} {x : V} {t : Bool} {J : MIt} (r : RV K H0 ρ0 v x) (h : seqOf s0 v = some (t, J)) : ∃ a ys, x = .ref a ∧ G1.SqQ K t H0 a ys ∧ SeqIt K H0 ρ0 t a J := by
  unfold seqOf at h
  split at h
  · cases h
    obtain ⟨a, ys, rfl, h1, h2⟩ := r
    exact ⟨a, ys, rfl, h1.sq, fun i H ρ sto x S => ⟨ys, (h1.mono x).sq, by dsimp only; rw [nthC_eq]; exact get_none (h2.mono x) i⟩⟩
  · split at h
    · rename_i J' e
      cases h
      obtain ⟨a, ys, rfl, h1, h2⟩ := itOf_ok S0 r e
      exact ⟨a, ys, rfl, h1, h2⟩
    · cases h
theorem itzq_ok {a b : Addr} {t1 t2 : Bool} {J L : MIt} (h : SeqIt K H0 ρ0 t1 a J) (h' : SeqIt K H0 ρ0 t2 b L) : ItOk K H0 ρ0 (G1.ItzQ K t1 t2 a b) (zipI J L) := by
  intro i H ρ sto x S
  obtain ⟨ys, h1, h2⟩ := h i H ρ sto x S
  obtain ⟨zs, h3, h4⟩ := h' i H ρ sto x S
  unfold zipI
  cases e : J i sto with
  | none =>
    rw [e] at h2
    exact ⟨ys, zs, ⟨h1, h3⟩, .inl h2⟩
  | some v =>
    rw [e] at h2
    obtain ⟨y, k1, k2⟩ := h2
    cases e' : L i sto with
    | none =>
      rw [e'] at h4
      exact ⟨ys, zs, ⟨h1, h3⟩, .inr h4⟩
    | some w =>
      rw [e'] at h4
      obtain ⟨u, k3, k4⟩ := h4
      refine ⟨⟨ys, zs, y, u, ⟨h1, k1⟩, h3, k3⟩, fun z H' hz => ?_⟩
      obtain ⟨T, p, q, ⟨rfl, hT, rfl⟩, hp, hq⟩ := hz
      have : some p = some y := (hp ys h1).symm.trans k1
      cases this
      have : some q = some u := (hq zs h3).symm.trans k3
      cases this
      exact newPair S hT k2 k4
theorem itz_same {a b : Addr} {J L : MIt} (h : ItOk K H0 ρ0 (G1.ItzQ K false false a b) (zipI J L)) : ItOk K H0 ρ0 (Itz K a b) (zipI J L) := by
  intro i H ρ sto x S
  have q := h i H ρ sto x S
  split at q
  · obtain ⟨⟨xs, ys, u, v, ⟨h1, h2⟩, h3, h4⟩, k⟩ := q
    exact ⟨⟨xs, ys, u, v, h1, h3, h2, h4⟩, fun z H' ⟨T, p, r, e1, e2, e3, f1, f2⟩ => k z H' ⟨T, p, r, ⟨e1, e2, e3⟩, f1, f2⟩⟩
  · obtain ⟨xs, ys, ⟨h1, h2⟩, h3⟩ := q
    exact ⟨xs, ys, h1, h2, h3⟩
theorem itzT_same {a b : Addr} {J L : MIt} (h : ItOk K H0 ρ0 (G1.ItzQ K true true a b) (zipI J L)) : ItOk K H0 ρ0 (RZ.ItzT K a b) (zipI J L) := by
  intro i H ρ sto x S
  have q := h i H ρ sto x S
  split at q
  · obtain ⟨⟨xs, ys, u, v, ⟨h1, h2⟩, h3, h4⟩, k⟩ := q
    exact ⟨⟨xs, ys, u, v, h1, h3, h2, h4⟩, fun z H' ⟨T, p, r, e1, e2, e3, f1, f2⟩ => k z H' ⟨T, p, r, ⟨e1, e2, e3⟩, f1, f2⟩⟩
  · obtain ⟨xs, ys, ⟨h1, h2⟩, h3⟩ := q
    exact ⟨xs, ys, h1, h2, h3⟩
end
theorem i_zq (hg : Gl X "zip") (hm : X.mg "zip" = none) (ha : MEs X W [e, e2] ms) (hs : starEach [e, e2] X.env = (false, eval e X.env) :: starEach [e2] X.env := by rfl) (hpl : (backTo pos (starEach [e2] X.env)).any (·.1) = false := by rfl) :
    MIr X W (.Tuple elts kk tpos) (.Call (.Name "zip" p) [e, e2] [] pos) (iZq ms) := by
  obtain ⟨t, q, s⟩ := ha
  refine ⟨_, G1.pi_zipQ hg hm q hs hpl, fun σ H ρ env sto Rk hE hS hP => ?_⟩
  refine s σ H ρ env sto _ hE hS ((hP.bind hS).imp fun vs s1 H1 ρ1 x1 S1 P1 ys hys => ?_)
  split at P1
  · obtain ⟨v, u, rfl, hv, hu⟩ := hys.two
    split at P1
    · rename_i t1 J t2 L k1 k2
      obtain ⟨a, as, rfl, h1, h2⟩ := seqOf_ok S1 hv k1
      obtain ⟨b, bs, rfl, h3, h4⟩ := seqOf_ok S1 hu k2
      have it := itzq_ok h2 h4
      refine ⟨a, b, as, bs, rfl, ?_⟩
      match t1, t2, h1, h3, it with
      | false, false, h1, h3, it => exact .inl ⟨h1, h3, P1 H1 ρ1 .refl S1 _ (itz_same it)⟩
      | true, true, h1, h3, it => exact .inr (.inl ⟨h1, h3, P1 H1 ρ1 .refl S1 _ (itzT_same it)⟩)
      | true, false, h1, h3, it => exact .inr (.inr ⟨false, ⟨h1, h3⟩, P1 H1 ρ1 .refl S1 _ it⟩)
      | false, true, h1, h3, it => exact .inr (.inr ⟨true, ⟨h1, h3⟩, P1 H1 ρ1 .refl S1 _ it⟩)
    · exact P1.elim
  · exact P1.elim

/-! ### t[::-1] -/
theorem RVs.reverse {K : PySem.W.Frag} {H : Hp} {ρ : Rh} : ∀ {p : List PV} {v : List V}, RVs K H ρ p v → RVs K H ρ p.reverse v.reverse
  | [], _, r => by cases r; exact .nil
  | a :: p, _, r => by
    obtain ⟨y, ys, rfl, h, t⟩ := r
    rw [List.reverse_cons, List.reverse_cons]
    exact (RVs.reverse t).append (.cons h .nil)
def mBackT (m : M) : M := fun env s => (m env s).bind fun x s1 => match x with
  | .tup xs => .ok (.tup xs.reverse) s1
  | _ => .bad
def mBackL (fr : Bool) (m : M) : M := fun env s => (m env s).bind fun x s1 => match getF s1 x with
  | some xs => fresh fr xs.reverse s1
  | none => .bad
theorem e_backT {k : Nat} {p1 p2 p3 : Pos} (he : ME X W e m) : ME X W (.Subscript e (.Slice none none (some (.UnaryOp .USub (.Constant (.int 1) k p1) p2)) p3) pos) (mBackT m) := by
  obtain ⟨t, q, s⟩ := he
  refine ⟨_, G3.pe_backT q, fun σ H ρ env sto Q hE hS hP => ?_⟩
  refine s σ H ρ env sto _ hE hS ((hP.bind hS).imp fun v s1 H1 ρ1 x1 S1 P1 y hy => ?_)
  split at P1
  · obtain ⟨a, ys, rfl, h1, h2⟩ := hy
    exact ⟨a, ys, rfl, h1.sq, fun p hp => tup_ok S1 (RVs.reverse h2) P1 hp⟩
  · exact P1.elim
end
end Mi
namespace Mi
open PySem PySem.Spec PyProof.Rows L2
theorem tabIn_mk {K : PySem.W.Frag} {x : Str} {f c P : Addr} {oc o1 : Value} {od d1 : Option Addr} {fd : FuncData} {osl s1 : Array (Option Value)} {vs : Array Value} (n : PySem.W.nsIn K mainGlobals x = some (some (.ref f))) (l : K.lookup f = some ⟨oc, od, .func fd, osl⟩)
    (hc : fd.code = .ref c) (lc : K.lookup c = some ⟨o1, d1, .fields vs, s1⟩) (hv : vs[11]? = some (.ref P)) : PySem.W.tabIn K x = some (c, P) := by
  unfold PySem.W.tabIn
  rw [n]
  simp only [l, hc, lc, hv]
theorem tabIn_no {K : PySem.W.Frag} {x : Str} (n : PySem.W.nsIn K mainGlobals x = some none) : PySem.W.tabIn K x = none := by
  unfold PySem.W.tabIn
  rw [n]
end Mi

/-! try: body, several except clauses, each with a name or without -/
namespace G4
open PySem PySem.Spec PyProof.Rows L2
/-- a clause: its class, the slot of its name, what its suite does -/
structure Cl where
  c : Value
  slot : Option Nat
  ts : Addr → Value → Option Addr → TS
def offS (i : Nat) (D : Ends) : Ends := { nx := fun σ H => D.nx (σ.set i none) H, rt := D.rt, bk := fun σ H => D.bk (σ.set i none) H, ct := fun σ H => D.ct (σ.set i none) H }
def Cl.does (k : Cl) (a : Addr) (cls : Value) (d : Option Addr) (D : Ends) (σ : L2.St) (H : Hp) : Prop := match k.slot with
  | none => k.ts a cls d D σ H
  | some i => k.ts a cls d (offS i D) (σ.set i (some (.ref a))) H
def wEach (K : PySem.W.Frag) (Wout : WX) (D : Ends) : List Cl → WX
  | [] => Wout
  | k :: r => fun cls d σ H => ∃ b, PySem.W.exmOne K cls k.c = some b ∧ (b = true → ∀ a, H a = none → k.does a cls d D σ H) ∧ (b = false → wEach K Wout D r cls d σ H)
inductive Each (X : Cx) : List ExceptHandler → List Cl → Prop
  | nil : Each X [] []
  | cons {x : Str} {nm : Option Str} {c : Value} {slot : Option Nat} {ts : Addr → Value → Option Addr → TS} {b₀ : Stmt} {suite : List Stmt} {np pos' : Pos} {hds : List ExceptHandler} {l : List Cl} (hc : Names X x c)
      (hn : (nm = none ∧ slot = none) ∨ ∃ n i, nm = some n ∧ slot = some i ∧ X.N.Nodup ∧ X.N[i]? = some n ∧ X.env.kindOf n = some .local)
      (hsu : ∀ (a : Addr) (oe : Obj) (cls : Value) (d : Option Addr) (pn : List (Addr × Obj)), Zc cls d oe → (∃ vs, oe.data = .fields vs) → PSs (X.suite a ((a, oe) :: pn)) (b₀ :: suite) (ts a cls d)) (r : Each X hds l) :
      Each X (.ExceptHandler (some (.Name x np)) nm (b₀ :: suite) pos' :: hds) (⟨c, slot, ts⟩ :: l)
section
variable {X : Cx} {body : List Stmt} {h₀ : ExceptHandler} {hds : List ExceptHandler} {l : List Cl} {pos : Pos} {tb : WX → TS} {Wout : WX}
theorem ps_try_each (hs : X.stack = X.env :: X.outer) (hf : X.env.frame = some X.env.locals) (tk : Takes X Wout)
    (hb : ∀ (W : WX) (pn : List (Addr × Obj)) (xe : Value → Shared → Prop), Takes (X.tr pn xe) W → PassesOwn (model X.prog X.w) X.A X.env xe → PSs (X.tr pn xe) body (tb W)) (hh : Each X (h₀ :: hds) l) : PS X (.Try body (h₀ :: hds) [] [] pos) (fun D σ H => tb (wEach X.K Wout D l) D σ H) := by
  refine ⟨fun pins s σ H D I h => wpAny_Try_except ?_⟩
  have ok := I.ok
  have fr : X.A.frames = some (X.env :: X.outer) := ok.frames.trans (by rw [hs])
  let cat : Value → Shared → Prop := fun e s₁ => wpAny (model X.prog X.w) X.A (noteFrame e X.env) (fun _ s₂ => wpAny (model X.prog X.w) X.A (setFlight e none) (fun _ s₃ => wpAny (model X.prog X.w) X.A (handleBy e X.env (h₀ :: hds)) (SP X pins D) X.xe s₃) X.xe s₂) X.xe s₁
  have takes : Takes (X.tr (X.pn ++ pins) cat) (wEach X.K Wout D l) := by
    intro u s' xx
    obtain ⟨a, B, sI, pins', σ', H', cls, d, rfl, J0, nb, up, sky, na, os, ag, w⟩ := xx
    have J : Inv X pins σ' H' sI := J0.ofTry ok
    have sk : Sky B (X.env :: X.outer) a (Zc cls d) X.env.locals s'.heap := hs ▸ sky
    show wpAny (model X.prog X.w) X.A (noteFrame (.ref a) X.env) _ _ _
    refine Sky.land Zc.steady fr hf sk fun g fl up1 => ?_
    have J1 : Inv X pins σ' H' { s' with heap := g } := J.landed nb fl.1 (up.trans up1) os ag
    obtain ⟨oe, us, ge, gz, gd⟩ := fl.there
    have out : a ∉ frs (X.env :: X.outer) := fun hm => by
      obtain ⟨_, o', e', hnf⟩ := fl.2.2.1.mem hm
      rw [ge] at e'; cases e'
      exact hnf _ gd
    have nL : a ≠ X.env.locals := fun z => out (List.mem_filterMap.mpr ⟨X.env, List.mem_cons_self, hf.trans (by rw [z])⟩)
    have nF : a ∉ X.fs := fun hm => let ⟨e, he, q⟩ := List.mem_filterMap.mp hm; out (List.mem_filterMap.mpr ⟨e, List.mem_cons_of_mem _ he, q⟩)
    have S1 := J1.suite ge gd na nL nF
    have LT : PySem.W.Looks (model X.prog X.w) g (typeOf (.ref a)) cls := fun A Q E s k q => wpAny_typeOf_ref (k _ _ ge) (by rw [gz.1]; exact q)
    have pass : Wout cls d σ' H' → wpAny (model X.prog X.w) X.A (handleBy (.ref a) X.env []) (SP X pins D) X.xe { s' with heap := g } := fun w0 => by
      refine wpAny_handleBy_nil ?_
      obtain ⟨k1, k2, k3, o1, v1, T, oT, ts', he, hz, hd, h1, hr⟩ := id fl
      have fin : wpAny (model X.prog X.w) X.A (setFlight (.ref a) X.env.frame) (fun _ s4 => wpAny (model X.prog X.w) X.A (throw (.ref a) : Sem Flow) (SP X pins D) X.xe s4) X.xe { s' with heap := g } := by
        rw [hf]
        exact HandSPX.setFlight_upZ fl fun g4 hh4 up4 => wpAny_throw (tk _ _ ⟨a, B, sI, pins, σ', H', cls, d, rfl, J, nb, (up.trans up1).trans up4, .inr (.inr (by rw [hs]; exact hh4)), na, os, ag, w0⟩)
      unfold PySem.passOn
      refine wpAny_bind (wpAny_field he hd h1 ?_)
      rw [if_neg (show ¬ (Value.ref T == Value.none) = true by simp)]
      first
        | exact wpAny_bind fin
        | exact wpAny_bind (wpAny_pure (wpAny_bind fin))
    have each : ∀ {hs' : List ExceptHandler} {ls : List Cl}, Each X hs' ls → wEach X.K Wout D ls cls d σ' H' → wpAny (model X.prog X.w) X.A (handleBy (.ref a) X.env hs') (SP X pins D) X.xe { s' with heap := g } := by
      intro hs' ls k
      induction k with
      | nil => exact pass
      | @cons x nm c slot ts b₀ suite np pos' hs2 l2 hc hn hsu r ih =>
        rintro ⟨b, hb1, hyes, hno⟩
        have test : ∀ {Q E : Value → Shared → Prop}, Q c { s' with heap := g } → wpAny (model X.prog X.w) (X.A.mark (some (.ref a))) (eval (.Name x np) X.env) Q E { s' with heap := g } := fun {Q E} q => by
          obtain ⟨c1, c2, c3⟩ := hc
          rcases c3 with c3 | ⟨c3, c4, c5⟩
          · exact ld_glob (X := X.suite a ((a, oe) :: (X.pn ++ pins))) S1 c1 c3 q c2
          · exact ld_blt (X := X.suite a ((a, oe) :: (X.pn ++ pins))) S1 c1 c3 c4 q c5 c2
        refine wpAny_handleBy_cons (codeAny_handlers_test (test ((PySem.W.exm_one (M := model X.prog X.w) J1.kIn LT hb1).here ?_))) (by intro q; cases q)
        cases b with
        | false => exact ih (hno rfl)
        | true =>
          have act := hyes rfl a na
          rcases hn with ⟨rfl, rfl⟩ | ⟨n, i, rfl, rfl, hN, hi, hl⟩
          · refine codeAny_handlers_suite (HandSPX.lands_againZ fl fun g4 fl4 up4 => ?_)
            have J4 : Inv X pins σ' H' { s' with heap := g4 } := J.landed nb fl4.1 ((up.trans up1).trans up4) os ag
            obtain ⟨o4, v4, he4, hz4, hd4⟩ := fl4.there
            refine wpAny_mono ((hsu a o4 cls d (X.pn ++ pins) hz4 ⟨_, hd4⟩).run [] _ _ H' _ (J4.suite he4 hd4 na nL nF) act) (fun f s6 z => ?_) fun _ _ z => z.elim
            match f, z with
            | .next, ⟨σ6, H6, S6, q⟩ => exact ⟨σ6, H6, S6.unsuite ok, q⟩
            | .brk, ⟨σ6, H6, S6, q⟩ => exact ⟨σ6, H6, S6.unsuite ok, q⟩
            | .cont, ⟨σ6, H6, S6, q⟩ => exact ⟨σ6, H6, S6.unsuite ok, q⟩
            | .ret u, ⟨v6, σ6, H6, S6, r6, q⟩ => exact ⟨v6, σ6, H6, S6.unsuite ok, r6, q⟩
          · refine codeAny_handlers_suite_as (HandSPX.lands_againZ fl fun g4 fl4 up4 => ?_)
            have J4 : Inv X pins σ' H' { s' with heap := g4 } := J.landed nb fl4.1 ((up.trans up1).trans up4) os ag
            obtain ⟨o4, v4, he4, hz4, hd4⟩ := fl4.there
            refine store_ok (X := X.suite a ((a, o4) :: (X.pn ++ pins))) (v := .ref a) (J4.suite he4 hd4 na nL nF) hN hi (.inl hl) rfl (fun s5 S5 => ?_) (.inr hl)
            have bye : ∀ {s6 : Shared} {σ6 : L2.St} {H6 : Hp} {Q : Shared → Prop}, Inv (X.suite a ((a, o4) :: (X.pn ++ pins))) [] σ6 H6 s6 → (∀ s7, Inv X pins (σ6.set i none) H6 s7 → Q s7) → wpAny (model X.prog X.w) X.A (do bindName X.env n .none; unbindBehindTheSuite X.env n pos') (fun _ s7 => Q s7) X.xe s6 := fun S6 q => gone_ok (S6.unsuite ok) hN hi hl q
            refine wpAny_mono ((hsu a o4 cls d (X.pn ++ pins) hz4 ⟨_, hd4⟩).run [] s5 _ H' _ S5 act) (fun f s6 z => ?_) fun _ _ z => z.elim
            match f, z with
            | .next, ⟨σ6, H6, S6, q⟩ => exact bye S6 fun s7 J7 => ⟨_, _, J7, q⟩
            | .brk, ⟨σ6, H6, S6, q⟩ => exact bye S6 fun s7 J7 => ⟨_, _, J7, q⟩
            | .cont, ⟨σ6, H6, S6, q⟩ => exact bye S6 fun s7 J7 => ⟨_, _, J7, q⟩
            | .ret u, ⟨v6, σ6, H6, S6, r6, q⟩ => exact bye S6 fun s7 J7 => ⟨_, _, _, J7, r6, q⟩
    exact each hh w
  refine wpAny_mono ((hb (wEach X.K Wout D l) (X.pn ++ pins) cat takes PassesOwn.looking).run [] s σ H D (I.toTry _) h) (fun f s1 z => ?_) fun e s1 z => z
  match f, z with
  | .next, ⟨σ1, H1, S1, q⟩ => exact wpAny_execs_nil ⟨σ1, H1, S1.ofTry ok, q⟩
  | .brk, ⟨σ1, H1, S1, q⟩ => exact ⟨σ1, H1, S1.ofTry ok, q⟩
  | .cont, ⟨σ1, H1, S1, q⟩ => exact ⟨σ1, H1, S1.ofTry ok, q⟩
  | .ret u, ⟨v, σ1, H1, S1, r, q⟩ => exact ⟨v, σ1, H1, S1.ofTry ok, r, q⟩
end
end G4

noncomputable section
namespace Mi
open PySem PySem.Spec PyProof.Rows L2

/-! ### raise C(e) -/
section
variable {X : Cx} {pins : List (Addr × Obj)} {σ : L2.St} {H : Hp} {s : Shared} {C : Addr} {B newId initId : String} {bm : List Value} {f : Str}
theorem bmk1 {W : WK} {fI : Addr} {k : Nat} {fd : FuncData} (FB : ExcBaseFacts B newId initId bm) (T : OxC X.K newId bm C) (iC : PySem.W.findIn X.K (.ref C) "__init__" = some (some (.ref fI))) (tI : PySem.W.typeIn X.K (.ref fI) = some (.type "function"))
    (F : FnOk X.prog X.w X.K X.mg X.base (L2.CX X.prog X.w) k fI fd ["self", f] (sp1 C f)) (hr : Room (k + 1) X.A) (hb : Binds X.K fd ["self", f] []) (tk : Takes X W) {Q : XK} {u : Value} {y : V} (ry : RelV y u) (I : Inv X pins σ H s)
    (h : ∀ dx, H dx = none → Q (.ref C) (some dx) (upd H dx (.xd [(f, y)]))) : wpAny (model X.prog X.w) X.A (call (.ref C) [u]) (MkP X pins σ Q) X.xe s := by
  obtain ⟨nm, N, qn, bs, bc, hdct, sn, sub, ab, col, dd, k0, k1, k2, k3, k5, hC, hT⟩ := PySem.W.excInit_of I.kIn T.ini
  obtain ⟨hp, g, dr, t, os⟩ := s
  have up : hp.objs.size ≤ hp.objs.size + 1 := Nat.le_succ _
  have hn : H (hp.objs.size + 1) = none := I.hok.fresh up
  have old : ∀ b o, hp.get? b = some o → ((hp.push (PySem.W.kdv_tup [u])).push (PySem.HandSPX.excO C hp.objs.size)).get? b = some o := fun b o z => Heap.get?_push_of_some _ (Heap.get?_push_of_some _ z)
  have new : ((hp.push (PySem.W.kdv_tup [u])).push (PySem.HandSPX.excO C hp.objs.size)).get? (hp.objs.size + 1) = some (PySem.HandSPX.excO C hp.objs.size) := by heap_get
  have J : Inv X pins σ (upd H (hp.objs.size + 1) (exo (hp.objs.size + 1) C none)) ⟨(hp.push (PySem.W.kdv_tup [u])).push (PySem.HandSPX.excO C hp.objs.size), g, dr, t, os⟩ := I.laid (t' := t) (a := hp.objs.size + 1) old up (exo_ok new)
  have b := hb _ [Value.ref (hp.objs.size + 1), u] J.kIn (by rfl)
  rw [List.append_nil] at b
  refine wpAny_call (PySem.HandSPX.call_own FB hT hC (PySem.W.looks_findIn I.kIn iC) (fun v => PySem.W.bind_fn I.kIn v tI) (by rw [sizeLine_eq]; simp) (codeAny_mono (F.run _ X.stack _ _ ⟨[Value.ref (hp.objs.size + 1), u], []⟩ _ [.ref (hp.objs.size + 1), y]
    (fun v H2 => v = .non ∧ ∃ dx, H dx = none ∧ dx ≠ hp.objs.size + 1 ∧ H2 = upd (upd (upd H (hp.objs.size + 1) (exo (hp.objs.size + 1) C none)) dx (exd dx [(f, y)])) (hp.objs.size + 1) (exo (hp.objs.size + 1) C (some dx)))
    (WE W σ) (hr.make C [u] []) (J.env0.make C [u] []) b (.cons rfl (.cons ry .nil)) ⟨_, y, rfl, upd_same, fun dx z ne => ⟨rfl, dx, by rw [upd_ne ne] at z; exact z, ne, rfl⟩⟩) fun r' s' z => ?_))
  match r', z with
  | .error er, z => exact passAt tk σ pins _ _ er s' J z
  | .ok (.ret w), z =>
    obtain ⟨v, H2, os2, bare2, un2, hok2, rv, hv, dx, hd, ne, e2⟩ := z
    subst hv
    obtain ⟨h2, g2, d2, t2, os'⟩ := s'
    have ea : H2 (hp.objs.size + 1) = some (exo (hp.objs.size + 1) C (some dx)) := by rw [e2]; exact upd_same
    have ed : H2 dx = some (exd dx [(f, y)]) := by rw [e2, upd_ne ne]; exact upd_same
    have same : upd (del H2 (hp.objs.size + 1)) dx (.xd [(f, y)]) = upd H dx (.xd [(f, y)]) := by
      funext c
      by_cases c1 : c = dx
      · rw [c1, upd_same, upd_same]
      · rw [upd_ne c1, upd_ne c1]
        by_cases c2 : c = hp.objs.size + 1
        · rw [c2, del_same, hn]
        · rw [del_ne c2, e2, upd_ne c2, upd_ne c1, upd_ne c2]
    exact ⟨rv, mk_end (d2 := d2) (t2 := t2) (raises_own T.A.exC T.A.ty) I up old un2 hok2 os2 bare2 ea ed hd (same ▸ h dx hd)⟩
  | .ok .next, z => exact z.elim
  | .ok .brk, z => exact z.elim
  | .ok .cont, z => exact z.elim
end
def sRaise1 (n f : Str) (ms : MA) : MS := fun env s => (ms env s).fl env fun vs s1 => match vs with
  | [v] => .ex ⟨n, [(f, v)]⟩ env s1
  | _ => .bad
section
variable {X : Cx} {W : WK} {C : Addr} {B newId initId : String} {bm : List Value} {p pos pos2 : Pos} {e : Expr} {ms : MA}
theorem s_raise1 {n f : Str} {fI : Addr} {k : Nat} {fd : FuncData} (FB : ExcBaseFacts B newId initId bm) (T : OxC X.K newId bm C) (hC : PySem.W.nsIn X.K mainGlobals n = some (some (.ref C))) (iC : PySem.W.findIn X.K (.ref C) "__init__" = some (some (.ref fI))) (tI : PySem.W.typeIn X.K (.ref fI) = some (.type "function"))
    (F : FnOk X.prog X.w X.K X.mg X.base (L2.CX X.prog X.w) k fI fd ["self", f] (sp1 C f)) (hr : Room (k + 1) X.A) (hb : Binds X.K fd ["self", f] []) (hc : X.calm = true) (tk : Takes X W) (hg : Gl X n) (hm : X.mg n = some (.ref C)) (ha : MEs X W [e] ms)
    (hdb : (n == ("__debug__" : Str)) = false := by decide) (he : starEach [e] X.env = (false, eval e X.env) :: starEach [] X.env := by rfl) (hpl : (backTo pos (starEach [] X.env)).any (·.1) = false := by rfl) :
    MSt X W (.Raise (some (.Call (.Name n p) [e] [] pos)) none pos2) (sRaise1 n f ms) := by
  obtain ⟨t, q, s⟩ := ha
  have pm : PMk X (.Call (.Name n p) [e] [] pos) (fun σ H Q => t σ H fun vs H1 => ∃ y, vs = [y] ∧ ∀ dx, H1 dx = none → Q (.ref C) (some dx) (upd H1 dx (.xd [(f, y)]))) := fun pins st σ H Q I h => by
    refine wpAny_Call_Name_kw (ld_glob I hg hm ?_ hdb)
    refine PySem.W.callWith_K (h₀ := X.base) I.ok.mod.kin T.kC (thn (q.run pos pins st σ H _ I h) ?_) he hpl
    intro us s1 z
    obtain ⟨vs, H1, I1, r, y, ev, q1⟩ := z
    subst ev
    obtain ⟨u, eu, ru⟩ := vals1 r
    subst eu
    exact ⟨I1.kIn, bmk1 FB T iC tI F hr hb tk ru I1 q1⟩
  refine ⟨_, ps_raise hc tk pm, fun D σ H ρ env sto h1 h2 h3 => ?_⟩
  refine s σ H ρ env sto _ h1 h2 ((FPost.bind h1 h2 h3).imp fun v s1 H1 ρ1 x1 S1 P1 ys hys => ?_)
  split at P1
  · rename_i v0
    obtain ⟨y, rfl, hy⟩ := hys.one
    refine ⟨y, rfl, fun dx hd => ?_⟩
    have x2 := S1.ext (o := .xd [(f, y)]) hd
    exact P1 (.ref C) (some dx) σ _ ρ1 x2 (S1.new hd) ((h1.mono x1.toExtW).mono x2.toExtW) ⟨⟨C, hC, rfl⟩, by simp, [(f, y)], upd_same, S1.fresh hd, S1.freshR hd, rfl, .cons (hy.mono x2.toExtW) .nil⟩
  · exact P1.elim
end

/-! ### several except clauses -/
/-- what the caught exception's name holds -/
def caughtV (a : Addr) (d : Option Addr) (e : Exn) : PV := match d with
  | none => .obj a
  | some dx => .cat a dx (e.flds.map (·.1)) (e.flds.map (·.2))
def sane (d : Option Addr) (e : Exn) : Prop := d = none → e.flds = []
theorem zip_un {α β : Type} : ∀ l : List (α × β), (l.map (·.1)).zip (l.map (·.2)) = l
  | [] => rfl
  | _ :: l => congrArg (_ :: ·) (zip_un l)
theorem caught_ok {K : PySem.W.Frag} {H : Hp} {ρ : Rh} {e : Exn} {cls : Value} {d : Option Addr} (a : Addr) (R : RX K H ρ e cls d) : RV K H ρ (caughtV a d e) (.ref a) ∧ sane d e := by
  obtain ⟨_, R⟩ := R
  cases d with
  | none => exact ⟨rfl, fun _ => R⟩
  | some dx =>
    obtain ⟨_, fs, h1, h2, h3, h4, h5⟩ := R
    refine ⟨⟨fs.map (·.2), rfl, ⟨?_, h2, h3⟩, h5⟩, fun z => by cases z⟩
    rw [h4, zip_un]; exact h1
abbrev Clause := List (Str × Bool) × Option Nat × (Exn → MS)
def catchN : List Clause → Exn → MS
  | [], e => fun env s => .ex e env s
  | (tab, sl, u) :: r, e => fun env s => match tab.lookup e.cls with
    | some true => match sl with
      | none => (u e env s).noex
      | some i => bif Nat.blt i env.length then putF i none (u e (env.set i none) s).noex else .bad
    | some false => catchN r e env s
    | none => .bad
def sTryN (l : List Clause) (b : MS) : MS := fun env s => match b env s with
  | .ex e env1 s1 => catchN l e env1 s1
  | r => r
inductive EachM (X : Cx) : List ExceptHandler → List Clause → Prop
  | nil : EachM X [] []
  | bare {x : Str} {c : Value} {tab : List (Str × Bool)} {u : Exn → MS} {b₀ : Stmt} {suite : List Stmt} {np pos' : Pos} {hds : List ExceptHandler} {l : List Clause} (hc : Names X x c) (T : XmTab X.K c tab)
      (hu : ∀ (e : Exn) (a : Addr) (oe : Obj) (pn : List (Addr × Obj)), MSs (X.suite a ((a, oe) :: pn)) WF (b₀ :: suite) (u e)) (r : EachM X hds l) : EachM X (.ExceptHandler (some (.Name x np)) none (b₀ :: suite) pos' :: hds) ((tab, none, u) :: l)
  | as {x n : Str} {i : Nat} {c : Value} {tab : List (Str × Bool)} {u : Exn → MS} {mu : Addr → Option Addr → Exn → MS} {b₀ : Stmt} {suite : List Stmt} {np pos' : Pos} {hds : List ExceptHandler} {l : List Clause} (hc : Names X x c) (T : XmTab X.K c tab)
      (hN : X.N.Nodup) (hi : X.N[i]? = some n) (hl : X.env.kindOf n = some .local)
      (hu : ∀ (e : Exn) (C a : Addr) (oe : Obj) (d : Option Addr) (pn : List (Addr × Obj)), PySem.W.nsIn X.K mainGlobals e.cls = some (some (.ref C)) → Zc (.ref C) d oe → (∃ vs, oe.data = .fields vs) → MSs (X.suite a ((a, oe) :: pn)) WF (b₀ :: suite) (mu a d e))
      (hp : ∀ (a : Addr) (d : Option Addr) (e : Exn) (env : Env) (s : Sto), i < env.length → sane d e → mu a d e (env.set i (some (caughtV a d e))) s = putF i (some (caughtV a d e)) (u e (env.set i none) s)) (r : EachM X hds l) :
      EachM X (.ExceptHandler (some (.Name x np)) (some n) (b₀ :: suite) pos' :: hds) ((tab, some i, u) :: l)
theorem eachM_cl {X : Cx} {W : WK} : ∀ {hds : List ExceptHandler} {l : List Clause}, EachM X hds l → ∃ cl : List G4.Cl, G4.Each X hds cl ∧ ∀ (D : Ends) (e : Exn) (env : Env) (s : Sto) (cls : Value) (d : Option Addr) (σ : L2.St) (H : Hp) (ρ : Rh),
    REnv X.K H ρ env σ → RSt X.K H ρ s → RX X.K H ρ e cls d → FPost X.K W D H ρ (catchN l e env s) → G4.wEach X.K W D cl cls d σ H := by
  intro hds l h
  induction h with
  | nil => exact ⟨[], .nil, fun D e env s cls d σ H ρ E S R P => P cls d σ H ρ .refl S E R⟩
  | @bare x c tab u b₀ suite np pos' hds l hc T hu r ih =>
    obtain ⟨cl, h1, h2⟩ := ih
    refine ⟨⟨c, none, fun _ _ _ D σ H => ∃ e, cS X.K WF (u e) D σ H⟩ :: cl, .cons hc (.inl ⟨rfl, rfl⟩) (fun a oe cls d pn _ _ => ⟨fun pins st σ H D I ⟨e, q⟩ => (hu e a oe pn).can.run pins st σ H D I q⟩) h1, fun D e env s cls d σ H ρ E S R P => ?_⟩
    obtain ⟨⟨C, hC, rfl⟩, _⟩ := id R
    unfold catchN at P
    cases k : tab.lookup e.cls with
    | none => rw [k] at P; exact P.elim
    | some b =>
      rw [k] at P
      refine ⟨b, T _ _ k C hC, fun hb a _ => ?_, fun hb => ?_⟩
      · subst hb
        exact ⟨e, ρ, env, s, E, S, FPost.unex P⟩
      · subst hb
        exact h2 D e env s _ d σ H ρ E S R P
  | @as x n i c tab u mu b₀ suite np pos' hds l hc T hN hi hl hu hp r ih =>
    obtain ⟨cl, h1, h2⟩ := ih
    refine ⟨⟨c, some i, fun a cls d D σ H => ∃ e C, PySem.W.nsIn X.K mainGlobals e.cls = some (some (.ref C)) ∧ cls = .ref C ∧ cS X.K WF (mu a d e) D σ H⟩ :: cl,
      .cons hc (.inr ⟨n, i, rfl, rfl, hN, hi, hl⟩) (fun a oe cls d pn hz hv => ⟨fun pins st σ H D I ⟨e, C, hC, ec, q⟩ => (hu e C a oe d pn hC (ec ▸ hz) hv).can.run pins st σ H D I q⟩) h1, fun D e env s cls d σ H ρ E S R P => ?_⟩
    obtain ⟨⟨C, hC, rfl⟩, _⟩ := id R
    unfold catchN at P
    cases k : tab.lookup e.cls with
    | none => rw [k] at P; exact P.elim
    | some b =>
      rw [k] at P
      refine ⟨b, T _ _ k C hC, fun hb a _ => ?_, fun hb => ?_⟩
      · subst hb
        obtain ⟨hlen, P⟩ := and_of (C := FPost X.K W D H ρ) P (fun z => z)
        have hlen : i < env.length := Nat.le_of_ble_eq_true hlen
        obtain ⟨rc, sn⟩ := caught_ok a R
        refine ⟨e, C, hC, rfl, ρ, env.set i (some (caughtV a d e)), s, E.set i rc, S, ?_⟩
        rw [hp a d e env s hlen sn]
        have z : FPost X.K WF D H ρ (putF i none (u e (env.set i none) s)).noex := by
          cases q : u e (env.set i none) s <;> rw [q] at P <;> exact P
        exact putF_post z
      · subst hb
        exact h2 D e env s _ d σ H ρ E S R P
section
variable {X : Cx} {W : WK} {body : List Stmt} {h₀ : ExceptHandler} {hds : List ExceptHandler} {l : List Clause} {pos : Pos} {mb : MS}
theorem s_tryN (hs : X.stack = X.env :: X.outer) (hf : X.env.frame = some X.env.locals) (tk : Takes X W)
    (hb : ∀ (W' : WK) (pn : List (Addr × Obj)) (xe : Value → Shared → Prop), Takes (X.tr pn xe) W' → PassesOwn (model X.prog X.w) X.A X.env xe → MSs (X.tr pn xe) W' body mb) (hh : EachM X (h₀ :: hds) l) : MSt X W (.Try body (h₀ :: hds) [] [] pos) (sTryN l mb) := by
  obtain ⟨cl, h1, h2⟩ := eachM_cl (W := W) hh
  refine ⟨_, G4.ps_try_each (tb := fun W' => cS X.K W' mb) hs hf tk (fun W' pn xe q1 q2 => (hb W' pn xe q1 q2).can) h1, fun D σ H ρ env sto E S P => ⟨ρ, env, sto, E, S, ?_⟩⟩
  unfold sTryN at P
  cases q : mb env sto with
  | ex e env1 s1 =>
    rw [q] at P
    dsimp only at P
    intro cls d σ' H' ρ' xx S' E' R
    exact h2 D e env1 s1 cls d σ' H' ρ' E' S' R (FPost.shift xx S.hh P)
  | nx e s => rw [q] at P; exact P
  | rt v s => rw [q] at P; exact P
  | bk e s => rw [q] at P; exact P
  | ct e s => rw [q] at P; exact P
  | bad => rw [q] at P; exact P
end
/-- the caught exception's field -/
def mCatR (tab : List Str) (k : Str) (a : Addr) (d : Option Addr) (i : Nat) (f : Str) : M := fun env s => match env[i]?, d with
  | some (some (.cat a' d' ns xs)), some dd => bif tab.elem k then (if a' = a ∧ d' = dd then (match lookP f ns xs with
    | some v => .ok v s
    | none => .bad) else .bad) else .bad
  | _, _ => .bad
/-- the same, by the exception -/
def mCatF (tab : List Str) (e : Exn) (f : Str) : M := fun _ s => bif tab.elem e.cls then (match lookP f (e.flds.map (·.1)) (e.flds.map (·.2)) with
  | some v => .ok v s
  | none => .bad) else .bad
theorem catR_put {tab : List Str} {a : Addr} {d : Option Addr} {e : Exn} {i : Nat} {f : Str} {env : Env} {s : Sto} (hl : i < env.length) (hd : sane d e) : mCatR tab e.cls a d i f (env.set i (some (caughtV a d e))) s = mCatF tab e f (env.set i none) s := by
  unfold mCatR mCatF
  rw [List.getElem?_set_self hl]
  cases d with
  | none =>
    have q := hd rfl
    rw [q]
    show R.bad = bif tab.elem e.cls then R.bad else R.bad
    cases tab.elem e.cls <;> rfl
  | some dx =>
    dsimp only [caughtV]
    cases tab.elem e.cls with
    | false => rfl
    | true => simp
section
variable {X : Cx} {W : WK} {a C : Addr} {d : Option Addr} {oe : Obj} {pn : List (Addr × Obj)} {p2 pos : Pos}
theorem e_catF {tab : List Str} {k x f : Str} {i : Nat} (hk : PySem.W.nsIn X.K mainGlobals k = some (some (.ref C))) (T : FdTab X.K f tab) (hz : Zc (.ref C) d oe) (hf : ∃ vs, oe.data = .fields vs) (hN : X.N[i]? = some x) (hv : Vis X.env.scope x)
    (hd : (x == ("__debug__" : Str)) = false := by decide) (hcd : (x == ("__classdict__" : Str)) = false := by decide) (hb : attributeBase (.Name x p2) f X.env (eval (.Name x p2) X.env) = eval (.Name x p2) X.env := by rfl) :
    ME (X.suite a ((a, oe) :: pn)) W (.Attribute (.Name x p2) f pos) (mCatR tab k a d i f) := by
  cases hn : tab.elem k with
  | false =>
    refine ⟨fun _ _ _ => False, ⟨fun _ _ _ _ _ _ h => h.elim⟩, fun σ H ρ env sto Q hE hS hP => ?_⟩
    unfold mCatR at hP
    split at hP
    · rw [hn] at hP; exact hP.elim
    · exact hP.elim
  | true =>
    obtain ⟨A, hno⟩ := T k (by simpa using hn) C hk
    refine ⟨_, pe_xf (d := d) ⟨A.ga, A.gg, A.exC, A.hd⟩ hno hz hf (pe_var (X := X.suite a ((a, oe) :: pn)) (i := i) hN hv hd hcd) hb, fun σ H ρ env sto Q hE hS hP => ?_⟩
    unfold mCatR at hP
    split at hP
    · rename_i a' d' ns xs dd e0
      rw [hn] at hP
      replace hP : Post X.K (fun c d h => W c d σ h) H ρ (GV X.K Q) (if a' = a ∧ d' = dd then (match lookP f ns xs with
        | some v => .ok v sto
        | none => .bad) else .bad) := hP
      split at hP
      · rename_i e2
        obtain ⟨rfl, rfl⟩ := e2
        split at hP
        · rename_i v e3
          obtain ⟨w, h1, ys, rfl, ⟨k1, _, _⟩, k4⟩ := hE.2 i _ e0
          obtain ⟨y, h4, h5⟩ := lookP_ok k4 e3
          exact ⟨_, h1, rfl, rfl, d', ns.zip ys, y, rfl, k1, h4, now hS hP h5⟩
        · exact hP.elim
      · exact hP.elim
    · exact hP.elim
end
end Mi

noncomputable section
namespace Mi
open PySem PySem.Spec PyProof.Rows L2

/-! ### a < b < c -/
def mChain (g g' : G2) (ma mb mc : M) : M := fun env s => (ma env s).bind fun x s1 => (mb env s1).bind fun y s2 => (g x y s2).bind fun z s3 => match z with
  | .bl true => (mc env s3).bind fun w s4 => g' y w s4
  | .bl false => .ok (.bl false) s3
  | _ => .bad
section
variable {X : Cx} {W : WK} {a b c : Expr} {ma mb mc : M} {pos : Pos} {g g' : G2} {r r' : R2}
theorem se_chain {ta tb tc : TE} (sa : SE X.K W ta ma) (sb : SE X.K W tb mb) (sc : SE X.K W tc mc) (hg : SR2 X.K r g) (hg' : SR2 X.K r' g') : SE X.K W (tChain r r' ta tb tc) (mChain g g' ma mb mc) := by
  intro σ H ρ env sto Q hE hS hP
  refine sa σ H ρ env sto _ hE hS ((hP.bind hS).imp fun x s1 H1 ρ1 x1 S1 P1 v hv => ?_)
  have E1 := hE.mono x1.toExtW
  refine sb σ H1 ρ1 env s1 _ E1 S1 ((P1.bind S1).imp fun y s2 H2 ρ2 x2 S2 P2 u hu => ?_)
  have E2 := E1.mono x2.toExtW
  refine hg _ H2 ρ2 s2 x y v u _ S2 (hv.mono x2.toExtW) hu ((P2.bind S2).imp fun z s3 H3 ρ3 x3 S3 P3 w hw => ?_)
  split at P3
  · cases hw
    refine ⟨true, rfl, ?_⟩
    rw [if_pos rfl]
    exact sc σ H3 ρ3 env s3 _ (E2.mono x3.toExtW) S3 ((P3.bind S3).imp fun q s4 H4 ρ4 x4 S4 P4 t ht => hg' _ H4 ρ4 s4 y q u t Q S4 ((hu.mono x3.toExtW).mono x4.toExtW) ht P4)
  · cases hw
    refine ⟨false, rfl, ?_⟩
    rw [if_neg Bool.false_ne_true]
    exact now S3 P3 rfl
  · exact P3.elim
theorem e_chain {op op' : CmpOp} (ho : OpR X (compareOp op) r) (hg : SR2 X.K r g) (ho' : OpR X (compareOp op') r') (hg' : SR2 X.K r' g') (ha : ME X W a ma) (hb : ME X W b mb) (hc : ME X W c mc) (hm : lastMarks [op, op'] [b, c] = false := by with_unfolding_all rfl) :
    ME X W (.Compare a [op, op'] [b, c] pos) (mChain g g' ma mb mc) := by
  obtain ⟨ta, pa, sa⟩ := ha
  obtain ⟨tb, pb, sb⟩ := hb
  obtain ⟨tc, pc, sc⟩ := hc
  exact ⟨_, pe_chain ho ho' pa pb pc hm, se_chain sa sb sc hg hg'⟩
theorem t_chain {op op' : CmpOp} (ho : OpR X (compareOp op) r) (hg : SR2 X.K r g) (ho' : OpR X (compareOp op') r') (hg' : SR2 X.K r' g') (ha : ME X W a ma) (hb : ME X W b mb) (hc : ME X W c mc) (hm : lastMarks [op, op'] [b, c] = false := by with_unfolding_all rfl) :
    MTe X W (.Compare a [op, op'] [b, c] pos) (mT (mChain g g' ma mb mc)) := by
  obtain ⟨ta, pa, sa⟩ := ha
  obtain ⟨tb, pb, sb⟩ := hb
  obtain ⟨tc, pc, sc⟩ := hc
  exact ⟨_, pt_chain ho ho' pa pb pc hm, st_test (se_chain sa sb sc hg hg')⟩
end
/-! ### xs.reverse() -/
def mRev (mo : M) : M := fun env s => (mo env s).bind fun o s1 => match o with
  | .box n => match s1[n]? with
    | some (.l xs) => .ok .non (s1.set n (.l xs.reverse))
    | _ => .bad
  | _ => .bad
section
variable {X : Cx} {W : WK} {o : Expr} {mo : M} {p pos : Pos}
theorem e_rev (ho : ME X W o mo) (hbase : attributeBase o "reverse" X.env (eval o X.env) = eval o X.env := by rfl) (hline : (p.endLine == pos.line) = true := by rfl) : ME X W (.Call (.Attribute o "reverse" p) [] [] pos) (mRev mo) := by
  obtain ⟨t, q, s⟩ := ho
  refine ⟨_, pe_bm0 PySem.F.plainAttrs_list PySem.F.slot_list_reverse PySem.F.type_list_reverse mt_reverse q hbase hline, fun σ H ρ env sto Q hE hS hP => ?_⟩
  refine s σ H ρ env sto _ hE hS ((hP.bind hS).imp fun v s1 H1 ρ1 x1 S1 P1 y hy => ?_)
  split at P1
  · rename_i n
    obtain ⟨a, rfl, ha⟩ := hy
    split at P1
    · rename_i xs e1
      obtain ⟨ys, h3, h4⟩ := S1.at_ n a _ ha e1
      obtain ⟨x3, S3⟩ := S1.put ha (S1.lt ha) ⟨_, h3⟩ h4.reverse
      exact ⟨.inl ⟨rfl, ys, .of h3⟩, a, ys, rfl, rfl, h3, P1 _ ρ1 x3 S3 _ rfl⟩
    · exact P1.elim
  · exact P1.elim
end

/-! ### a, b, c = e1, e2, e3 (three plain locals) -/
def sPar3 (i j l : Nat) (ms : MA) : MS := fun env s => (ms env s).fl env fun vs s1 => match vs with
  | [u, v, w] => .nx (((env.set i (some u)).set j (some v)).set l (some w)) s1
  | _ => .bad
theorem s_par3 {X : Cx} {W : WK} {i j l : Nat} {x y z : Str} {a b c : Expr} {ms : MA} {px py pz pt pos : Pos} {kt k2 pt2} (hc : X.calm = true) (hN : X.N.Nodup) (hi : X.N[i]? = some x) (hj : X.N[j]? = some y) (hl : X.N[l]? = some z) (hij : i ≠ j) (hil : i ≠ l) (hjl : j ≠ l)
    (hx : X.env.scope.names.lookup x = some .local) (hy : X.env.scope.names.lookup y = some .local) (hz : X.env.scope.names.lookup z = some .local) (ha : MEs X W [a, b, c] ms) (hw : swappedStores [.Tuple [.Name x px, .Name y py, .Name z pz] kt pt] (.Tuple [a, b, c] k2 pt2) X.env = pure (some [x, y, z]))
    (hs : swapsWithSole [.Tuple [.Name x px, .Name y py, .Name z pz] kt pt] (.Tuple [a, b, c] k2 pt2) pos.line X.env = pure false := by rfl) : MSt X W (.Assign [.Tuple [.Name x px, .Name y py, .Name z pz] kt pt] (.Tuple [a, b, c] k2 pt2) pos) (sPar3 i j l ms) := by
  obtain ⟨t, p, s⟩ := ha
  refine ⟨_, ps_par3 hc hN hi hj hl hij hil hjl hx hy hz p hw hs, fun D σ H ρ env sto h1 h2 h3 => ?_⟩
  refine s σ H ρ env sto _ h1 h2 ((FPost.bind h1 h2 h3).imp fun vs s1 H1 ρ1 x1 S1 P1 ys hys => ?_)
  split at P1
  · obtain ⟨u, _, rfl, r1, hys⟩ := hys
    obtain ⟨v, w, rfl, r2, r3⟩ := hys.two
    exact ⟨u, v, w, rfl, P1 _ H1 ρ1 .refl S1 ((((h1.mono x1.toExtW).set i r1).set j r2).set l r3)⟩
  · exact P1.elim
end Mi

noncomputable section
namespace Mi
open PySem PySem.Spec PyProof.Rows L2

/-! ### in, of tuples and lists of data -/
def rInAny (K : PySem.W.Frag) (f : Bool → Bool) : R2 := fun x y H Q => ∃ d ds, Dp K H x d ∧ (Dp K H y (.list ds) ∨ Dp K H y (.tuple ds)) ∧ SeqAt.shaped d = true ∧ SeqAt.shaped (.list ds) = true ∧ Q (.bl (f (ds.any fun z => PyData.eqv z d))) H
theorem op_inAny {X : Cx} (hu : X.A.units + 65 < cLine) : OpR X (compareOp .In) (rInAny X.K id) := by
  intro pins s σ H x y v u Q I rx ry h
  obtain ⟨d, ds, hd, he, sd, se, q⟩ := h
  obtain ⟨as, r1⟩ := Dp.reads I d x v hd rx
  rcases he with he | he
  · obtain ⟨bs, r2⟩ := Dp.reads I (.list ds) y u he ry
    exact SeqAt.in_list_reads r2 r1 (SeqAt.canLay_of_shaped se) (SeqAt.canLay_of_shaped sd) (room_in_shaped sd hu) ⟨.bl _, H, I, rfl, q⟩
  · obtain ⟨bs, r2⟩ := Dp.reads I (.tuple ds) y u he ry
    exact SeqAt.in_tuple_reads r2 r1 (SeqAt.canLay_of_shaped se) (SeqAt.canLay_of_shaped sd) (room_in_shaped sd hu) ⟨.bl _, H, I, rfl, q⟩
theorem op_notInAny {X : Cx} (hu : X.A.units + 65 < cLine) : OpR X (compareOp .NotIn) (rInAny X.K not) := by
  intro pins s σ H x y v u Q I rx ry h
  obtain ⟨d, ds, hd, he, sd, se, q⟩ := h
  obtain ⟨as, r1⟩ := Dp.reads I d x v hd rx
  rcases he with he | he
  · obtain ⟨bs, r2⟩ := Dp.reads I (.list ds) y u he ry
    exact SeqAt.notIn_list_reads r2 r1 (SeqAt.canLay_of_shaped se) (SeqAt.canLay_of_shaped sd) (room_in_shaped sd hu) ⟨.bl _, H, I, rfl, q⟩
  · obtain ⟨bs, r2⟩ := Dp.reads I (.tuple ds) y u he ry
    exact SeqAt.notIn_tuple_reads r2 r1 (SeqAt.canLay_of_shaped se) (SeqAt.canLay_of_shaped sd) (room_in_shaped sd hu) ⟨.bl _, H, I, rfl, q⟩
def itemsD : PyData → Option (List PyData)
  | .list ds => some ds
  | .tuple ds => some ds
  | _ => none
def gIn (f : Bool → Bool) : G2 := fun x y s => match toD s x, toD s y with
  | some d, some e => match itemsD e with
    | some ds => bif SeqAt.shaped d && SeqAt.shaped (.list ds) then .ok (.bl (f (ds.any fun z => PyData.eqv z d))) s else .bad
    | none => .bad
  | _, _ => .bad
theorem g_in {K : PySem.W.Frag} {f : Bool → Bool} : SR2 K (rInAny K f) (gIn f) := by
  intro WP H ρ sto x y v u Q S rx ry P
  unfold gIn at P
  split at P
  · rename_i d e h1 h2
    split at P
    · rename_i ds h3
      obtain ⟨hc, P⟩ := and_of (C := Post K WP H ρ (GV K Q)) P (fun z => z)
      rw [Bool.and_eq_true] at hc
      refine ⟨d, ds, toD_ok rx h1, ?_, hc.1, hc.2, now S P rfl⟩
      have q := toD_ok ry h2
      cases e <;> first | (cases h3; exact .inl q) | (cases h3; exact .inr q) | cases h3
    · exact P.elim
  · exact P.elim
section
variable {X : Cx} {W : WK} {a b : Expr} {ma mb : M} {pos : Pos}
theorem e_in (hu : X.A.units + 65 < cLine) (ha : ME X W a ma) (hb : ME X W b mb) (hm : behindInMarks .In b = false := by rfl) : ME X W (.Compare a [.In] [b] pos) (mBin (gIn id) ma mb) := e_cmp (op_inAny hu) g_in ha hb hm
theorem e_notin (hu : X.A.units + 65 < cLine) (ha : ME X W a ma) (hb : ME X W b mb) (hm : behindInMarks .NotIn b = false := by rfl) : ME X W (.Compare a [.NotIn] [b] pos) (mBin (gIn not) ma mb) := e_cmp (op_notInAny hu) g_in ha hb hm
theorem t_in (hu : X.A.units + 65 < cLine) (ha : ME X W a ma) (hb : ME X W b mb) (hm : behindInMarks .In b = false := by rfl) : MTe X W (.Compare a [.In] [b] pos) (mT (mBin (gIn id) ma mb)) := t_cmp (op_inAny hu) g_in ha hb hm
theorem t_notin (hu : X.A.units + 65 < cLine) (ha : ME X W a ma) (hb : ME X W b mb) (hm : behindInMarks .NotIn b = false := by rfl) : MTe X W (.Compare a [.NotIn] [b] pos) (mT (mBin (gIn not) ma mb)) := t_cmp (op_notInAny hu) g_in ha hb hm
end

/-! ### xs.extend(ys) -/
def mExt (mo m : M) : M := fun env s => (mo env s).bind fun o s1 => match o with
  | .box n => match lsO s1[n]? with
    | some _ => (m env s1).bind fun v s2 => match s2[n]?, getL s2 v with
      | some (.l xs), some zs => bif Nat.ble (xs.length + zs.length) sizeLine then .ok .non (s2.set n (.l (xs ++ zs))) else .bad
      | _, _ => .bad
    | none => .bad
  | _ => .bad
section
variable {X : Cx} {W : WK} {o e : Expr} {m mo : M} {pos p p2 p3 : Pos}
theorem e_ext (ho : ME X W o mo) (he : ME X W e m) (hbase : attributeBase o "extend" X.env (eval o X.env) = eval o X.env := by rfl)
    (hfew : ((backTo pos (starEach [e] X.env)).all (fun x => !x.1) && (backToKw pos (keywordEach [] X.env)).all (fun x => x.1.isSome) && decide (([e] : List Expr).length + ([] : List Keyword).length + (if ([] : List Keyword).isEmpty then 0 else 1) < 30)) = true := by rfl)
    (hline : (p.endLine == pos.line) = true := by rfl) (hs : starEach [e] X.env = (false, eval e X.env) :: starEach [] X.env := by rfl) (hplain : (backTo pos (starEach [] X.env)).any (·.1) = false := by rfl) : ME X W (.Call (.Attribute o "extend" p) [e] [] pos) (mExt mo m) := by
  obtain ⟨t, q, s⟩ := ho
  obtain ⟨u, r, z⟩ := he
  refine ⟨_, pe_bm PySem.F.plainAttrs_list PySem.F.slot_list_extend PySem.F.type_list_extend mt_extend q (pa_cons r pa_nil hs) hbase hfew hline hs hplain, fun σ H ρ env sto Q hE hS hP => ?_⟩
  refine s σ H ρ env sto _ hE hS ((hP.bind hS).imp fun v s1 H1 ρ1 x1 S1 P1 y hy => ?_)
  split at P1
  · rename_i n
    obtain ⟨a, rfl, ha⟩ := hy
    cases e0 : lsO s1[n]? with
    | none => rw [e0] at P1; exact P1.elim
    | some zs0 =>
    rw [e0] at P1
    obtain ⟨ys0, h30, _⟩ := S1.at_ n a _ ha (lsO_ok e0)
    refine ⟨.inl ⟨rfl, ys0, .of h30⟩, z σ H1 ρ1 env s1 _ (hE.mono x1.toExtW) S1 ((P1.bind S1).imp fun w s2 H2 ρ2 x2 S2 P2 y2 hy2 => ?_)⟩
    split at P2
    · rename_i xs zs e1 e2
      obtain ⟨hz, P2⟩ := ble_of (C := Post X.K _ H2 ρ2 (GV X.K Q)) P2 (fun z => z)
      have ha2 := bx_keep x2.toExtW ha
      obtain ⟨ys, h3, h4⟩ := S2.at_ n a _ ha2 e1
      obtain ⟨b, us, rfl, h5, h6⟩ := getL_ok S2 hy2 e2
      obtain ⟨x3, S3⟩ := S2.put ha2 (S2.lt ha2) ⟨_, h3⟩ (h4.append h6)
      exact ⟨a, b, ys, us, rfl, rfl, h3, h5, by rw [← h4.length, ← h6.length]; exact hz, P2 _ ρ2 x3 S3 _ rfl⟩
    · exact P2.elim
  · exact P1.elim
end

/-! ### f(b=.., a=..): by name, in any order -/
def pick {α : Type} (ix : List Nat) (l : List α) : List α := ix.filterMap (l[·]?)
theorem RVs.pick {K : PySem.W.Frag} {H : Hp} {ρ : Rh} {vs : List PV} {us : List V} (r : RVs K H ρ vs us) : ∀ ix : List Nat, RVs K H ρ (Mi.pick ix vs) (Mi.pick ix us)
  | [] => .nil
  | i :: ix => by
    unfold Mi.pick
    rw [List.filterMap_cons, List.filterMap_cons]
    cases e : vs[i]? with
    | some x =>
      obtain ⟨y, h1, h2⟩ := r.get e
      rw [h1]
      exact .cons h2 (RVs.pick r ix)
    | none =>
      have q : us[i]? = none := by rw [List.getElem?_eq_none_iff, ← r.length]; exact List.getElem?_eq_none_iff.mp e
      rw [q]
      exact RVs.pick r ix
theorem vals_at {vs : List V} {us : List Value} (r : Vals vs us) (i : Nat) : (∃ v u, vs[i]? = some v ∧ us[i]? = some u ∧ RelV v u) ∨ (vs[i]? = none ∧ us[i]? = none) := by
  cases e : vs[i]? with
  | some v =>
    obtain ⟨u, h1, h2⟩ := r.get e
    exact .inl ⟨v, u, rfl, h1, h2⟩
  | none => exact .inr ⟨rfl, by rw [List.getElem?_eq_none_iff, ← r.length]; exact List.getElem?_eq_none_iff.mp e⟩
theorem vals_pick {vs : List V} {us : List Value} (r : Vals vs us) : ∀ ix : List Nat, Vals (pick ix vs) (pick ix us)
  | [] => .nil
  | i :: ix => by
    unfold pick
    rw [List.filterMap_cons, List.filterMap_cons]
    rcases vals_at r i with ⟨v, u, h1, h2, h3⟩ | ⟨h1, h2⟩
    · rw [h1, h2]; exact .cons h3 (vals_pick r ix)
    · rw [h1, h2]; exact vals_pick r ix
def mCallP (ix : List Nat) (n : Nat) (run : GC) (mk : MA) : M := fun env s => (mk env s).bind fun vs s1 => bif Nat.beq vs.length ix.length then ar n run (pick ix vs) s1 else .bad
section
variable {X : Cx} {W : WK} {k : Nat} {f : Addr} {fd : FuncData} {ps ks : List Str} {run : GC} {x : Str} {mk : MA} {p pos : Pos} {kws : List Keyword}
theorem e_callP (ix : List Nat) (F : FOk X.prog X.w X.K X.mg X.base k f fd ps run) (hr : Room k X.A) (tk : Takes X W) (hg : Gl X x) (hm : X.mg x = some (.ref f)) (hk : PySem.W.keepIn X.K (.ref f) = true)
    (hb : ∀ (s : Shared) (ws : List Value), ws.length = ix.length → BindsTo s fd ⟨[], ks.zip ws⟩ (ps.zip (pick ix ws))) (ha : MKs X W kws mk) {n : Nat} (hn : ps.length = n := by rfl)
    (hall : (backToKw pos (keywordEach kws X.env)).all (·.1.isSome) = true := by rfl) (hks : (backToKw pos (keywordEach kws X.env)).filterMap (·.1) = ks := by rfl) (hdb : (x == ("__debug__" : Str)) = false := by decide)
    (hpl : ((backTo pos (starEach [] X.env)).any (·.1) || (backToKw pos (keywordEach kws X.env)).any (·.1.isNone)) = false := by rfl) : ME X W (.Call (.Name x p) [] kws pos) (mCallP ix n run mk) := by
  subst hn
  obtain ⟨t, q, s⟩ := ha
  refine ⟨fun σ H Q => t σ H fun vs H1 => vs.length = ix.length ∧ spF X.K ps.length run (pick ix vs) H1 Q (WE W σ), ⟨fun pins st σ H Q I h => ?_⟩, fun σ H ρ env sto Q hE hS hP => ?_⟩
  · refine wpAny_Call_Name_kw (ld_glob I hg hm ?_ hdb)
    refine PySem.W.callWith_KW0 (h₀ := X.base) I.ok.mod.kin hk hall (thn (q.run pos pins st σ H _ I h) ?_) hpl
    intro us s1 z
    obtain ⟨vs, H1, I1, r, hz, q1⟩ := z
    refine ⟨I1.kIn, ?_⟩
    rw [hks]
    have r2 := vals_pick r ix
    have hl : us.length = ix.length := r.length.symm.trans hz
    refine wpAny_call (codeAny_mono (F.run X.A X.stack s1 H1 ⟨[], ks.zip us⟩ (pick ix us) (pick ix vs) Q (WE W σ) hr I1.env0 (hb s1 us hl) r2 q1) fun r' s' z => ?_)
    match r', z with
    | .error er, z => exact passAt tk σ pins _ _ er s' I1 z
    | .ok (.ret u), z => exact I1.after z
    | .ok .next, z => exact z.elim
    | .ok .brk, z => exact z.elim
    | .ok .cont, z => exact z.elim
  · refine s σ H ρ env sto _ hE hS ((hP.bind hS).imp fun v s1 H1 ρ1 x1 S1 P1 ys hys => ?_)
    obtain ⟨hz, P1⟩ := and_of (C := Post X.K _ H1 ρ1 (GV X.K Q)) P1 (fun z => z)
    have hz : v.length = ix.length := Nat.eq_of_beq_eq_true hz
    unfold ar at P1
    cases q : Nat.beq (pick ix v).length ps.length with
    | false => rw [q] at P1; exact P1.elim
    | true =>
      rw [q] at P1
      have r2 := hys.pick ix
      exact ⟨hys.length.symm.trans hz, by rw [← r2.length]; exact Nat.eq_of_beq_eq_true q, _, ρ1, s1, r2, S1, P1⟩
end

/-! ### a value that is a def, called without arguments -/
inductive FnTab (X : Cx) (k : Nat) : List (Nat × GC) → Prop
  | nil : FnTab X k []
  | cons {t : Nat} {run : GC} {f : Addr} {fd : FuncData} {y : Str} {l : List (Nat × GC)} (F : FOk X.prog X.w X.K X.mg X.base k f fd [] run) (hh : hofs[t]? = some y) (hn : PySem.W.nsIn X.K mainGlobals y = some (some (.ref f))) (hk : PySem.W.keepIn X.K (.ref f) = true) (hb : Binds X.K fd [] []) (r : FnTab X k l) : FnTab X k ((t, run) :: l)
theorem FnTab.find {X : Cx} {k : Nat} {t : Nat} {run : GC} : ∀ {l : List (Nat × GC)}, FnTab X k l → l.lookup t = some run → ∃ (f : Addr) (fd : FuncData) (y : Str), FOk X.prog X.w X.K X.mg X.base k f fd [] run ∧ hofs[t]? = some y ∧ PySem.W.nsIn X.K mainGlobals y = some (some (.ref f)) ∧ PySem.W.keepIn X.K (.ref f) = true ∧ Binds X.K fd [] []
  | _, .nil, h => by cases h
  | _, .cons (t := t') (run := run') (l := l) F hh hn hk hb r, h => by
    by_cases e : t = t'
    · subst e
      rw [List.lookup_cons_self] at h
      cases h
      exact ⟨_, _, _, F, hh, hn, hk, hb⟩
    · have e' : (t == t') = false := by simpa using e
      simp only [List.lookup, e'] at h
      exact r.find h
def mCallT (tab : List (Nat × GC)) (m : M) : M := fun env s => (m env s).bind fun v s1 => match v with
  | .fn t => match tab.lookup t with
    | some run => run [] s1
    | none => .bad
  | _ => .bad
section
variable {X : Cx} {W : WK} {k : Nat} {fe : Expr} {m : M} {pos : Pos}
theorem e_callT {tab : List (Nat × GC)} (T : FnTab X k tab) (hr : Room k X.A) (tk : Takes X W) (h : ME X W fe m) (hc : eval (.Call fe [] [] pos) X.env = (do callWith pos (← eval fe X.env) [] (backTo pos (starEach [] X.env)) (backToKw pos (keywordEach [] X.env))) := by rfl) : ME X W (.Call fe [] [] pos) (mCallT tab m) := by
  obtain ⟨t, q, s⟩ := h
  refine ⟨fun σ H Q => t σ H fun v H1 => ∃ f fd run, v = .ref f ∧ FOk X.prog X.w X.K X.mg X.base k f fd [] run ∧ PySem.W.keepIn X.K (.ref f) = true ∧ Binds X.K fd [] [] ∧ spF X.K 0 run [] H1 Q (WE W σ), ⟨fun pins st σ H Q I h => ?_⟩, fun σ H ρ env sto Q hE hS hP => ?_⟩
  · rw [hc]
    refine wpAny_bind (thn (q.run pins st σ H _ I h) ?_)
    intro u s1 z
    obtain ⟨v, H1, I1, r, f, fd, run, ev, F, hk, hb, q1⟩ := z
    subst ev
    cases r
    exact PySem.W.callWith_K0 I1.kIn hk (run_fnS (E := WE W) (us := []) (vs := []) F hr hb (passAt tk σ) I1 .nil q1)
  · refine s σ H ρ env sto _ hE hS ((hP.bind hS).imp fun v s1 H1 ρ1 x1 S1 P1 y hy => ?_)
    split at P1
    · rename_i t
      split at P1
      · rename_i run e
        obtain ⟨f, fd, z, F, h1, h2, h3, h4⟩ := T.find e
        obtain ⟨z', f', k1, k2, rfl⟩ := hy
        rw [h1] at k1; cases k1
        rw [h2] at k2; cases k2
        exact ⟨f, fd, run, rfl, F, h3, h4, rfl, [], ρ1, s1, rfl, S1, P1⟩
      · exact P1.elim
    · exact P1.elim
end

/-! ### isinstance of the caught one, with fields or without -/
theorem hu65 {A : Around} {k : Nat} (hr : Room k A) : A.units + 65 < cLine := by
  have := hr.un
  omega
section
variable {X : Cx} {W : WK} {a C : Addr} {oe : Obj} {d : Option Addr} {pn : List (Addr × Obj)} {c : Expr} {p p2 pos : Pos}
theorem cr_isR {cV : V} {cv : Value} {b : Bool} (Kk : OxK X.K) (A : OxA X.K C) (hz : Zc (.ref C) d oe) (hf : ∃ vs, oe.data = .fields vs) (hcv : ∀ u, RelV cV u → u = cv) (k : PySem.W.kitOne X.K (.ref C) cv = some b) :
    CallR (X.suite a ((a, oe) :: pn)) (.builtin "isinstance") (fun vs H Q => vs = [.ref a, cV] ∧ (∀ dx, d = some dx → ∃ fs, H dx = some (.xd fs)) ∧ Q (.bl b) H) := by
  intro pins s σ H vs us Q I r h
  obtain ⟨rfl, hd, q⟩ := h
  obtain ⟨u1, u2, rfl, r1, r2⟩ := vals2 r
  obtain rfl : u1 = Value.ref a := r1
  have e2 := hcv _ r2
  subst e2
  obtain ⟨hget, _⟩ := I.pin (a, oe) (List.mem_append_left _ List.mem_cons_self)
  obtain ⟨vs, hv⟩ := hf
  have J : ∃ od, PySem.W.InstAt s.heap a oe C od := by
    have nc : PySem.W.notCls oe := by unfold PySem.W.notCls; rw [hv] <;> rfl
    cases d with
    | none => exact ⟨none, hget, hz.1, nc, by rw [hz.2]; trivial⟩
    | some dx =>
      obtain ⟨fs, hx⟩ := hd dx rfl
      obtain ⟨mA, hns, _⟩ := (show ObjOk X.prog X.w H s.heap dx (.xd fs) from I.hok dx _ hx)
      obtain ⟨od, ho, _⟩ := lookIn_ns hns
      exact ⟨some od, hget, hz.1, nc, by rw [hz.2]; exact ho⟩
  obtain ⟨od, J⟩ := J
  have hcl : (PySem.W.clsIn X.K C).isSome = true := by
    obtain ⟨cd, hcd, _⟩ := PySem.W.any_some (show (PySem.W.clsIn X.K C).any (·.hasDict) = true from A.hd)
    rw [hcd]; rfl
  exact PySem.W.kia_one (PySem.W.kitx_exc hcl A.ga A.gg A.exC A.cl Kk.gs Kk.tk A.ob) I.kIn J k (fun z => nomatch z) fun t => ⟨.bl b, H, I.tok t, rfl, q⟩
/-- d: the dict that goes with the class -/
def mIsQ (a : Addr) (d : Option Addr) (i : Nat) (ob : Option Bool) : M := fun env s => match env[i]?, d with
  | some (some (.obj a')), none => if a' = a then (match ob with
    | some b => .ok (.bl b) s
    | none => .bad) else .bad
  | some (some (.cat a' d' _ _)), some dx => if a' = a ∧ d' = dx then (match ob with
    | some b => .ok (.bl b) s
    | none => .bad) else .bad
  | _, _ => .bad
theorem isQ_put {e : Exn} {i : Nat} {ob : Option Bool} {env : Env} {s : Sto} (hl : i < env.length) : mIsQ a d i ob (env.set i (some (caughtV a d e))) s = mIsD ob (env.set i none) s := by
  unfold mIsQ mIsD
  rw [List.getElem?_set_self hl]
  cases d <;> cases ob <;> simp [caughtV]
theorem e_isR {n : Str} {i : Nat} {tab : List (Str × Bool)} {cV : V} {cv : Value} {x : Str} (hn : PySem.W.nsIn X.K mainGlobals n = some (some (.ref C))) (Kk : OxK X.K) (T : IsTab X.K cv tab) (hz : Zc (.ref C) d oe) (hf : ∃ vs, oe.data = .fields vs)
    (gl : Gl (X.suite a ((a, oe) :: pn)) "isinstance") (hm : X.mg "isinstance" = none) (hc : PE (X.suite a ((a, oe) :: pn)) c (tC cV)) (hcv : ∀ u, RelV cV u → u = cv) (hN : X.N[i]? = some x) (hv : Vis X.env.scope x)
    (hd : (x == ("__debug__" : Str)) = false := by decide) (hcd : (x == ("__classdict__" : Str)) = false := by decide)
    (he : starEach [.Name x p2, c] X.env = (false, eval (.Name x p2) X.env) :: starEach [c] X.env := by rfl) (he2 : starEach [c] X.env = (false, eval c X.env) :: starEach [] X.env := by rfl) (hpl : (backTo pos (starEach [c] X.env)).any (·.1) = false := by rfl) :
    ME (X.suite a ((a, oe) :: pn)) W (.Call (.Name "isinstance" p) [.Name x p2, c] [] pos) (mIsQ a d i (tab.lookup n)) := by
  cases l : tab.lookup n with
  | none =>
    refine ⟨fun _ _ _ => False, ⟨fun _ _ _ _ _ _ h => h.elim⟩, fun σ H ρ env sto Q hE hS hP => ?_⟩
    unfold mIsQ at hP
    split at hP
    · split at hP <;> exact hP.elim
    · split at hP <;> exact hP.elim
    · exact hP.elim
  | some b =>
    obtain ⟨A, k⟩ := T n b l C hn
    refine ⟨_, pe_callB (cr_isR (d := d) Kk A hz hf hcv k) gl hm (by decide +kernel) (pa_cons (pe_var (i := i) hN hv hd hcd) (pa_cons hc pa_nil he2) he) (by decide) (by decide) he hpl, fun σ H ρ env sto Q hE hS hP => ?_⟩
    unfold mIsQ at hP
    split at hP
    · rename_i a' e
      split at hP
      · rename_i e2
        subst e2
        obtain ⟨v, h1, h2⟩ := hE.2 i _ e
        cases h2
        exact ⟨_, h1, rfl, (fun dx z => by cases z), hP H ρ .refl hS _ rfl⟩
      · exact hP.elim
    · rename_i a' d' ns xs dx e
      split at hP
      · rename_i e2
        obtain ⟨rfl, rfl⟩ := e2
        obtain ⟨v, h1, ys, rfl, ⟨k1, _, _⟩, _⟩ := hE.2 i _ e
        exact ⟨_, h1, rfl, (fun dx z => by cases z; exact ⟨_, k1⟩), hP H ρ .refl hS _ rfl⟩
      · exact hP.elim
    · exact hP.elim
end
end Mi

noncomputable section
namespace Mi
open PySem PySem.Spec PyProof.Rows L2

/-! ### a call in an empty store: arguments without handles, an answer without lists -/
mutual
def noBox : PV → Bool
  | .box _ => false
  | .tup xs => noBoxes xs
  | .lst xs => noBoxes xs
  | .fro xs => noBoxes xs
  | .exc _ _ xs => noBoxes xs
  | .cat _ _ _ xs => noBoxes xs
  | .non => true
  | .bl _ => true
  | .int _ => true
  | .str _ => true
  | .ty _ => true
  | .obj _ => true
  | .fn _ => true
def noBoxes : List PV → Bool
  | [] => true
  | x :: xs => bif noBox x then noBoxes xs else false
end
mutual
/-- flat values and tuples of them -/
def tupOnly : PV → Bool
  | .tup xs => tupsOnly xs
  | .non => true
  | .bl _ => true
  | .int _ => true
  | .str _ => true
  | .ty _ => true
  | .obj _ => false
  | .fn _ => true
  | .box _ => false
  | .lst _ => false
  | .fro _ => false
  | .exc _ _ _ => false
  | .cat _ _ _ _ => false
def tupsOnly : List PV → Bool
  | [] => true
  | x :: xs => bif tupOnly x then tupsOnly xs else false
end
theorem bif_and {a b : Bool} (h : (bif a then b else false) = true) : a = true ∧ b = true := by
  cases a with
  | true => exact ⟨rfl, h⟩
  | false => cases h
section
variable {K : PySem.W.Frag} {H : Hp} {b r : List Addr} {g : Addr}
mutual
theorem RV.clear : ∀ {p : PV} {v : V}, noBox p = true → RV K H ⟨b, r, g⟩ p v → RV K H ⟨[], r, g⟩ p v
  | .non, _, _, h => h
  | .bl _, _, _, h => h
  | .int _, _, _, h => h
  | .str _, _, _, h => h
  | .ty _, _, _, h => h
  | .obj _, _, _, h => h
  | .fn _, _, _, h => h
  | .box _, _, n, _ => by cases n
  | .cat a dx ns xs, _, n, h => by
    obtain ⟨ys, h1, ⟨k1, k2, k3⟩, h3⟩ := h
    exact ⟨ys, h1, ⟨k1, by simp, k3⟩, RVs.clear n h3⟩
  | .tup xs, _, n, h => by
    obtain ⟨a, ys, h1, h2, h3⟩ := h
    exact ⟨a, ys, h1, h2.imp (fun q => ⟨q.1, by simp, q.2.2⟩) id, RVs.clear n h3⟩
  | .lst xs, _, n, h => by
    obtain ⟨a, ys, h1, h2, h3⟩ := h
    exact ⟨a, ys, h1, ⟨h2.1, by simp, h2.2.2⟩, RVs.clear n h3⟩
  | .fro xs, _, n, h => by
    obtain ⟨a, ys, h1, h2, h3⟩ := h
    exact ⟨a, ys, h1, h2.imp (fun q => ⟨q.1, by simp, q.2.2⟩) id, RVs.clear n h3⟩
  | .exc C ns xs, _, n, h => by
    obtain ⟨a, ys, h1, ⟨q1, q2, C, hc, q3⟩, h3⟩ := h
    refine ⟨a, ys, h1, ⟨by simp, q2, C, hc, ?_⟩, RVs.clear n h3⟩
    rcases q3 with h | ⟨dx, dn, dm, h⟩
    · exact .inl h
    · exact .inr ⟨dx, by simp, dm, h⟩
theorem RVs.clear : ∀ {p : List PV} {v : List V}, noBoxes p = true → RVs K H ⟨b, r, g⟩ p v → RVs K H ⟨[], r, g⟩ p v
  | [], _, _, h => h
  | x :: xs, _, n, h => by
    obtain ⟨v, ws, h1, h2, h3⟩ := h
    obtain ⟨n1, n2⟩ := bif_and n
    exact ⟨v, ws, h1, RV.clear n1 h2, RVs.clear n2 h3⟩
end
mutual
/-- back: a tuple is none of the handles -/
theorem RV.back {ρ' : Rh} (hb : ∀ a ys, H a = some (.tup ys) → a ∉ b) (hr : ∀ a, a ∈ r → a ∈ ρ'.rs) : ∀ {p : PV} {v : V}, tupOnly p = true → RV K H ρ' p v → RV K H ⟨b, r, g⟩ p v
  | .non, _, _, h => h
  | .bl _, _, _, h => h
  | .int _, _, _, h => h
  | .str _, _, _, h => h
  | .ty _, _, _, h => h
  | .fn _, _, _, h => h
  | .obj _, _, n, _ => by cases n
  | .box _, _, n, _ => by cases n
  | .lst _, _, n, _ => by cases n
  | .fro _, _, n, _ => by cases n
  | .exc _ _ _, _, n, _ => by cases n
  | .cat _ _ _ _, _, n, _ => by cases n
  | .tup xs, _, n, h => by
    obtain ⟨a, ys, h1, h2, h3⟩ := h
    exact ⟨a, ys, h1, h2.imp (fun q => ⟨q.1, hb a ys q.1, fun z => q.2.2 (hr a z)⟩) id, RVs.back hb hr n h3⟩
theorem RVs.back {ρ' : Rh} (hb : ∀ a ys, H a = some (.tup ys) → a ∉ b) (hr : ∀ a, a ∈ r → a ∈ ρ'.rs) : ∀ {p : List PV} {v : List V}, tupsOnly p = true → RVs K H ρ' p v → RVs K H ⟨b, r, g⟩ p v
  | [], _, _, h => h
  | x :: xs, _, n, h => by
    obtain ⟨v, ws, h1, h2, h3⟩ := h
    obtain ⟨n1, n2⟩ := bif_and n
    exact ⟨v, ws, h1, RV.back hb hr n1 h2, RVs.back hb hr n2 h3⟩
end
end
def afresh (run : GC) : GC := fun vs s => bif noBoxes vs then (match run vs [] with
  | .ok v _ => bif tupOnly v then .ok v s else .bad
  | .ex e _ => bif tupsOnly (e.flds.map (·.2)) then .ex e s else .bad
  | .bad => .bad) else run vs s
section
variable {K : PySem.W.Frag} {H H' : Hp} {ρ ρ' : Rh} {sto : Sto}
theorem clr_ext (S : RSt K H ρ sto) (x : Ext ⟨[], ρ.rs, ρ.cg⟩ H ρ' H') : Ext ρ H ρ H' ∧ (∀ a ∈ ρ.bx, H' a = H a) := by
  have kept : ∀ a ∈ ρ.bx, ∃ o, H a = some o ∧ H' a = some o ∧ Mut (some o) := fun a ha => by
    obtain ⟨n, hn⟩ := List.mem_iff_getElem?.mp ha
    have hlt := S.lt hn
    obtain ⟨o, h1, h2⟩ := (S.at_ n a _ hn (List.getElem?_eq_getElem hlt)).some
    exact ⟨o, h1, x.keep a o h1 (by simp) (fun z => (S.rsv a z).2 ha), h2⟩
  refine ⟨⟨⟨⟨[], by simp, by simp⟩, rs_refl, fun a o h _ hr => x.keep a o h (by simp) hr, x.has, fun a o ha h => ?_⟩, rfl, fun a ha _ => x.res a ha (by simp)⟩, fun a ha => ?_⟩
  · obtain ⟨o', h1, h2, _⟩ := kept a ha
    rw [h] at h1; cases h1
    exact ⟨o, h2, alike_refl o⟩
  · obtain ⟨o', h1, h2, _⟩ := kept a ha
    rw [h1, h2]
theorem clr_notup (S : RSt K H ρ sto) (k : ∀ a ∈ ρ.bx, H' a = H a) {a : Addr} {o : HO} (h : H' a = some o) (ho : ¬ Mut (some o)) : a ∉ ρ.bx := fun ha => by
  obtain ⟨n, hn⟩ := List.mem_iff_getElem?.mp ha
  have hlt := S.lt hn
  obtain ⟨o', h1, h2⟩ := (S.at_ n a _ hn (List.getElem?_eq_getElem hlt)).some
  have q := (k a ha).symm.trans h
  rw [h1] at q; cases q
  exact ho h2
theorem fok_afresh {P : Program} {w : World} {mg : Str → Option Value} {base : Heap} {k : Nat} {f : Addr} {fd : FuncData} {ps : List Str} {run : GC} (F : FOk P w K mg base k f fd ps run) : FOk P w K mg base k f fd ps (afresh run) :=
  FnOk.imp F fun vs H Q E h => by
    obtain ⟨hl, args, ρ, sto, r, S, P1⟩ := h
    refine ⟨hl, ?_⟩
    cases hb : noBoxes args with
    | false =>
      unfold afresh at P1
      rw [hb] at P1
      exact ⟨args, ρ, sto, r, S, P1⟩
    | true =>
      unfold afresh at P1
      rw [hb] at P1
      dsimp only [cond] at P1
      refine ⟨args, ⟨[], ρ.rs, ρ.cg⟩, [], RVs.clear (b := ρ.bx) hb r, ⟨.nil, rfl, fun n a b e => by simp at e, fun a ha => ⟨(S.rsv a ha).1, by simp⟩, fun a ha => ⟨(S.tb a ha).1, by simp, (S.tb a ha).2.2⟩⟩, ?_⟩
      cases q : run args [] with
      | bad => rw [q] at P1; exact P1.elim
      | ok v s' =>
        rw [q] at P1
        obtain ⟨ht, P1⟩ := and_of (C := Post K E H ρ (GV K Q)) P1 (fun z => z)
        intro H' ρ' x _ z hz
        obtain ⟨x2, kk⟩ := clr_ext S x
        exact P1 H' ρ x2 (S.mono' x2 kk) z (RV.back (b := ρ.bx) (r := ρ.rs) (g := ρ.cg) (fun a ys h => clr_notup S kk h (fun z => z)) (fun a ha => by rw [x.rse]; exact ha) ht hz)
      | ex e s' =>
        rw [q] at P1
        obtain ⟨ht, P1⟩ := and_of (C := Post K E H ρ (GV K Q)) P1 (fun z => z)
        intro cls d H' ρ' x _ R
        obtain ⟨x2, kk⟩ := clr_ext S x
        refine P1 cls d H' ρ x2 (S.mono' x2 kk) ⟨R.1, ?_⟩
        have R2 := R.2
        cases d with
        | none => exact R2
        | some d =>
          obtain ⟨h0, fs, h1, h2, h3, h4, h5⟩ := R2
          exact ⟨h0, fs, h1, clr_notup S kk h1 (fun z => z), fun z => h3 (by rw [x.rse]; exact z), h4, RVs.back (b := ρ.bx) (r := ρ.rs) (g := ρ.cg) (fun a ys h => clr_notup S kk h (fun z => z)) (fun a ha => by rw [x.rse]; exact ha) ht h5⟩
end
end Mi

noncomputable section
namespace Mi
open PySem PySem.Spec PyProof.Rows L2

/-! ### what no run reaches: the meaning says nothing -/
def mBad : M := fun _ _ => .bad
def tBad : MT := fun _ _ => .bad
def sBad : MS := fun _ _ => .bad
section
variable {X : Cx} {W : WK} {e : Expr} {st : Stmt} {sts : List Stmt}
theorem e_bad : ME X W e mBad := ⟨fun _ _ _ => False, ⟨fun _ _ _ _ _ _ h => h.elim⟩, fun _ _ _ _ _ _ _ _ h => h.elim⟩
theorem t_bad : MTe X W e tBad := ⟨fun _ _ _ => False, ⟨fun _ _ _ _ _ _ h => h.elim⟩, fun _ _ _ _ _ _ _ _ h => h.elim⟩
theorem s_bad : MSt X W st sBad := ⟨fun _ _ _ => False, ⟨fun _ _ _ _ _ _ h => h.elim⟩, fun _ _ _ _ _ _ _ _ h => h.elim⟩
theorem ss_bad : MSs X W sts sBad := ⟨fun _ _ _ => False, ⟨fun _ _ _ _ _ _ h => h.elim⟩, fun _ _ _ _ _ _ _ _ h => h.elim⟩
end

/-! ### instances: fields -/
def luN {α : Type} : List (Nat × α) → Nat → Option α
  | [], _ => none
  | p :: r, n => bif Nat.beq p.1 n then some p.2 else luN r n
theorem luN_cons {α : Type} {p : Nat × α} {r : List (Nat × α)} {n : Nat} {a : α} (h : luN (p :: r) n = some a) : (p.1 = n ∧ p.2 = a) ∨ luN r n = some a := by
  unfold luN at h
  cases q : Nat.beq p.1 n with
  | true => rw [q] at h; cases h; exact .inl ⟨Nat.eq_of_beq_eq_true q, rfl⟩
  | false => rw [q] at h; exact .inr h
theorem slotOf_at {f : Str} : ∀ {sl : List Str} {xs : List (Option PV)} {i : Nat}, sl.Nodup → sl[i]? = some f → slotOf sl xs f = (xs[i]?).join
  | [], _, _, _, h => by simp at h
  | g :: gs, [], i, _, _ => by simp [slotOf]
  | g :: gs, x :: xs, 0, _, h => by
    simp at h
    subst h
    simp [slotOf]
  | g :: gs, x :: xs, i + 1, nd, h => by
    have hm : f ∈ gs := List.mem_of_getElem? (by simpa using h)
    have ne : g ≠ f := fun q => (List.nodup_cons.mp nd).1 (q ▸ hm)
    have ih := slotOf_at (xs := xs) (List.nodup_cons.mp nd).2 (show gs[i]? = some f by simpa using h)
    unfold slotOf
    rw [if_neg ne, ih]
    simp
theorem slotOf_no {f : Str} : ∀ {sl : List Str} {xs : List (Option PV)}, f ∉ sl → slotOf sl xs f = none
  | [], _, _ => by simp [slotOf]
  | g :: gs, [], _ => by simp [slotOf]
  | g :: gs, x :: xs, h => by
    unfold slotOf
    have ne : g ≠ f := fun q => h (by rw [← q]; exact List.mem_cons_self)
    rw [if_neg ne]
    exact slotOf_no fun z => h (List.mem_cons_of_mem _ z)
theorem slotOf_set {f g : Str} {v : PV} : ∀ {sl : List Str} {xs : List (Option PV)} {i : Nat}, sl.Nodup → xs.length = sl.length → sl[i]? = some f → slotOf sl (xs.set i (some v)) g = if g = f then some v else slotOf sl xs g
  | [], _, _, _, _, h => by simp at h
  | a :: sl, [], _, _, hl, _ => by simp at hl
  | a :: sl, x :: xs, 0, nd, hl, h => by
    simp at h
    subst h
    by_cases q : g = a
    · subst q; simp [slotOf]
    · rw [if_neg q]
      have q' : ¬ a = g := fun z => q z.symm
      simp [slotOf, q']
  | a :: sl, x :: xs, i + 1, nd, hl, h => by
    have hm : f ∈ sl := List.mem_of_getElem? (by simpa using h)
    have ne : a ≠ f := fun q => (List.nodup_cons.mp nd).1 (q ▸ hm)
    have ih := slotOf_set (g := g) (v := v) (xs := xs) (List.nodup_cons.mp nd).2 (by simpa using hl) (show sl[i]? = some f by simpa using h)
    by_cases q : a = g
    · subst q
      rw [if_neg ne]
      simp [slotOf]
    · have e : slotOf (a :: sl) ((x :: xs).set (i + 1) (some v)) g = slotOf sl (xs.set i (some v)) g := by simp [slotOf, q]
      have e2 : slotOf (a :: sl) (x :: xs) g = slotOf sl xs g := by simp [slotOf, q]
      rw [e, e2]
      exact ih
theorem cntS_set {v : PV} : ∀ {xs : List (Option PV)} {i : Nat} {x : Option PV}, xs[i]? = some x → cntS (xs.set i (some v)) = bif x.isSome then cntS xs else cntS xs + 1
  | [], _, _, h => by simp at h
  | y :: xs, 0, x, h => by
    simp at h
    subst h
    cases y <;> rfl
  | y :: xs, i + 1, x, h => by
    have ih := cntS_set (v := v) (xs := xs) (i := i) (x := x) (by simpa using h)
    cases y with
    | none => show cntS (xs.set i (some v)) = _; rw [ih]; rfl
    | some z =>
      show cntS (xs.set i (some v)) + 1 = _
      rw [ih]
      cases x <;> rfl
theorem cntS_le : ∀ xs : List (Option PV), cntS xs ≤ xs.length
  | [] => Nat.le_refl _
  | none :: xs => Nat.le_succ_of_le (cntS_le xs)
  | some _ :: xs => Nat.succ_le_succ (cntS_le xs)
theorem putF_same {f : Str} {v w : V} : ∀ {fs : List (Str × V)}, fs.lookup f = some w → (L2.putF f v fs).length = fs.length
  | [], h => by cases h
  | (k, x) :: r, h => by
    show (if k = f then (k, v) :: r else (k, x) :: L2.putF f v r).length = _
    by_cases q : k = f
    · rw [if_pos q]; rfl
    · rw [if_neg q]
      have q' : (f == k) = false := by simpa using fun z => q (Eq.symm z)
      simp only [List.lookup, q'] at h
      rw [List.length_cons, List.length_cons, putF_same h]
/-- where the classes of this text have the field f -/
def AtTab (K : PySem.W.Frag) (f : Str) (tab : List (Nat × Nat)) : Prop := ∀ c i, luN tab c = some i → ∃ nm sl C, clsTab[c]? = some (nm, sl) ∧ PySem.W.nsIn K mainGlobals nm = some (some (.ref C)) ∧ Cls K C ∧ NoAttr K C f ∧ sl[i]? = some f
theorem AtTab.nil {K : PySem.W.Frag} {f : Str} : AtTab K f [] := fun _ _ h => by cases h
theorem AtTab.cons {K : PySem.W.Frag} {f : Str} {c i : Nat} {tab : List (Nat × Nat)} {nm : Str} {sl : List Str} {C : Addr} (h1 : clsTab[c]? = some (nm, sl)) (h2 : PySem.W.nsIn K mainGlobals nm = some (some (.ref C))) (h3 : Cls K C) (h4 : NoAttr K C f) (h5 : sl[i]? = some f) (t : AtTab K f tab) : AtTab K f ((c, i) :: tab) := fun c' i' h => by
  rcases luN_cons h with ⟨e1, e2⟩ | h
  · cases e1; cases e2
    exact ⟨nm, sl, C, h1, h2, h3, h4, h5⟩
  · exact t c' i' h
/-- the instance that the handle holds -/
def insOf (s : Sto) : PV → Option (Nat × Nat × List (Option PV))
  | .box n => match nthR s n with
    | some (.i c xs) => some (n, c, xs)
    | _ => none
  | _ => none
section
variable {K : PySem.W.Frag} {H : Hp} {ρ : Rh} {sto : Sto}
theorem insOf_ok (S : RSt K H ρ sto) {x : PV} {v : V} {n c : Nat} {xs : List (Option PV)} (r : RV K H ρ x v) (h : insOf sto x = some (n, c, xs)) :
    ∃ a nm sl C dx fs, x = .box n ∧ v = .ref a ∧ ρ.bx[n]? = some a ∧ H a = some (.ins C dx fs) ∧ (clsTab[c]? = some (nm, sl) ∧ PySem.W.nsIn K mainGlobals nm = some (some (.ref C)) ∧ fs.length ≤ cntS xs ∧ xs.length = sl.length) ∧ ∀ f, RO K H ρ (slotOf sl xs f) (fs.lookup f) := by
  cases x with
  | box m =>
    obtain ⟨a, rfl, ha⟩ := r
    have h : (match nthR sto m with
      | some (.i c xs) => some (m, c, xs)
      | _ => none) = some (n, c, xs) := h
    split at h
    · rename_i c' xs' e
      cases h
      rw [nthR_eq] at e
      obtain ⟨nm, sl, C, dx, fs, h1, h2, h3⟩ := S.at_ n a _ ha e
      exact ⟨a, nm, sl, C, dx, fs, rfl, rfl, ha, h1, h2, h3⟩
    · cases h
  | _ => cases h
theorem RO.some_of {p : PV} {o : Option V} (h : RO K H ρ (some p) o) : ∃ v, o = some v ∧ RV K H ρ p v := by
  cases o with
  | none => exact h.elim
  | some v =>
    obtain ⟨w, ws, e, hw, _⟩ := (show RVs K H ρ [p] [v] from h)
    cases e
    exact ⟨v, rfl, hw⟩
theorem RO.none_of {o : Option V} (h : RO K H ρ none o) : o = none := by
  cases o with
  | none => rfl
  | some v => exact h.elim
end
def gAt (tab : List (Nat × Nat)) : PV → Sto → R PV := fun o s => match insOf s o with
  | some (_, c, xs) => match luN tab c with
    | some i => match nthR xs i with
      | some (some v) => .ok v s
      | _ => .bad
    | none => .bad
  | none => .bad
def mAt (tab : List (Nat × Nat)) (m : M) : M := fun env s => (m env s).bind (gAt tab)
section
variable {X : Cx} {W : WK} {e o value : Expr} {f : Str} {m mo mv : M} {pos pos' p : Pos} {tab : List (Nat × Nat)}
/-- e.f of an instance -/
theorem e_at (T : AtTab X.K f tab) (ha : ME X W e m) (hb : attributeBase e f X.env (eval e X.env) = eval e X.env := by rfl) : ME X W (.Attribute e f pos) (mAt tab m) := by
  obtain ⟨t, q, s⟩ := ha
  refine ⟨_, pe_fld q hb, fun σ H ρ env sto Q hE hS hP => ?_⟩
  refine s σ H ρ env sto _ hE hS ((hP.bind hS).imp fun v s1 H1 ρ1 x1 S1 P1 y hy => ?_)
  unfold gAt at P1
  split at P1
  · rename_i n c xs e1
    split at P1
    · rename_i i e2
      split at P1
      · rename_i w e3
        obtain ⟨a, nm, sl, C, dx, fs, rfl, rfl, ha, h1, ⟨h2, h3, _, _⟩, h4⟩ := insOf_ok S1 hy e1
        obtain ⟨nm', sl', C', k1, k2, k3, k4, k5⟩ := T c i e2
        rw [h2] at k1; cases k1
        rw [h3] at k2; cases k2
        have q1 := h4 f
        rw [slotOf_at (clsTab_ok _ _ _ h2).1 k5, ← nthR_eq, e3] at q1
        obtain ⟨u, hu, ru⟩ := RO.some_of (p := w) q1
        exact ⟨a, C, dx, fs, u, rfl, h1, k3, k4, hu, now S1 P1 ru⟩
      · exact P1.elim
    · exact P1.elim
  · exact P1.elim
/-- the store behind o.f = v -/
def gAtPut (tab : List (Nat × Nat)) (o v : PV) (s : Sto) : Option Sto := match insOf s o with
  | some (n, c, xs) => match luN tab c with
    | some i => some (setR s n (.i c (setR xs i (some v))))
    | none => none
  | none => none
theorem at_put {K : PySem.W.Frag} {H : Hp} {ρ : Rh} {sto s' : Sto} {x z : PV} {y w : V} (S : RSt K H ρ sto) (T : AtTab K f tab) (rx : RV K H ρ x y) (rz : RV K H ρ z w) (h : gAtPut tab x z sto = some s') :
    ∃ a C dx fs, y = .ref a ∧ H a = some (.ins C dx fs) ∧ Cls K C ∧ NoAttr K C f ∧ fs.length < 1000 ∧ Ext ρ H ρ (upd H a (.ins C dx (L2.putF f w fs))) ∧ RSt K (upd H a (.ins C dx (L2.putF f w fs))) ρ s' := by
  unfold gAtPut at h
  split at h
  · rename_i n c xs e1
    split at h
    · rename_i i e2
      cases h
      obtain ⟨a, nm, sl, C, dx, fs, rfl, rfl, ha, h1, ⟨h2, h3, h5, h6⟩, h4⟩ := insOf_ok S rx e1
      obtain ⟨nm', sl', C', k1, k2, k3, k4, k5⟩ := T c i e2
      rw [h2] at k1; cases k1
      rw [h3] at k2; cases k2
      have nd := (clsTab_ok _ _ _ h2).1
      have lz := (clsTab_ok _ _ _ h2).2
      have hlt : fs.length < 1000 := by
        have := cntS_le xs
        omega
      have hi : i < xs.length := by rw [h6]; exact (List.getElem?_eq_some_iff.mp k5).1
      rw [setR_eq, setR_eq]
      obtain ⟨x3, S3⟩ := S.putB (b := .i c (xs.set i (some z))) (o := .ins C dx (L2.putF f w fs)) ha (S.lt ha) (fun u q => by rw [h1] at q; cases q; exact ⟨_, rfl⟩) fun H1 x e => by
        refine ⟨nm, sl, C, dx, _, e, ⟨h2, h3, ?_, by rw [List.length_set]; exact h6⟩, fun g => ?_⟩
        · have q0 := h4 f
          rw [slotOf_at nd k5] at q0
          rw [cntS_set (List.getElem?_eq_getElem hi)]
          rw [List.getElem?_eq_getElem hi] at q0
          cases q : xs[i] with
          | none =>
            rw [q] at q0
            have := length_putF f w fs
            show _ ≤ cntS xs + 1
            omega
          | some u =>
            rw [q] at q0
            obtain ⟨u', hu, _⟩ := RO.some_of (p := u) q0
            rw [putF_same hu]
            exact h5
        · rw [slotOf_set nd h6 k5, lookup_putF]
          by_cases q : g = f
          · rw [if_pos q, if_pos q]
            exact RVs.cons (rz.mono x) .nil
          · rw [if_neg q, if_neg q]
            exact (h4 g).imp fun r => r.mono x
      exact ⟨a, C, dx, fs, rfl, h1, k3, k4, hlt, x3, S3⟩
    · cases h
  · cases h
/-- o.f = value -/
def sAtPut (tab : List (Nat × Nat)) (mo mv : M) : MS := fun env s => (mv env s).fl env fun v s1 => (mo env s1).fl env fun o s2 => match gAtPut tab o v s2 with
  | some s3 => .nx env s3
  | none => .bad
theorem s_at (T : AtTab X.K f tab) (ho : ME X W o mo) (hv : ME X W value mv) (hs : swapsWith value (some (.Attribute o f pos')) pos.line X.env = pure false := by rfl) : MSt X W (.Assign [.Attribute o f pos'] value pos) (sAtPut tab mo mv) := by
  obtain ⟨t, q, s⟩ := ho
  obtain ⟨tv, qv, sv⟩ := hv
  refine ⟨_, ps_fld q qv hs, fun D σ H ρ env sto h1 h2 h3 => ?_⟩
  refine sv σ H ρ env sto _ h1 h2 ((FPost.bind h1 h2 h3).imp fun v s1 H1 ρ1 x1 S1 P1 y hy => ?_)
  have E1 := h1.mono x1.toExtW
  refine s σ H1 ρ1 env s1 _ E1 S1 ((FPost.bind E1 S1 P1).imp fun ov s2 H2 ρ2 x2 S2 P2 x hx => ?_)
  have E2 := E1.mono x2.toExtW
  split at P2
  · rename_i s3 e1
    obtain ⟨a, C, dx, fs, rfl, k1, k2, k3, k4, x3, S3⟩ := at_put S2 T hx (hy.mono x2.toExtW) e1
    exact ⟨a, C, dx, fs, rfl, k1, k2, k3, k4, P2 σ _ ρ2 x3 S3 (E2.mono x3.toExtW)⟩
  · exact P2.elim
/-- o.f as one of several targets -/
def gtAt (tab : List (Nat × Nat)) (mo : M) : MG := fun v env s => ((mo env s).noex).bind fun o s1 => match gAtPut tab o v s1 with
  | some s2 => .ok env s2
  | none => .bad
theorem pg_at {to : TE} (ho : PE X o to) (ha : ∀ v, assign (.Attribute o f pos) X.env v = (do
      let ov ← holding [v] (eval o X.env)
      standAt pos.atName
      holding [v, ov] (setAttr ov f v)
      release [v, ov] []) := by intro _; rfl) : PG X (.Attribute o f pos) (fun v σ H Q => to σ H fun x H1 => ∃ a C dx fs, x = .ref a ∧ H1 a = some (.ins C dx fs) ∧ Cls X.K C ∧ NoAttr X.K C f ∧ fs.length < 1000 ∧ Q σ (upd H1 a (.ins C dx (L2.putF f v fs)))) := by
  refine ⟨fun pins s σ H v u Q I r h => ?_⟩
  rw [ha]
  refine wpAny_bind (wpAny_holding (thn (ho.run pins s σ H _ I h) fun ov s1 ⟨x, H1, I1, r1, a, C, dx, fs, ex, ea, c, n, l, q1⟩ => ?_))
  subst ex
  obtain rfl : ov = Value.ref a := r1
  refine wpAny_bind (wpAny_standAt (wpAny_bind (wpAny_holding (setattr_ok I1 ea c n l r fun s3 I3 => ?_))))
  exact wpAny_release ⟨σ, _, I3, q1⟩
theorem g_at (T : AtTab X.K f tab) (ho : ME X W o mo) (ha : ∀ v, assign (.Attribute o f pos) X.env v = (do
      let ov ← holding [v] (eval o X.env)
      standAt pos.atName
      holding [v, ov] (setAttr ov f v)
      release [v, ov] []) := by exact fun _ => rfl) : MGt X W (.Attribute o f pos) (gtAt tab mo) [] := by
  obtain ⟨to, po, so⟩ := ho
  refine ⟨_, pg_at po ha, fun v x σ H ρ env sto Q h1 h2 h3 h4 => ?_⟩
  refine so σ H ρ env sto _ h1 h2 (Post.unex ((Post.bind h2 h4).imp fun ov s1 H1 ρ1 x1 S1 P1 y hy => ?_))
  split at P1
  · rename_i s3 e1
    obtain ⟨a, C, dx, fs, rfl, k1, k2, k3, k4, x3, S3⟩ := at_put S1 T hy (h3.mono x1.toExtW) e1
    exact ⟨a, C, dx, fs, rfl, k1, k2, k3, k4, P1 _ ρ1 x3 S3 σ ((h1.mono x1.toExtW).mono x3.toExtW) ⟨rfl, fun _ _ => rfl⟩⟩
  · exact P1.elim
end

/-! ### methods -/
def MeTab (P : Program) (w : World) (K : PySem.W.Frag) (mg : Str → Option Value) (base : Heap) (k n : Nat) (m : Str) (tab : List (Nat × GC)) : Prop := ∀ c run, luN tab c = some run → ∃ nm sl C f fd ps, clsTab[c]? = some (nm, sl) ∧ PySem.W.nsIn K mainGlobals nm = some (some (.ref C)) ∧ m ∉ sl ∧ Cls K C ∧ Meth K C m f ∧ FOk P w K mg base k f fd ps run ∧ Binds K fd ps [] ∧ ps.length = n
section
variable {P : Program} {w : World} {K : PySem.W.Frag} {mg : Str → Option Value} {base : Heap} {k n : Nat} {m : Str}
theorem MeTab.nil : MeTab P w K mg base k n m [] := fun _ _ h => by cases h
theorem MeTab.cons {c : Nat} {run : GC} {tab : List (Nat × GC)} {nm : Str} {sl : List Str} {C f : Addr} {fd : FuncData} {ps : List Str} (h1 : clsTab[c]? = some (nm, sl)) (h2 : PySem.W.nsIn K mainGlobals nm = some (some (.ref C))) (h0 : sl.contains m = false) (h3 : Cls K C) (h4 : Meth K C m f)
    (h5 : FOk P w K mg base k f fd ps run) (h6 : Binds K fd ps []) (h7 : ps.length = n) (t : MeTab P w K mg base k n m tab) : MeTab P w K mg base k n m ((c, run) :: tab) := fun c' r' h => by
  rcases luN_cons h with ⟨e1, e2⟩ | h
  · cases e1; cases e2
    exact ⟨nm, sl, C, f, fd, ps, h1, h2, (fun z => by rw [List.contains_iff_mem.mpr z] at h0; cases h0), h3, h4, h5, h6, h7⟩
  · exact t c' r' h
end
/-- o.m(..): the class decides -/
def mMeth (n : Nat) (tab : List (Nat × GC)) (mo : M) (ms : MA) : M := fun env s => (mo env s).bind fun o s1 => match insOf s1 o with
  | some (_, c, _) => match luN tab c with
    | some run => (ms env s1).bind fun vs s2 => bif Nat.beq (vs.length + 1) n then run (o :: vs) s2 else .bad
    | none => .bad
  | none => .bad
section
variable {X : Cx} {W : WK} {k n : Nat} {m : Str} {o e : Expr} {es : List Expr} {mo : M} {ms : MA} {apos pos : Pos} {tab : List (Nat × GC)}
def tMethX (X : Cx) (W : WK) (k n : Nat) (m : Str) (ta : TE) (t : TA) : TE := fun σ H Q => ta σ H fun x H1 => ∃ a C dx fs f fd ps run, x = .ref a ∧ H1 a = some (.ins C dx fs) ∧ fs.lookup m = none ∧ Cls X.K C ∧ Meth X.K C m f ∧ FOk X.prog X.w X.K X.mg X.base k f fd ps run ∧ Binds X.K fd ps [] ∧
  t σ H1 fun vs H2 => spF X.K ps.length run (x :: vs) H2 Q (WE W σ)
theorem pe_methX {pl : Sem Bool} {ta : TE} {t : TA} (he : PE X o ta) (hr : Room k X.A) (tk : Takes X W) (ha : PA X (e :: es) t)
    (hst : starEach (e :: es) X.env = (false, eval e X.env) :: starEach es X.env := by rfl) (hpl : (backTo pos (starEach es X.env)).any (·.1) = false := by rfl)
    (ht : eval (.Call (.Attribute o m apos) (e :: es) [] pos) X.env = (do
      let ov ← eval o X.env
      standAt apos.atName
      let (f, first) ← holding [ov] (getMethod ov m pl)
      callWith pos f first (backTo pos (starEach (e :: es) X.env)) (backToKw pos (keywordEach [] X.env))) := by rfl) :
    PE X (.Call (.Attribute o m apos) (e :: es) [] pos) (tMethX X W k n m ta t) := by
  refine ⟨fun pins s σ H Q I h => ?_⟩
  refine PySem.W.methodCall_KW (pl := pl) (thn (he.run pins s σ H _ I h) fun u s1 ⟨x, H1, I1, rx, a, C, dx, fs, f, fd, ps, run, ex, ea, l, c, hm, F, hb, q⟩ => ?_) ht
  subst ex
  obtain rfl : u = Value.ref a := rx
  refine getmeth_ok I1 ea c hm l ?_
  refine PySem.W.callWith_K (first := [.ref a]) (h₀ := X.base) I.ok.mod.kin hm.kp (thn (ha.run pos pins s1 σ H1 _ I1 q) fun us s2 ⟨vs, H2, I2, r, q2⟩ => ⟨I2.kIn, ?_⟩) hst hpl
  exact run_fnS (E := WE W) (us := .ref a :: us) (vs := .ref a :: vs) F hr hb (passAt tk σ) I2 (.cons rfl r) q2
theorem pe_methX0 {pl : Sem Bool} {ta : TE} (he : PE X o ta) (hr : Room k X.A) (tk : Takes X W)
    (ht : eval (.Call (.Attribute o m apos) [] [] pos) X.env = (do
      let ov ← eval o X.env
      standAt apos.atName
      let (f, first) ← holding [ov] (getMethod ov m pl)
      callWith pos f first (backTo pos (starEach [] X.env)) (backToKw pos (keywordEach [] X.env))) := by rfl) :
    PE X (.Call (.Attribute o m apos) [] [] pos) (tMethX X W k n m ta tNil) := by
  refine ⟨fun pins s σ H Q I h => ?_⟩
  refine PySem.W.methodCall_KW (pl := pl) (thn (he.run pins s σ H _ I h) fun u s1 ⟨x, H1, I1, rx, a, C, dx, fs, f, fd, ps, run, ex, ea, l, c, hm, F, hb, q⟩ => ?_) ht
  subst ex
  obtain rfl : u = Value.ref a := rx
  refine getmeth_ok I1 ea c hm l ?_
  exact PySem.W.callWith_K0 (first := [.ref a]) I1.kIn hm.kp (run_fnS (E := WE W) (us := [.ref a]) (vs := [.ref a]) F hr hb (passAt tk σ) I1 (.cons rfl .nil) q)
theorem se_meth {ta : TE} {t : TA} (T : MeTab X.prog X.w X.K X.mg X.base k n m tab) (so : SE X.K W ta mo) (ss : SA X.K W t ms) : SE X.K W (tMethX X W k n m ta t) (mMeth n tab mo ms) := by
  intro σ H ρ env sto Q hE hS hP
  refine so σ H ρ env sto _ hE hS ((hP.bind hS).imp fun v s1 H1 ρ1 x1 S1 P1 y hy => ?_)
  split at P1
  · rename_i nn c xs e1
    split at P1
    · rename_i run e2
      obtain ⟨a, nm, sl, C, dx, fs, rfl, rfl, ha, h1, ⟨h2, h3, _, _⟩, h4⟩ := insOf_ok S1 hy e1
      obtain ⟨nm', sl', C', f, fd, ps, k1, k2, k0, k3, k4, k5, k6, k7⟩ := T c run e2
      rw [h2] at k1; cases k1
      rw [h3] at k2; cases k2
      have q1 := h4 m
      rw [slotOf_no k0] at q1
      refine ⟨a, C, dx, fs, f, fd, ps, run, rfl, h1, RO.none_of q1, k3, k4, k5, k6, ?_⟩
      refine ss σ H1 ρ1 env s1 _ (hE.mono x1.toExtW) S1 ((P1.bind S1).imp fun vs s2 H2 ρ2 x2 S2 P2 ys hys => ?_)
      obtain ⟨hz, P2⟩ := and_of (C := Post X.K _ H2 ρ2 (GV X.K Q)) P2 (fun z => z)
      have hz : vs.length + 1 = n := Nat.eq_of_beq_eq_true hz
      refine ⟨?_, _, ρ2, s2, .cons (hy.mono x2.toExtW) hys, S2, P2⟩
      rw [List.length_cons, ← hys.length, hz, k7]
    · exact P1.elim
  · exact P1.elim
theorem e_meth {pl : Sem Bool} (T : MeTab X.prog X.w X.K X.mg X.base k n m tab) (hr : Room k X.A) (tk : Takes X W) (ho : ME X W o mo) (ha : MEs X W (e :: es) ms)
    (hst : starEach (e :: es) X.env = (false, eval e X.env) :: starEach es X.env := by rfl) (hpl : (backTo pos (starEach es X.env)).any (·.1) = false := by rfl)
    (ht : eval (.Call (.Attribute o m apos) (e :: es) [] pos) X.env = (do
      let ov ← eval o X.env
      standAt apos.atName
      let (f, first) ← holding [ov] (getMethod ov m pl)
      callWith pos f first (backTo pos (starEach (e :: es) X.env)) (backToKw pos (keywordEach [] X.env))) := by rfl) :
    ME X W (.Call (.Attribute o m apos) (e :: es) [] pos) (mMeth n tab mo ms) := by
  obtain ⟨to, po, so⟩ := ho
  obtain ⟨t, p, s⟩ := ha
  exact ⟨_, pe_methX (n := n) po hr tk p hst hpl ht, se_meth T so s⟩
theorem e_meth0 {pl : Sem Bool} (T : MeTab X.prog X.w X.K X.mg X.base k n m tab) (hr : Room k X.A) (tk : Takes X W) (ho : ME X W o mo)
    (ht : eval (.Call (.Attribute o m apos) [] [] pos) X.env = (do
      let ov ← eval o X.env
      standAt apos.atName
      let (f, first) ← holding [ov] (getMethod ov m pl)
      callWith pos f first (backTo pos (starEach [] X.env)) (backToKw pos (keywordEach [] X.env))) := by rfl) :
    ME X W (.Call (.Attribute o m apos) [] [] pos) (mMeth n tab mo mNil) := by
  obtain ⟨to, po, so⟩ := ho
  exact ⟨_, pe_methX0 (n := n) po hr tk ht, se_meth T so (fun _ H ρ _ _ _ _ hS hP => hP H ρ .refl hS _ rfl)⟩
end

/-! ### C(..) -/
structure MkTab (P : Program) (w : World) (K : PySem.W.Frag) (mg : Str → Option Value) (base : Heap) (k n : Nat) (x : Str) (c z : Nat) (run : GC) where
  sl : List Str
  C : Addr
  f : Addr
  fd : FuncData
  ps : List Str
  cl : clsTab[c]? = some (x, sl)
  ns : PySem.W.nsIn K mainGlobals x = some (some (.ref C))
  M : Mk K C f
  F : FOk P w K mg base k f fd ps run
  b : Binds K fd ps []
  len : ps.length = n
  z : sl.length = z
  m : mg x = some (.ref C)
def noneS : Nat → List (Option PV)
  | 0 => []
  | n + 1 => none :: noneS n
theorem noneS_len : ∀ n, (noneS n).length = n
  | 0 => rfl
  | n + 1 => by simp [noneS, noneS_len n]
theorem slotOf_none (f : Str) : ∀ (sl : List Str) (n : Nat), slotOf sl (noneS n) f = none
  | [], n => by cases n <;> rfl
  | g :: gs, 0 => rfl
  | g :: gs, n + 1 => by
    unfold noneS slotOf
    rw [slotOf_none f gs n]
    split <;> rfl
theorem cntS_none : ∀ n, cntS (noneS n) = 0
  | 0 => rfl
  | n + 1 => cntS_none n
def gMake (c z n : Nat) (run : GC) : GC := fun vs s => bif Nat.beq (vs.length + 1) n then (match run (.box s.length :: vs) (s ++ [.i c (noneS z)]) with
  | .ok .non s2 => .ok (.box s.length) s2
  | .ok _ _ => .bad
  | .ex e s2 => .ex e s2
  | .bad => .bad) else .bad
section
variable {X : Cx} {W : WK} {k n c z : Nat} {x : Str} {e : Expr} {es : List Expr} {ms : MA} {p pos : Pos} {run : GC}
theorem run_makeX {pins : List (Addr × Obj)} {σ : L2.St} {H : Hp} {s : Shared} {Q : VK} {us : List Value} {vs : List V} (T : MkTab X.prog X.w X.K X.mg X.base k n x c z run) (hr : Room (k + 1) X.A) (tk : Takes X W)
    (I : Inv X pins σ H s) (r : Vals vs us)
    (h : ∀ x dx, H x = none → H dx = none → dx ≠ x → spF X.K T.ps.length run (.ref x :: vs) (upd (upd H dx (.own x)) x (.ins T.C dx [])) (fun v H2 => v = .non ∧ Q (.ref x) H2) (WE W σ)) :
    wpAny (model X.prog X.w) X.A (call (.ref T.C) us) (EP X pins σ Q) X.xe s := by
  have hq := h (s.heap.objs.size + 1) s.heap.objs.size (I.hok.fresh (Nat.le_succ _)) (I.hok.fresh (Nat.le_refl _)) (Nat.ne_of_lt (Nat.lt_succ_self _))
  have I2 := Inv.made (C := T.C) I
  have r2 : Vals (V.ref (s.heap.objs.size + 1) :: vs) (Value.ref (s.heap.objs.size + 1) :: us) := .cons rfl r
  have hl : (Value.ref (s.heap.objs.size + 1) :: us).length = T.ps.length := by
    have e := r2.length
    rw [T.F.len _ _ _ _ hq] at e
    exact e.symm
  have b := T.b { s with heap := (s.heap.push PySem.W.emptyDict).push (PySem.W.instObj T.C s.heap.objs.size) } (Value.ref (s.heap.objs.size + 1) :: us) I2.kIn (by rw [List.append_nil]; exact hl)
  rw [List.append_nil] at b
  refine wpAny_call (make_map (f := T.f) I.kIn T.M.makes T.M.init (beq_iff_eq.mp T.M.fn) (codeAny_mono (T.F.run _ X.stack _ _ ⟨Value.ref (s.heap.objs.size + 1) :: us, []⟩ (Value.ref (s.heap.objs.size + 1) :: us) _ _ (WE W σ) (hr.make T.C us [])
    (I2.env0.make T.C us []) b r2 hq) fun r s' hq' => ?_))
  cases r with
  | error e => exact passAt tk σ pins _ _ e s' I2 hq'
  | ok fl =>
    cases fl with
    | ret u =>
      obtain ⟨v, H', I3, rv, ev, q3⟩ := I2.after hq'
      subst ev
      exact ⟨rv, ⟨V.ref (s.heap.objs.size + 1), H', I3, rfl, q3⟩⟩
    | next => exact False.elim hq'
    | brk => exact False.elim hq'
    | cont => exact False.elim hq'
theorem make_ok {H1 : Hp} {ρ1 : Rh} {s1 : Sto} {Q : VK} {σ : L2.St} {vs : List PV} {ys : List V} (T : MkTab X.prog X.w X.K X.mg X.base k n x c z run) (S1 : RSt X.K H1 ρ1 s1) (hys : RVs X.K H1 ρ1 vs ys) (P1 : Post X.K (fun c d h => W c d σ h) H1 ρ1 (GV X.K Q) (gMake c z n run vs s1)) :
    ∀ x dx, H1 x = none → H1 dx = none → dx ≠ x → spF X.K T.ps.length run (.ref x :: ys) (upd (upd H1 dx (.own x)) x (.ins T.C dx [])) (fun v H2 => v = .non ∧ Q (.ref x) H2) (WE W σ) := by
  intro a dx ha hd hne
  unfold gMake at P1
  obtain ⟨hz, P1⟩ := and_of (C := Post X.K _ H1 ρ1 (GV X.K Q)) P1 (fun z => z)
  have hz : vs.length + 1 = n := Nat.eq_of_beq_eq_true hz
  have x1 := S1.ext (o := .own a) hd
  have S2 := S1.new (o := .own a) hd
  have ha' : (upd H1 dx (.own a)) a = none := by rw [upd_ne (fun q => hne q.symm)]; exact ha
  obtain ⟨x2, S3⟩ := S2.newBx (b := .i c (noneS z)) (o := .ins T.C dx []) ha' fun H2 _ e => ⟨x, T.sl, T.C, dx, [], e, ⟨T.cl, T.ns, Nat.zero_le _, by rw [noneS_len, T.z]⟩, fun f => by rw [slotOf_none]; exact trivial⟩
  have xx := x1.trans x2 S1.hh
  have hb : (ρ1.bx ++ [a])[s1.length]? = some a := by rw [← S1.len]; simp
  have hv : RV X.K (upd (upd H1 dx (.own a)) a (.ins T.C dx [])) ⟨ρ1.bx ++ [a], ρ1.rs, ρ1.cg⟩ (.box s1.length) (.ref a) := ⟨a, rfl, hb⟩
  refine ⟨?_, _, _, _, .cons hv (hys.mono xx.toExtW), S3, ?_⟩
  · rw [List.length_cons, ← hys.length, hz, T.len]
  · cases q : run (.box s1.length :: vs) (s1 ++ [.i c (noneS z)]) with
    | bad => rw [q] at P1; exact P1.elim
    | ex e s2 => rw [q] at P1; exact Post.shift xx S1.hh P1
    | ok v s2 =>
      rw [q] at P1
      cases v with
      | non =>
        intro H' ρ' x3 S' y hy
        cases hy
        exact ⟨rfl, P1 H' ρ' (xx.trans x3 S1.hh) S' _ ⟨a, rfl, bx_keep x3.toExtW hb⟩⟩
      | _ => exact P1.elim
theorem e_make (T : MkTab X.prog X.w X.K X.mg X.base k n x c z run) (hr : Room (k + 1) X.A) (tk : Takes X W) (hg : Gl X x) (ha : MEs X W (e :: es) ms) (hdb : (x == ("__debug__" : Str)) = false := by decide) (he : starEach (e :: es) X.env = (false, eval e X.env) :: starEach es X.env := by rfl) (hpl : (backTo pos (starEach es X.env)).any (·.1) = false := by rfl) :
    ME X W (.Call (.Name x p) (e :: es) [] pos) (mCall (gMake c z n run) ms) := by
  obtain ⟨t, q, s⟩ := ha
  refine ⟨fun σ H Q => t σ H fun vs H1 => ∀ x dx, H1 x = none → H1 dx = none → dx ≠ x → spF X.K T.ps.length run (.ref x :: vs) (upd (upd H1 dx (.own x)) x (.ins T.C dx [])) (fun v H2 => v = .non ∧ Q (.ref x) H2) (WE W σ), ⟨fun pins st σ H Q I h => ?_⟩, fun σ H ρ env sto Q hE hS hP => ?_⟩
  · refine wpAny_Call_Name_kw (ld_glob I hg T.m ?_ hdb)
    refine PySem.W.callWith_K (h₀ := X.base) I.ok.mod.kin T.M.kp (thn (q.run pos pins st σ H _ I h) fun us s1 ⟨vs, H1, I1, r, q⟩ => ⟨I1.kIn, ?_⟩) he hpl
    exact run_makeX T hr tk I1 r q
  · exact s σ H ρ env sto _ hE hS ((hP.bind hS).imp fun v s1 H1 ρ1 x1 S1 P1 ys hys => make_ok T S1 hys P1)
theorem e_make0 (T : MkTab X.prog X.w X.K X.mg X.base k n x c z run) (hr : Room (k + 1) X.A) (tk : Takes X W) (hg : Gl X x) (hdb : (x == ("__debug__" : Str)) = false := by decide) :
    ME X W (.Call (.Name x p) [] [] pos) (fun _ s => gMake c z n run [] s) := by
  refine ⟨fun σ H Q => ∀ x dx, H x = none → H dx = none → dx ≠ x → spF X.K T.ps.length run [.ref x] (upd (upd H dx (.own x)) x (.ins T.C dx [])) (fun v H2 => v = .non ∧ Q (.ref x) H2) (WE W σ), ⟨fun pins st σ H Q I h => ?_⟩, fun σ H ρ env sto Q hE hS hP => ?_⟩
  · refine wpAny_Call_Name_kw (ld_glob I hg T.m ?_ hdb)
    exact PySem.W.callWith_K0 I.kIn T.M.kp (run_makeX (us := []) T hr tk I .nil h)
  · exact make_ok T hS .nil hP
end
end Mi

/-! enumerate of a tuple -/
namespace G5
open PySem PySem.Spec PyProof.Rows L2
theorem meetsB1 {v : Value} {o : Obj} {H : Heap → Prop} (B : Begins v o H) :
    Meets (Builtin.«enumerate.__new__» ⟨[.type "enumerate", v], []⟩) (fun _ R s => H s.heap ∧
      R (.ok (.ret (.ref (s.heap.push o).objs.size))) { s with heap := (s.heap.push o).push { cls := .type "enumerate", data := .fields #[.none, .bool false, .ref s.heap.objs.size, rawInt 0, .none, .none] } }) :=
  .of_wp fun prog w A R s h => by
    obtain ⟨hp, g, d, tk, os⟩ := s; obtain ⟨h1, h⟩ := h
    have hsub := sub_enumerate
    have q1 : ∀ {A' : Around} {E : Value → Shared → Prop} {Q : Value → Shared → Prop}, Q (.ref hp.objs.size) ⟨hp.push o, g, d, tk, os⟩ → wpAny (model prog w) A' (pyIter v) Q E ⟨hp, g, d, tk, os⟩ :=
      fun q => B.iter prog w _ _ ⟨hp, g, d, tk, os⟩ _ h1 q
    wp_walk using q1
    refine wpAny_stack_any fun st => wpAny_pure ?_
    split
    · rename_i c _ _ _ _ _
      cases (c == Value.type "enumerate")
      · wp_walk using q1
        exact ⟨_, rfl, h⟩
      · wp_walk using q1
        exact ⟨_, rfl, h⟩
    · wp_walk using q1
      exact ⟨_, rfl, h⟩
section
variable {prog : Program} {w : World} {A : Around} {E : Value → Shared → Prop} {s : Shared}
theorem begins1 {v : Value} {o : Obj} {H : Heap → Prop} {Q : Value → Shared → Prop} (B : Begins v o H) (h1 : H s.heap)
    (h : ∀ h', IsEnum h' (s.heap.objs.size + 1) s.heap.objs.size 0 .none → h'.get? s.heap.objs.size = some o → h'.objs.size = s.heap.objs.size + 2 →
      (∀ b o, s.heap.get? b = some o → h'.get? b = some o) → Q (.ref (s.heap.objs.size + 1)) { s with heap := h' }) :
    wpAny (model prog w) A (call (.type "enumerate") [v]) Q E s := by
  refine callType_new F.called_enumerate (by decide) (F.typeCall_enumerate_1 _) (F.newCall_enumerate_1 _) (fun obj => F.args_object_init_2 obj _) F.entry_enumerate_new (meetsB1 B) ⟨h1, ?_⟩
  have hz : (s.heap.push o).objs.size = s.heap.objs.size + 1 := Heap.size_push ..
  show _ ∧ _
  rw [hz]
  have he : IsEnum ((s.heap.push o).push { cls := .type "enumerate", data := .fields #[.none, .bool false, .ref s.heap.objs.size, rawInt 0, .none, .none] }) (s.heap.objs.size + 1) s.heap.objs.size 0 .none := by
    have := Heap.get?_push_size (s.heap.push o) (o := { cls := .type "enumerate", data := .fields #[.none, .bool false, .ref s.heap.objs.size, rawInt 0, .none, .none] }) rfl
    rw [hz] at this; exact this
  refine ⟨⟨_, he, rfl⟩, h _ he (Heap.get?_push_of_some _ (Heap.get?_push_size _ B.free)) (by rw [Heap.size_push, hz]) fun b o x => Heap.get?_push_of_some _ (Heap.get?_push_of_some _ x)⟩
end
/-- the tuple at a, each item in a new pair -/
def Itet (K : PySem.W.Frag) (a : Addr) : It :=
  ⟨fun i H => ∃ (xs : List V) (x : V), SqT K H a xs ∧ xs[i]? = some x, fun i H v H' => ∃ T x, v = .ref T ∧ H T = none ∧ H' = upd H T (.tup [.int (i : Nat), x]) ∧ ∀ xs, SqT K H a xs → xs[i]? = some x, fun i H => ∃ xs : List V, SqT K H a xs ∧ xs.length ≤ i⟩
theorem turn_enumT {P : Program} {w : World} {K : PySem.W.Frag} {elts : List Expr} {kk : Nat} {tpos : Pos} (a e it : Addr) :
    Turn P w K (.Tuple elts kk tpos) (Itet K a) [e, it] e (fun i h => (∃ old, IsEnum h e it ((i : Nat) : Int) old) ∧ h.IsTupleIter it a i ∧ e ≠ it) where
  mem := by simp
  obj := fun i h st b hb => by
    obtain ⟨⟨old, he⟩, ⟨o, ho, hc, hd⟩, _⟩ := st
    have e' : b = e ∨ b = it := by simpa using hb
    rcases e' with z | z
    · rw [z]; exact ⟨_, he, fun v q => nomatch q⟩
    · rw [z]; exact ⟨o, ho, fun v q => by rw [hd] at q; cases q⟩
  keep := fun i h h' st k => let ⟨⟨old, he⟩, hi, hne⟩ := st; ⟨⟨old, k e (by simp) _ he⟩, hi.at fun o q => k it (by simp) o q, hne⟩
  item := by
    intro X hP hw hK hc i pins s σ H E I hf st hg
    subst hP hw hK
    obtain ⟨⟨old, he⟩, hit, hne⟩ := st
    obtain ⟨xs, x, hq, hx⟩ := hg
    obtain ⟨its, rv, p, hz⟩ := I.tuple hq
    obtain ⟨u, hu, ru⟩ := rv.get hx
    have hel : e < s.heap.objs.size := Heap.lt_size he
    have hil : it < s.heap.objs.size := by obtain ⟨_, q, _⟩ := hit; exact Heap.lt_size q
    have hil' : i < its.toArray.size := by simpa using (List.getElem?_eq_some_iff.mp hu).1
    have hni : a ≠ it := fun z => by
      obtain ⟨o, ho, hc2, _⟩ := hit
      obtain ⟨o2, ho2, hc3, _⟩ := (show Heap.IsTuple _ a its.toArray from p)
      rw [← z, ho2] at ho; cases ho
      rw [hc2] at hc3; simp at hc3
    have hea : e ∉ [it, a] := fun z => by
      have e' : e = it ∨ e = a := by simpa using z
      rcases e' with q | q
      · exact hne q
      · obtain ⟨o2, ho2, hc3, _⟩ := (show Heap.IsTuple _ a its.toArray from p)
        rw [← q, he] at ho2; cases ho2
        simp at hc3
    refine wpAny_pyNext_enum_itemD (Draws.tuple (show X.A.in1.handled = none from I.ok.hd hc) it a hni its.toArray) he ⟨hit, (show Heap.IsTuple _ a its.toArray from p)⟩ hil' hne hea fun v h' tk hv ho st' hT hsz hk => ?_
    have hv' : v = u := by
      have : its.toArray[i]? = some u := by simpa using hu
      rw [this] at hv; cases hv; rfl
    subst hv'
    refine ⟨_, rfl, wpAny_letOwnedTupleGo_enum (s := { s with heap := h', toks := tk + 1 }) ho fun h'' he' sb => ?_⟩
    have hT2 : h''.get? s.heap.objs.size = some { cls := .type "tuple", data := .seq #[.int i tk, v] } := (sb.2 _ (Nat.ne_of_gt hel)).trans hT
    have new : ObjOk X.prog X.w (upd H s.heap.objs.size (.tup [.int (i : Nat), x])) h'' s.heap.objs.size (.tup [.int (i : Nat), x]) :=
      ⟨by show 2 ≤ sizeLine; decide, [.int i tk, v], .cons ⟨_, rfl⟩ (.cons ru .nil), ⟨_, hT2, rfl, _, rfl⟩⟩
    have I1 : Inv X pins σ (upd H s.heap.objs.size (.tup [.int (i : Nat), x])) { s with heap := h'', toks := tk + 1 } :=
      I.turnedNew (ch := [e, it]) (fun b ob hb q => (sb.2 b (fun z => hb (by simp [z]))).trans (hk b ob (fun z => hb (by simp [z])) (fun z => hb (by simp [z])) q)) hf (Nat.le_refl _) new
    refine ⟨.ref s.heap.objs.size, _, I1, rfl, ⟨_, x, rfl, I.hok.fresh (Nat.le_refl _), rfl, fun ys hy => by rw [I.tuple_inj hy hq]; exact hx⟩, ⟨⟨v, ?_⟩, st'.1.at fun o q => (sb.2 it (Ne.symm hne)).trans q, hne⟩, fun b hb => ?_⟩
    · have e1 : ((i + 1 : Nat) : Int) = (i : Int) + 1 := by omega
      rw [e1]; exact he'
    · have hb' : b < s.heap.objs.size := by
        have e' : b = e ∨ b = it := by simpa using hb
        rcases e' with z | z
        · rw [z]; exact hel
        · rw [z]; exact hil
      rw [upd_ne (Nat.ne_of_lt hb')]
      exact (hf b hb).1
  done := by
    intro X hP hw hK hc i pins s σ H E I hf st hg
    subst hP hw hK
    obtain ⟨⟨old, he⟩, hit, hne⟩ := st
    obtain ⟨xs, hq, hx⟩ := hg
    obtain ⟨its, rv, p, hz⟩ := I.tuple hq
    obtain ⟨f0, f1, f2, f3, f4, f5⟩ := hf it (by simp)
    have hl := rv.length
    have hT : s.TypeIs (.ref e) "enumerate" := ⟨_, he, rfl⟩
    unfold pyNext
    refine wpAny_bind (wpAny_attempt (wpAny_callSpecial?_slot (name := Str.ofString "__next__") hT PySem.F.slot_enumerate_next
      (wpAny_call_entry PySem.F.slot_enumerate_next hT PySem.F.entry_enumerate_next ?_ (PySem.F.args_enumerate_next_1 _))))
    show wpAny _ _ (field (.ref e) 2 >>= _) _ _ _
    refine wpAny_bind (wpAny_field he rfl (x := .ref it) rfl ?_)
    refine wpAny_bind (wpAny_nextOf_tuple_end (show X.A.in1.handled = none from I.ok.hd hc) hit (show Heap.IsTuple _ a its.toArray from p) (by simp; omega) fun h' x he' hx' => ?_)
    obtain ⟨o, ho, hc⟩ := hx'
    refine wpAny_bind (wpAny_isInstance (T := "StopIteration") (b := true) ⟨o, ho, hc⟩ isSubtype_stop ?_)
    exact wpAny_pure ⟨rfl, I.turned (t' := s.toks) (fun b o hb q => he' b o hb q) f0 f1 f3 f4 f5⟩
  self := fun A i s Q E st h => let ⟨⟨_, he⟩, _⟩ := st; wpAny_pyIter_enum he h
def iEnumQ (K : PySem.W.Frag) (ta : TA) : TI := fun σ H R => ta σ H fun vs H1 => ∃ a xs, vs = [.ref a] ∧ ((SqL K H1 a xs ∧ R (Ite K a) H1) ∨ (SqT K H1 a xs ∧ R (Itet K a) H1))
theorem pi_enumQ {X : Cx} {e : Expr} {ta : TA} {p pos tpos : Pos} {elts : List Expr} {kk : Nat} (hg : Gl X "enumerate") (hm : X.mg "enumerate" = none) (ha : PA X [e] ta) (hs : starEach [e] X.env = [(false, eval e X.env)] := by rfl) :
    PI X (.Tuple elts kk tpos) (.Call (.Name "enumerate" p) [e] [] pos) (iEnumQ X.K ta) := by
  refine ⟨fun pins s σ H R I h => ?_⟩
  refine Call_ (ld_blt I hg hm boot_enumerate (PyProof.Rows.callWith_type1 (thn (ha.run pos pins s σ H _ I h) fun us s1 ⟨vs, H1, I1, r1, q1⟩ => ?_) hs rfl))
  obtain ⟨a, xs, ex, q⟩ := q1
  subst ex
  cases r1 with
  | cons r rr =>
    cases rr
    cases r
    have fp : ∀ b ∈ [s1.heap.objs.size + 1, s1.heap.objs.size], s1.heap.objs.size ≤ b := fun b hb => by
      have e' : b = s1.heap.objs.size + 1 ∨ b = s1.heap.objs.size := by simpa using hb
      rcases e' with z | z
      · rw [z]; exact Nat.le_add_right _ _
      · rw [z]; exact Nat.le_refl _
    rcases q with ⟨hq, q⟩ | ⟨hq, q⟩
    · obtain ⟨its, rv, p', hz⟩ := I1.list hq
      refine call_enumerate_list p'.isList fun h' he hit hsz hk => wpAny_pyIter_enum he ?_
      have I2 : Inv X pins σ H1 { s1 with heap := h' } := I1.kept (t' := s1.toks) hk
      exact ⟨s1.heap.objs.size + 1, [s1.heap.objs.size + 1, s1.heap.objs.size], _, _, H1, rfl, I2, turn_enum a (s1.heap.objs.size + 1) s1.heap.objs.size, ⟨⟨.none, he⟩, hit, Nat.succ_ne_self _⟩, fun b hb => I1.fpOk (fp b hb) (I1.hok.fresh (fp b hb)), q⟩
    · obtain ⟨its, rv, p', hz⟩ := I1.tuple hq
      refine begins1 (begins_tuple a its.toArray) (show Heap.IsTuple _ a its.toArray from p') fun h' he hit hsz hk => wpAny_pyIter_enum he ?_
      have I2 : Inv X pins σ H1 { s1 with heap := h' } := I1.kept (t' := s1.toks) hk
      exact ⟨s1.heap.objs.size + 1, [s1.heap.objs.size + 1, s1.heap.objs.size], _, _, H1, rfl, I2, turn_enumT a (s1.heap.objs.size + 1) s1.heap.objs.size, ⟨⟨.none, he⟩, ⟨_, hit, rfl, rfl⟩, Nat.succ_ne_self _⟩, fun b hb => I1.fpOk (fp b hb) (I1.hok.fresh (fp b hb)), q⟩
end G5
noncomputable section
namespace Mi
open PySem PySem.Spec PyProof.Rows L2 G5
theorem itet_ok {K : PySem.W.Frag} {H0 : Hp} {ρ0 : Rh} {a : Addr} {xs : List PV} {ys : List V} (h : FzT K H0 ρ0 a ys) (r : RVs K H0 ρ0 xs ys) : ItOk K H0 ρ0 (Itet K a) (enuI fun i _ => nthC xs i) := by
  intro i H ρ sto x S
  have h1 := (h.mono x).sq
  have r1 := r.mono x
  have g := get_none r1 i
  unfold enuI
  simp only [nthC_eq]
  cases e : xs[i]? with
  | some v =>
    rw [e] at g
    obtain ⟨y, k1, k2⟩ := g
    refine ⟨⟨ys, y, h1, k1⟩, fun z H' hz => ?_⟩
    obtain ⟨T, w, rfl, hT, rfl, hw⟩ := hz
    have : some w = some y := (hw ys h1).symm.trans k1
    cases this
    exact newPair S hT rfl k2
  | none =>
    rw [e] at g
    exact ⟨ys, h1, g⟩
def iEnq (ms : MA) : MI := fun env s => (ms env s).bind fun vs s1 => match vs with
  | [.tup xs] => .ok (enuI fun i _ => nthC xs i) s1
  | [v] => match itOf s1 v with
    | some J => .ok (enuI J) s1
    | none => .bad
  | _ => .bad
section
variable {X : Cx} {W : WK} {e : Expr} {p pos tpos : Pos} {elts : List Expr} {ms : MA} {kk : Nat}
theorem i_enq (hg : Gl X "enumerate") (hm : X.mg "enumerate" = none) (ha : MEs X W [e] ms) (hs : starEach [e] X.env = [(false, eval e X.env)] := by rfl) : MIr X W (.Tuple elts kk tpos) (.Call (.Name "enumerate" p) [e] [] pos) (iEnq ms) := by
  obtain ⟨t, q, s⟩ := ha
  refine ⟨_, pi_enumQ hg hm q hs, fun σ H ρ env sto Rk hE hS hP => ?_⟩
  refine s σ H ρ env sto _ hE hS ((hP.bind hS).imp fun vs s1 H1 ρ1 x1 S1 P1 ys hys => ?_)
  split at P1
  · obtain ⟨v, rfl, hv⟩ := hys.one
    obtain ⟨a, zs, rfl, h1, h2⟩ := hv
    exact ⟨a, zs, rfl, .inr ⟨h1.sq, P1 H1 ρ1 .refl S1 _ (itet_ok h1 h2)⟩⟩
  · obtain ⟨v, rfl, hv⟩ := hys.one
    rename_i v0 _
    cases k : itOf s1 v0 with
    | none => rw [k] at P1; exact P1.elim
    | some J =>
      rw [k] at P1
      obtain ⟨a, zs, rfl, h1, h2⟩ := itOf_ok S1 hv k
      exact ⟨a, zs, rfl, .inl ⟨h1, P1 H1 ρ1 .refl S1 _ (ite_ok h2)⟩⟩
  · exact P1.elim
end
end Mi

noncomputable section
namespace Mi
open PySem PySem.Spec PyProof.Rows L2

theorem calm_at {tab : List (Nat × Nat)} {mo : M} : Calm (gtAt tab mo) := fun v env s e t q => by
  unfold gtAt at q
  cases h : mo env s with
  | bad => rw [h] at q; cases q
  | ex e' s' => rw [h] at q; cases q
  | ok o s1 =>
    rw [h] at q
    have q : (match gAtPut tab o v s1 with | some s2 => R.ok env s2 | none => R.bad) = R.ex e t := q
    split at q <;> cases q

/-! ### a value that is a def, called with arguments -/
inductive FnTabN (X : Cx) (k n : Nat) : List (Nat × GC) → Prop
  | nil : FnTabN X k n []
  | cons {t : Nat} {run : GC} {f : Addr} {fd : FuncData} {ps : List Str} {y : Str} {l : List (Nat × GC)} (F : FOk X.prog X.w X.K X.mg X.base k f fd ps run) (hh : hofs[t]? = some y) (hn : PySem.W.nsIn X.K mainGlobals y = some (some (.ref f))) (hk : PySem.W.keepIn X.K (.ref f) = true) (hb : Binds X.K fd ps []) (hz : ps.length = n) (r : FnTabN X k n l) : FnTabN X k n ((t, run) :: l)
theorem FnTabN.find {X : Cx} {k n : Nat} {t : Nat} {run : GC} : ∀ {l : List (Nat × GC)}, FnTabN X k n l → luN l t = some run → ∃ (f : Addr) (fd : FuncData) (ps : List Str) (y : Str), FOk X.prog X.w X.K X.mg X.base k f fd ps run ∧ hofs[t]? = some y ∧ PySem.W.nsIn X.K mainGlobals y = some (some (.ref f)) ∧ PySem.W.keepIn X.K (.ref f) = true ∧ Binds X.K fd ps [] ∧ ps.length = n
  | _, .nil, h => by cases h
  | _, .cons F hh hn hk hb hz r, h => by
    rcases luN_cons h with ⟨e1, e2⟩ | h
    · cases e1; cases e2
      exact ⟨_, _, _, _, F, hh, hn, hk, hb, hz⟩
    · exact r.find h
def mCallTN (n : Nat) (tab : List (Nat × GC)) (m : M) (ms : MA) : M := fun env s => (m env s).bind fun v s1 => match v with
  | .fn t => match luN tab t with
    | some run => (ms env s1).bind fun vs s2 => ar n run vs s2
    | none => .bad
  | _ => .bad
section
variable {X : Cx} {W : WK} {k n : Nat} {fe e : Expr} {es : List Expr} {m : M} {ms : MA} {pos : Pos}
theorem e_callTN {tab : List (Nat × GC)} (T : FnTabN X k n tab) (hr : Room k X.A) (tk : Takes X W) (h : ME X W fe m) (ha : MEs X W (e :: es) ms) (hc : eval (.Call fe (e :: es) [] pos) X.env = (do callWith pos (← eval fe X.env) [] (backTo pos (starEach (e :: es) X.env)) (backToKw pos (keywordEach [] X.env))) := by rfl)
    (he : starEach (e :: es) X.env = (false, eval e X.env) :: starEach es X.env := by rfl) (hpl : (backTo pos (starEach es X.env)).any (·.1) = false := by rfl) : ME X W (.Call fe (e :: es) [] pos) (mCallTN n tab m ms) := by
  obtain ⟨t, q, s⟩ := h
  obtain ⟨ta, qa, sa⟩ := ha
  refine ⟨fun σ H Q => t σ H fun v H1 => ∃ f fd ps run, v = .ref f ∧ FOk X.prog X.w X.K X.mg X.base k f fd ps run ∧ PySem.W.keepIn X.K (.ref f) = true ∧ Binds X.K fd ps [] ∧ ta σ H1 fun vs H2 => spF X.K ps.length run vs H2 Q (WE W σ), ⟨fun pins st σ H Q I h => ?_⟩, fun σ H ρ env sto Q hE hS hP => ?_⟩
  · rw [hc]
    refine wpAny_bind (thn (q.run pins st σ H _ I h) ?_)
    intro u s1 z
    obtain ⟨v, H1, I1, r, f, fd, ps, run, ev, F, hk, hb, q1⟩ := z
    subst ev
    cases r
    refine PySem.W.callWith_K (h₀ := X.base) I.ok.mod.kin hk (thn (qa.run pos pins s1 σ H1 _ I1 q1) fun us s2 ⟨vs, H2, I2, r, q2⟩ => ⟨I2.kIn, ?_⟩) he hpl
    exact run_fnS (E := WE W) F hr hb (passAt tk σ) I2 r q2
  · refine s σ H ρ env sto _ hE hS ((hP.bind hS).imp fun v s1 H1 ρ1 x1 S1 P1 y hy => ?_)
    split at P1
    · rename_i t
      split at P1
      · rename_i run e
        obtain ⟨f, fd, ps, z, F, h1, h2, h3, h4, h5⟩ := T.find e
        obtain ⟨z', f', k1, k2, rfl⟩ := hy
        rw [h1] at k1; cases k1
        rw [h2] at k2; cases k2
        refine ⟨f, fd, ps, run, rfl, F, h3, h4, ?_⟩
        refine sa σ H1 ρ1 env s1 _ (hE.mono x1.toExtW) S1 ((P1.bind S1).imp fun vs s2 H2 ρ2 x2 S2 P2 ys hys => ?_)
        unfold ar at P2
        obtain ⟨hz, P2⟩ := and_of (C := Post X.K _ H2 ρ2 (GV X.K Q)) P2 (fun z => z)
        exact ⟨by rw [h5, ← hys.length]; exact Nat.eq_of_beq_eq_true hz, _, ρ2, s2, hys, S2, P2⟩
      · exact P1.elim
    · exact P1.elim
end

/-! ### o.m(b=.., a=..), C(b=.., a=..): by name, in any order -/
def MeTabW (P : Program) (w : World) (K : PySem.W.Frag) (mg : Str → Option Value) (base : Heap) (k : Nat) (m : Str) (ks : List Str) (ix : List Nat) (tab : List (Nat × GC)) : Prop := ∀ c run, luN tab c = some run → ∃ nm sl C f fd ps, clsTab[c]? = some (nm, sl) ∧ PySem.W.nsIn K mainGlobals nm = some (some (.ref C)) ∧ m ∉ sl ∧ Cls K C ∧ Meth K C m f ∧ FOk P w K mg base k f fd ps run ∧
  (∀ (s : Shared) (u : Value) (ws : List Value), ws.length = ix.length → BindsTo s fd ⟨[u], ks.zip ws⟩ (ps.zip (u :: pick ix ws))) ∧ ps.length = ix.length + 1
section
variable {P : Program} {w : World} {K : PySem.W.Frag} {mg : Str → Option Value} {base : Heap} {k : Nat} {m : Str} {ks : List Str} {ix : List Nat}
theorem MeTabW.nil : MeTabW P w K mg base k m ks ix [] := fun _ _ h => by cases h
theorem MeTabW.cons {c : Nat} {run : GC} {tab : List (Nat × GC)} {nm : Str} {sl : List Str} {C f : Addr} {fd : FuncData} {ps : List Str} (h1 : clsTab[c]? = some (nm, sl)) (h2 : PySem.W.nsIn K mainGlobals nm = some (some (.ref C))) (h0 : sl.contains m = false) (h3 : Cls K C) (h4 : Meth K C m f)
    (h5 : FOk P w K mg base k f fd ps run) (h6 : ∀ (s : Shared) (u : Value) (ws : List Value), ws.length = ix.length → BindsTo s fd ⟨[u], ks.zip ws⟩ (ps.zip (u :: pick ix ws))) (h7 : ps.length = ix.length + 1) (t : MeTabW P w K mg base k m ks ix tab) : MeTabW P w K mg base k m ks ix ((c, run) :: tab) := fun c' r' h => by
  rcases luN_cons h with ⟨e1, e2⟩ | h
  · cases e1; cases e2
    exact ⟨nm, sl, C, f, fd, ps, h1, h2, (fun z => by rw [List.contains_iff_mem.mpr z] at h0; cases h0), h3, h4, h5, h6, h7⟩
  · exact t c' r' h
end
def mMethW (ix : List Nat) (tab : List (Nat × GC)) (mo : M) (mk : MA) : M := fun env s => (mo env s).bind fun o s1 => match insOf s1 o with
  | some (_, c, _) => match luN tab c with
    | some run => (mk env s1).bind fun vs s2 => bif Nat.beq vs.length ix.length then (bif Nat.beq (pick ix vs).length ix.length then run (o :: pick ix vs) s2 else .bad) else .bad
    | none => .bad
  | none => .bad
section
variable {X : Cx} {W : WK} {k n : Nat} {m : Str} {ks : List Str} {o : Expr} {kws : List Keyword} {mo : M} {mk : MA} {apos pos : Pos} {tab : List (Nat × GC)}
theorem e_methW {pl : Sem Bool} (ix : List Nat) (T : MeTabW X.prog X.w X.K X.mg X.base k m ks ix tab) (hr : Room k X.A) (tk : Takes X W) (ho : ME X W o mo) (ha : MKs X W kws mk)
    (hall : (backToKw pos (keywordEach kws X.env)).all (·.1.isSome) = true := by rfl) (hks : (backToKw pos (keywordEach kws X.env)).filterMap (·.1) = ks := by rfl)
    (hpl : ((backTo pos (starEach [] X.env)).any (·.1) || (backToKw pos (keywordEach kws X.env)).any (·.1.isNone)) = false := by rfl)
    (ht : eval (.Call (.Attribute o m apos) [] kws pos) X.env = (do
      let ov ← eval o X.env
      standAt apos.atName
      let (f, first) ← holding [ov] (getMethod ov m pl)
      callWith pos f first (backTo pos (starEach [] X.env)) (backToKw pos (keywordEach kws X.env))) := by rfl) :
    ME X W (.Call (.Attribute o m apos) [] kws pos) (mMethW ix tab mo mk) := by
  obtain ⟨to, po, so⟩ := ho
  obtain ⟨t, q, s⟩ := ha
  refine ⟨fun σ H Q => to σ H fun x H1 => ∃ a C dx fs f fd ps run, x = .ref a ∧ H1 a = some (.ins C dx fs) ∧ fs.lookup m = none ∧ Cls X.K C ∧ Meth X.K C m f ∧ FOk X.prog X.w X.K X.mg X.base k f fd ps run ∧
    (∀ (s : Shared) (u : Value) (ws : List Value), ws.length = ix.length → BindsTo s fd ⟨[u], ks.zip ws⟩ (ps.zip (u :: pick ix ws))) ∧ t σ H1 fun vs H2 => vs.length = ix.length ∧ spF X.K ps.length run (x :: pick ix vs) H2 Q (WE W σ), ⟨fun pins st σ H Q I h => ?_⟩, fun σ H ρ env sto Q hE hS hP => ?_⟩
  · refine PySem.W.methodCall_KW (pl := pl) (thn (po.run pins st σ H _ I h) fun u s1 ⟨x, H1, I1, rx, a, C, dx, fs, f, fd, ps, run, ex, ea, l, c, hm, F, hb, q1⟩ => ?_) ht
    subst ex
    obtain rfl : u = Value.ref a := rx
    refine getmeth_ok I1 ea c hm l ?_
    refine PySem.W.callWith_KW0 (first := [.ref a]) (h₀ := X.base) I.ok.mod.kin hm.kp hall (thn (q.run pos pins s1 σ H1 _ I1 q1) ?_) hpl
    intro us s2 z
    obtain ⟨vs, H2, I2, r, hz, q2⟩ := z
    refine ⟨I2.kIn, ?_⟩
    rw [hks]
    have r2 : Vals (V.ref a :: pick ix vs) (Value.ref a :: pick ix us) := .cons rfl (vals_pick r ix)
    have hl : us.length = ix.length := r.length.symm.trans hz
    refine wpAny_call (codeAny_mono (F.run X.A X.stack s2 H2 ⟨[.ref a], ks.zip us⟩ (.ref a :: pick ix us) (.ref a :: pick ix vs) Q (WE W σ) hr I2.env0 (hb s2 (.ref a) us hl) r2 q2) fun r' s' z => ?_)
    match r', z with
    | .error er, z => exact passAt tk σ pins _ _ er s' I2 z
    | .ok (.ret u), z => exact I2.after z
    | .ok .next, z => exact z.elim
    | .ok .brk, z => exact z.elim
    | .ok .cont, z => exact z.elim
  · refine so σ H ρ env sto _ hE hS ((hP.bind hS).imp fun v s1 H1 ρ1 x1 S1 P1 y hy => ?_)
    split at P1
    · rename_i nn c xs e1
      split at P1
      · rename_i run e2
        obtain ⟨a, nm, sl, C, dx, fs, rfl, rfl, ha, h1, ⟨h2, h3, _, _⟩, h4⟩ := insOf_ok S1 hy e1
        obtain ⟨nm', sl', C', f, fd, ps, k1, k2, k0, k3, k4, k5, k6, k7⟩ := T c run e2
        rw [h2] at k1; cases k1
        rw [h3] at k2; cases k2
        have q1 := h4 m
        rw [slotOf_no k0] at q1
        refine ⟨a, C, dx, fs, f, fd, ps, run, rfl, h1, RO.none_of q1, k3, k4, k5, k6, ?_⟩
        refine s σ H1 ρ1 env s1 _ (hE.mono x1.toExtW) S1 ((P1.bind S1).imp fun vs s2 H2 ρ2 x2 S2 P2 ys hys => ?_)
        obtain ⟨hz, P2⟩ := and_of (C := Post X.K _ H2 ρ2 (GV X.K Q)) P2 (fun z => z)
        obtain ⟨hz2, P2⟩ := and_of (C := Post X.K _ H2 ρ2 (GV X.K Q)) P2 (fun z => z)
        have hz : vs.length = ix.length := Nat.eq_of_beq_eq_true hz
        have hz2 : (pick ix vs).length = ix.length := Nat.eq_of_beq_eq_true hz2
        have r2 := hys.pick ix
        exact ⟨hys.length.symm.trans hz, by rw [List.length_cons, ← r2.length, hz2, k7], _, ρ2, s2, .cons (hy.mono x2.toExtW) r2, S2, P2⟩
      · exact P1.elim
    · exact P1.elim
end
section
variable {X : Cx} {W : WK} {k n c z : Nat} {x : Str} {ks : List Str} {kws : List Keyword} {mk : MA} {p pos : Pos} {run : GC}
def gMakeW (ix : List Nat) (c z n : Nat) (run : GC) : GC := fun vs s => bif Nat.beq vs.length ix.length then gMake c z n run (pick ix vs) s else .bad
theorem run_makeW {pins : List (Addr × Obj)} {σ : L2.St} {H : Hp} {s : Shared} {Q : VK} {us : List Value} {vs : List V} (ix : List Nat) (T : MkTab X.prog X.w X.K X.mg X.base k n x c z run) (hr : Room (k + 1) X.A) (tk : Takes X W)
    (hb : ∀ (s : Shared) (u : Value) (ws : List Value), ws.length = ix.length → BindsTo s T.fd ⟨[u], ks.zip ws⟩ (T.ps.zip (u :: pick ix ws)))
    (I : Inv X pins σ H s) (r : Vals vs us) (hl : vs.length = ix.length)
    (h : ∀ x dx, H x = none → H dx = none → dx ≠ x → spF X.K T.ps.length run (.ref x :: pick ix vs) (upd (upd H dx (.own x)) x (.ins T.C dx [])) (fun v H2 => v = .non ∧ Q (.ref x) H2) (WE W σ)) :
    wpAny (model X.prog X.w) X.A (call (.ref T.C) [] (ks.zip us)) (EP X pins σ Q) X.xe s := by
  have hq := h (s.heap.objs.size + 1) s.heap.objs.size (I.hok.fresh (Nat.le_succ _)) (I.hok.fresh (Nat.le_refl _)) (Nat.ne_of_lt (Nat.lt_succ_self _))
  have I2 := Inv.made (C := T.C) I
  have r2 : Vals (V.ref (s.heap.objs.size + 1) :: pick ix vs) (Value.ref (s.heap.objs.size + 1) :: pick ix us) := .cons rfl (vals_pick r ix)
  have b := hb { s with heap := (s.heap.push PySem.W.emptyDict).push (PySem.W.instObj T.C s.heap.objs.size) } (Value.ref (s.heap.objs.size + 1)) us (r.length.symm.trans hl)
  refine wpAny_call (make_map (f := T.f) I.kIn T.M.makes T.M.init (beq_iff_eq.mp T.M.fn) (codeAny_mono (T.F.run _ X.stack _ _ ⟨[Value.ref (s.heap.objs.size + 1)], ks.zip us⟩ (Value.ref (s.heap.objs.size + 1) :: pick ix us) _ _ (WE W σ) (hr.make T.C [] (ks.zip us))
    (I2.env0.make T.C [] (ks.zip us)) b r2 hq) fun r s' hq' => ?_))
  cases r with
  | error e => exact passAt tk σ pins _ _ e s' I2 hq'
  | ok fl =>
    cases fl with
    | ret u =>
      obtain ⟨v, H', I3, rv, ev, q3⟩ := I2.after hq'
      subst ev
      exact ⟨rv, ⟨V.ref (s.heap.objs.size + 1), H', I3, rfl, q3⟩⟩
    | next => exact False.elim hq'
    | brk => exact False.elim hq'
    | cont => exact False.elim hq'
theorem e_makeW (ix : List Nat) (T : MkTab X.prog X.w X.K X.mg X.base k n x c z run) (hr : Room (k + 1) X.A) (tk : Takes X W) (hg : Gl X x) (hb : ∀ (s : Shared) (u : Value) (ws : List Value), ws.length = ix.length → BindsTo s T.fd ⟨[u], ks.zip ws⟩ (T.ps.zip (u :: pick ix ws))) (ha : MKs X W kws mk)
    (hall : (backToKw pos (keywordEach kws X.env)).all (·.1.isSome) = true := by rfl) (hks : (backToKw pos (keywordEach kws X.env)).filterMap (·.1) = ks := by rfl) (hdb : (x == ("__debug__" : Str)) = false := by decide)
    (hpl : ((backTo pos (starEach [] X.env)).any (·.1) || (backToKw pos (keywordEach kws X.env)).any (·.1.isNone)) = false := by rfl) : ME X W (.Call (.Name x p) [] kws pos) (mCall (gMakeW ix c z n run) mk) := by
  obtain ⟨t, q, s⟩ := ha
  refine ⟨fun σ H Q => t σ H fun vs H1 => vs.length = ix.length ∧ ∀ x dx, H1 x = none → H1 dx = none → dx ≠ x → spF X.K T.ps.length run (.ref x :: pick ix vs) (upd (upd H1 dx (.own x)) x (.ins T.C dx [])) (fun v H2 => v = .non ∧ Q (.ref x) H2) (WE W σ), ⟨fun pins st σ H Q I h => ?_⟩, fun σ H ρ env sto Q hE hS hP => ?_⟩
  · refine wpAny_Call_Name_kw (ld_glob I hg T.m ?_ hdb)
    refine PySem.W.callWith_KW0 (h₀ := X.base) I.ok.mod.kin T.M.kp hall (thn (q.run pos pins st σ H _ I h) ?_) hpl
    intro us s1 z
    obtain ⟨vs, H1, I1, r, hz, q1⟩ := z
    refine ⟨I1.kIn, ?_⟩
    rw [hks]
    exact run_makeW ix T hr tk hb I1 r hz q1
  · refine s σ H ρ env sto _ hE hS ((hP.bind hS).imp fun v s1 H1 ρ1 x1 S1 P1 ys hys => ?_)
    unfold gMakeW at P1
    obtain ⟨hz, P1⟩ := and_of (C := Post X.K _ H1 ρ1 (GV X.K Q)) P1 (fun z => z)
    exact ⟨hys.length.symm.trans (Nat.eq_of_beq_eq_true hz), make_ok T S1 (hys.pick ix) P1⟩
end

/-! ### o.f += v -/
def sAtAug (tab : List (Nat × Nat)) (f : Int → Int → Int) (mo mv : M) : MS := fun env s => (mo env s).fl env fun o s1 => (gAt tab o s1).fl env fun x s2 => (mv env s2).fl env fun v s3 => match x, v with
  | .int i, .int j => match gAtPut tab o (.int (f i j)) s3 with
    | some s4 => .nx env s4
    | none => .bad
  | _, _ => .bad
def rF (f : Int → Int → Int) : V → V → Hp → VK → Prop := fun x y H Q => ∃ i j, x = .int i ∧ y = .int j ∧ Q (.int (f i j)) H
section
variable {X : Cx} {W : WK} {o value : Expr} {f : Str} {mo mv : M} {pos tpos : Pos} {tab : List (Nat × Nat)} {op : Operator} {g : Int → Int → Int}
theorem s_ataug (hop : InOp X op (rF g)) (T : AtTab X.K f tab) (ho : ME X W o mo) (hv : ME X W value mv) : MSt X W (.AugAssign (.Attribute o f tpos) op value pos) (sAtAug tab g mo mv) := by
  obtain ⟨t, q, s⟩ := ho
  obtain ⟨tv, qv, sv⟩ := hv
  refine ⟨_, ps_fldaug q qv hop, fun D σ H ρ env sto h1 h2 h3 => ?_⟩
  refine s σ H ρ env sto _ h1 h2 ((FPost.bind h1 h2 h3).imp fun ov s1 H1 ρ1 x1 S1 P1 y hy => ?_)
  have E1 := h1.mono x1.toExtW
  cases e0 : gAt tab ov s1 with
  | bad => rw [e0] at P1; exact P1.elim
  | ex e' s' =>
    unfold gAt at e0
    split at e0
    · split at e0
      · split at e0 <;> cases e0
      · cases e0
    · cases e0
  | ok v s2 =>
    rw [e0] at P1
    unfold gAt at e0
    split at e0
    · rename_i n c xs e1
      split at e0
      · rename_i i e2
        split at e0
        · rename_i w e3
          cases e0
          obtain ⟨a, nm, sl, C, dx, fs, rfl, rfl, ha, k1, ⟨k2, k3, _, _⟩, k4⟩ := insOf_ok S1 hy e1
          obtain ⟨nm', sl', C', j1, j2, j3, j4, j5⟩ := T c i e2
          rw [k2] at j1; cases j1
          rw [k3] at j2; cases j2
          have q1 := k4 f
          rw [slotOf_at (clsTab_ok _ _ _ k2).1 j5, ← nthR_eq, e3] at q1
          obtain ⟨u, hu, ru⟩ := RO.some_of (p := v) q1
          refine ⟨a, C, dx, fs, u, rfl, k1, j3, j4, hu, ?_⟩
          refine sv σ H1 ρ1 env s1 _ E1 S1 ((FPost.bind (r := mv env s1) E1 S1 P1).imp fun v2 s3 H3 ρ3 x3 S3 P3 z hz => ?_)
          split at P3
          · rename_i ii jj
            cases ru; cases hz
            refine ⟨_, _, rfl, rfl, ?_⟩
            split at P3
            · rename_i s4 e4
              obtain ⟨a', C2, dx', fs', ea, m1, m2, m3, m4, x4, S4⟩ := at_put (z := .int (g ii jj)) (w := .int (g ii jj)) S3 T (hy.mono x3.toExtW) rfl e4
              cases ea
              obtain ⟨o', w1, w2⟩ := x3.kd a _ (List.mem_of_getElem? ha) k1
              rw [m1] at w1; cases w1
              obtain ⟨fs2, hf2⟩ := w2
              cases hf2
              exact ⟨_, fs', m1, m4, P3 σ _ ρ3 x4 S4 ((E1.mono x3.toExtW).mono x4.toExtW)⟩
            · exact P3.elim
          · exact P3.elim
        · cases e0
      · cases e0
    · cases e0
end
theorem iop_add {X : Cx} : InOp X .Add (rF fun i j => i + j) := in_add
theorem iop_sub {X : Cx} : InOp X .Sub (rF fun i j => i - j) := in_sub

/-! ### d.get(k), d.get(k, x), d.pop(k) -/
def keyD (s : Sto) (o i : PV) : Option (Option PV) := match dOf s o with
  | some (_, kvs) => match keyP i with
    | some k => some (valP kvs k)
    | none => none
  | none => none
def KeyR (K : PySem.W.Frag) (H : Hp) (ρ : Rh) : Option PV → Option V → Prop
  | some p, q => ∃ v, q = some v ∧ RV K H ρ p v
  | none, q => q = none
theorem keyD_ok {K : PySem.W.Frag} {H : Hp} {ρ : Rh} {sto : Sto} {o i : PV} {x y : V} {r : Option PV} (S : RSt K H ρ sto) (rx : RV K H ρ o x) (ry : RV K H ρ i y) (h : keyD sto o i = some r) :
    ∃ a q, x = .ref a ∧ DGet H a y q ∧ KeyR K H ρ r q := by
  unfold keyD at h
  split at h
  · rename_i n kvs e1
    split at h
    · rename_i k e2
      cases h
      obtain ⟨a, yvs, _, rfl, _, h1, h2⟩ := dOf_ok S rx e1
      obtain rfl := keyP_ok ry e2
      refine ⟨a, valV yvs k, rfl, DGet.k h1, ?_⟩
      have hv := h2.val k
      cases e3 : valP kvs k with
      | some v => rw [e3] at hv; exact hv
      | none => rw [e3] at hv; exact hv
    · cases h
  · cases h
def mGet2 (mo mi mv : M) : M := fun env s => (mo env s).bind fun o s1 => match dOf s1 o with
  | some _ => (mi env s1).bind fun i s2 => (mv env s2).bind fun v s3 => match keyD s3 o i with
    | some (some w) => .ok w s3
    | some none => .ok v s3
    | none => .bad
  | none => .bad
def mGet1 (mo mi : M) : M := fun env s => (mo env s).bind fun o s1 => match dOf s1 o with
  | some _ => (mi env s1).bind fun i s2 => match keyD s2 o i with
    | some (some w) => .ok w s2
    | some none => .ok .non s2
    | none => .bad
  | none => .bad
section
variable {X : Cx} {W : WK} {o e f : Expr} {mo mi mv : M} {apos cpos : Pos}
theorem e_dget2 (hu : X.A.units + 1 < cLine) (ho : ME X W o mo) (hi : ME X W e mi) (hv : ME X W f mv) (m : M2 X o "get" apos e f cpos := by exact ⟨rfl, rfl, rfl, rfl⟩) : ME X W (.Call (.Attribute o "get" apos) [e, f] [] cpos) (mGet2 mo mi mv) := by
  obtain ⟨t, q, s⟩ := ho
  obtain ⟨u, r, z⟩ := hi
  obtain ⟨tv, qv, sv⟩ := hv
  refine ⟨_, pe_dget2 hu q r qv m, fun σ H ρ env sto Q hE hS hP => ?_⟩
  refine s σ H ρ env sto _ hE hS ((hP.bind hS).imp fun ov s1 H1 ρ1 x1 S1 P1 x hx => ?_)
  have E1 := hE.mono x1.toExtW
  split at P1
  · rename_i pr e0
    obtain ⟨a, yvs0, hb, rfl, _, k10, _⟩ := dOf_ok S1 hx (n := pr.1) (kvs := pr.2) e0
    refine ⟨a, rfl, .inl ⟨_, .of k10⟩, z σ H1 ρ1 env s1 _ E1 S1 ((P1.bind S1).imp fun iv s2 H2 ρ2 x2 S2 P2 y hy => ?_)⟩
    have E2 := E1.mono x2.toExtW
    refine sv σ H2 ρ2 env s2 _ E2 S2 ((P2.bind S2).imp fun v s3 H3 ρ3 x3 S3 P3 w hw => ?_)
    split at P3
    · rename_i p e1
      obtain ⟨a', q, ea, hg, v', rfl, rv⟩ := keyD_ok S3 ((hx.mono x2.toExtW).mono x3.toExtW) (hy.mono x3.toExtW) e1
      cases ea
      exact ⟨some v', hg, now S3 P3 rv⟩
    · rename_i e1
      obtain ⟨a', q, ea, hg, hq⟩ := keyD_ok S3 ((hx.mono x2.toExtW).mono x3.toExtW) (hy.mono x3.toExtW) e1
      cases ea
      have hq : q = none := hq
      subst hq
      exact ⟨none, hg, now S3 P3 hw⟩
    · exact P3.elim
  · exact P1.elim
theorem e_dget1 (hu : X.A.units + 1 < cLine) (ho : ME X W o mo) (hi : ME X W e mi) (m : M1 X o "get" apos e cpos := by exact ⟨rfl, rfl, rfl, rfl⟩) : ME X W (.Call (.Attribute o "get" apos) [e] [] cpos) (mGet1 mo mi) := by
  obtain ⟨t, q, s⟩ := ho
  obtain ⟨u, r, z⟩ := hi
  refine ⟨_, pe_dget1 hu q r m, fun σ H ρ env sto Q hE hS hP => ?_⟩
  refine s σ H ρ env sto _ hE hS ((hP.bind hS).imp fun ov s1 H1 ρ1 x1 S1 P1 x hx => ?_)
  have E1 := hE.mono x1.toExtW
  split at P1
  · rename_i pr e0
    obtain ⟨a, yvs0, hb, rfl, _, k10, _⟩ := dOf_ok S1 hx (n := pr.1) (kvs := pr.2) e0
    refine ⟨a, rfl, .inl ⟨_, .of k10⟩, z σ H1 ρ1 env s1 _ E1 S1 ((P1.bind S1).imp fun iv s2 H2 ρ2 x2 S2 P2 y hy => ?_)⟩
    split at P2
    · rename_i p e1
      obtain ⟨a', q, ea, hg, v', rfl, rv⟩ := keyD_ok S2 (hx.mono x2.toExtW) hy e1
      cases ea
      exact ⟨some v', hg, now S2 P2 rv⟩
    · rename_i e1
      obtain ⟨a', q, ea, hg, hq⟩ := keyD_ok S2 (hx.mono x2.toExtW) hy e1
      cases ea
      have hq : q = none := hq
      subst hq
      exact ⟨none, hg, now S2 P2 rfl⟩
    · exact P2.elim
  · exact P1.elim
end
end Mi

/-! tuples that are alike up to the first place that differs -/
namespace MiP
open PySem PySem.W PySem.SeqAt PySem.Calls PyProof.Rows

def alikePre : List PyData → List PyData → Bool
  | x :: xs, y :: ys => alike x y && (!PyData.eqv x y || alikePre xs ys)
  | _, _ => true
theorem pre_cons {x y : PyData} {xs ys : List PyData} (h : alikePre (x :: xs) (y :: ys) = true) : alike x y = true ∧ (PyData.eqv x y = true → alikePre xs ys = true) := by
  unfold alikePre at h
  rw [Bool.and_eq_true] at h
  refine ⟨h.1, fun e => ?_⟩
  have := h.2
  rw [e] at this
  simpa using this
section
variable {prog : Program} {w : World} {A : Around} {s : Shared} {E : Value → Shared → Prop}
theorem katP {b fin : Bool} {Q : Bool → Shared → Prop} : ∀ (xs ys : List PyData) (i : Nat) (vs ws : List Value) (p q : List Addr), ReadsAll s.heap vs xs p → ReadsAll s.heap ws ys q → alikePre xs ys = true →
    A.units + min (PyData.depthAll xs) (PyData.depthAll ys) < cLine → (b = true → i = 0 → ∀ x r t, xs = x :: r → x ≠ .tuple t) → fin = decide (xs.length < ys.length) → Q (PyProof.Rows.lexLt itemOrd (keyToksAll xs) (keyToksAll ys)) s → KatLex prog w A b fin Q (vs.zip ws) i s
  | [], ys, i, vs, ws, p, q, ra, rb, _, hu, hb, hf, hq => katLex_alike [] ys i vs ws p q ra rb (by cases ys <;> simp [alikeAll]) hu hb hf hq
  | x :: xs, [], i, vs, ws, p, q, ra, rb, _, hu, hb, hf, hq => katLex_alike (x :: xs) [] i vs ws p q ra rb (by simp [alikeAll]) hu hb hf hq
  | x :: xs, y :: ys, i, _, _, _, _, ra, rb, h, hu, hb, hf, hq => by
    have ⟨g1, g2⟩ := pre_cons h
    have hl : fin = decide (xs.length < ys.length) := hf.trans (by simp)
    cases ra with
    | cons r rs =>
      cases rb with
      | cons t ts =>
        refine (List.zip_cons_cons ▸ kat_cons (eqAt_alike x y A s _ _ _ _ r t g1 (room_head hu) prog w _ _ ?_) : KatLex prog w A b fin Q (List.zip (_ :: _) (_ :: _)) i s)
        cases hx : PyData.eqv x y with
        | true =>
          rw [dataLt_all_yes g1 hx] at hq
          exact kat_yes (katP xs ys (i + 1) _ _ _ _ rs ts (g2 hx) (room_tail hu) (fun _ z => absurd z (Nat.succ_ne_zero i)) hl hq)
        | false =>
          rw [dataLt_all_no g1 hx] at hq
          refine kat_no (oneLt_alike (fun z t => ?_) r t g1 (ne_none_of g1 hx) (room_head hu) hq)
          rw [Bool.and_eq_true] at z
          exact hb z.1 (by simpa using z.2) x xs t rfl
theorem pre_one {h : Heap} : ∀ (xs ys : List PyData) (vs : List Value) (p q : List Addr), alikePre xs ys = true → ReadsAll h vs xs p → ReadsAll h vs ys q → xs = ys
  | [], _, _, _, _, _, r, t => by cases r; cases t; rfl
  | x :: xs, [], _, _, _, _, r, t => by cases t; cases r
  | x :: xs, y :: ys, _, _, _, ha, r, t => by
    cases r with
    | cons r1 r2 =>
      cases t with
      | cons t1 t2 =>
        have ⟨g1, g2⟩ := pre_cons ha
        have e := alike_unique x y _ _ _ g1 r1 t1
        subst e
        rw [pre_one xs ys _ _ _ (g2 (eqv_refl_alike x g1)) r2 t2]
/-- tuples, not (), each two of which are alike up to the first place that differs -/
def AllPre (ds : List PyData) : Prop := ∀ d ∈ ds, ∀ e ∈ ds, ∃ x r y t, d = .tuple (x :: r) ∧ e = .tuple (y :: t) ∧ alikePre (x :: r) (y :: t) = true
theorem AllPre.one {h : Heap} {ds : List PyData} (hp : AllPre ds) {d e : PyData} {v : Value} {p q : List Addr} (hd : d ∈ ds) (he : e ∈ ds) (r : Reads h v d p) (t : Reads h v e q) : d = e := by
  obtain ⟨x, l, y, m, rfl, rfl, g⟩ := hp d hd e he
  cases r with
  | tuple r1 r2 r3 r4 =>
    cases t with
    | tuple t1 t2 t3 t4 =>
      rw [r1] at t1; cases t1
      rw [r3] at t3; cases t3
      rw [pre_one _ _ _ _ _ g r4 t4]
theorem kindP {h : Heap} {ds : List PyData} (hp : AllPre ds) {v : Value} {d : PyData} {p : List Addr} (hd : d ∈ ds) (r : Reads h v d p) : (dataKind h ds).keyOf v = some (keyToks d) := by
  cases e : (dataKind h ds).keyOf v with
  | none =>
    have hq : ∃ d, d ∈ ds ∧ ∃ as, Reads h v d as := ⟨d, hd, p, r⟩
    unfold dataKind at e
    simp only [dif_pos hq] at e
    cases e
  | some k =>
    obtain ⟨d', p', hd', r', rfl⟩ := dataKind_inv e
    rw [hp.one hd' hd r' r]
    rfl
theorem sortsP {vs : List Value} {ds : List PyData} (e : EachIs (fun v d => ∃ as, Reads s.heap v d as) vs ds) (hp : AllPre ds) (hu : ∀ d, d ∈ ds → A.units + d.depth < cLine) : SortsAt prog w A s (dataKind s.heap ds) vs := by
  have isT : ∀ d, d ∈ ds → ∃ x r, d = .tuple (x :: r) := fun d hd => by
    obtain ⟨x, r, _, _, e1, _, _⟩ := hp d hd d hd
    exact ⟨x, r, e1⟩
  refine ⟨fun v hv => ?_, ?_⟩
  · obtain ⟨d, hd, as, r⟩ := e.left v hv
    exact ⟨_, kindP hp hd r⟩
  · cases ds with
    | nil =>
      cases e
      exact ⟨general', fun E x y a b Q ha _ _ => (by
        obtain ⟨d, _, hd, _⟩ := dataKind_inv ha
        cases hd), fun h2 => by cases h2⟩
    | cons d0 dr =>
      obtain ⟨x0, r0, e0⟩ := isT d0 List.mem_cons_self
      have fst : ∀ x r, PyData.tuple (x :: r) ∈ d0 :: dr → alike x x0 = true := fun x r hm => by
        obtain ⟨a, l, b, m, e1, e2, g⟩ := hp _ hm d0 List.mem_cons_self
        rw [e0] at e2
        cases e1
        cases e2
        exact (pre_cons g).1
      refine ⟨tuples' (dataType x0 != Value.type "tuple"), ?_, fun h2 E Q hq => ?_⟩
      · intro E x y a b Q ha hb hq
        obtain ⟨d, p, hd, ra, rfl⟩ := dataKind_inv ha
        obtain ⟨d', p', hd', rb, rfl⟩ := dataKind_inv hb
        have hr : A.units + min d.depth d'.depth < cLine := Nat.lt_of_le_of_lt (Nat.add_le_add_left (Nat.min_le_left _ _) _) (hu d hd)
        obtain ⟨x1, r1, x2, r2, rfl, rfl, g⟩ := hp d hd d' hd'
        have hz : Q (dataLt (.tuple (x1 :: r1)) (.tuple (x2 :: r2))) s := hq
        rw [dataLt_tuple] at hz
        cases ra with
        | @tuple l o us n _ _ u1 u2 u3 u4 =>
          cases rb with
          | @tuple l' o' us' n' _ _ k1 k2 k3 k4 =>
            have n1 : us.size = (x1 :: r1).length := by simpa using SeqAt.ReadsAll.length _ _ _ u4
            have n2 : us'.size = (x2 :: r2).length := by simpa using SeqAt.ReadsAll.length _ _ _ k4
            refine kat_lt u1 u3 k1 k3 (katP (x1 :: r1) (x2 :: r2) 0 _ _ _ _ u4 k4 g (by have q := SeqAt.room_in hr; omega) (fun hb _ x r t ex => ?_) (by rw [n1, n2]) hz)
            cases ex
            rw [← dataType_alike (fst _ _ hd)] at hb
            exact dataType_tuple hb t
      · obtain ⟨fs, t1, t2, t3⟩ := each_katTups e isT
        refine kat_kind (T := dataType x0) t1 (by omega) (fun f hf => ?_) (beq_self_eq_true _) hq
        obtain ⟨x, r, as, m1, m2⟩ := t3 f hf
        exact dataType_alike (fst x r m1) ▸ looks_reads m2
theorem sorted_pre {β : Type} {vs : List Value} {bs : List β} {enc : β → PyData} {R : Value → β → Prop} {l : Addr} {Q : Value → Shared → Prop} (hl : s.heap.IsList l vs.toArray) (e : EachIs R vs bs) (er : EachIs (fun v b => ∃ as, Reads s.heap v (enc b) as) vs bs) (hp : AllPre (bs.map enc)) (hL : bs.length ≤ sizeLine)
    (hu : ∀ b, b ∈ bs → A.units + 2 + (enc b).depth < cLine) (h : ∀ out, out.length = bs.length → EachIs R out (bs.mergeSort (dataLe false enc)) → Q (.ref (s.heap.objs.size + 1)) { s with heap := sortedAll s.heap vs (List.toArray out) }) :
    wpAny (model prog w) A (call (.builtin "sorted") [.ref l]) Q E s := by
  have er2 : EachIs (fun v b => ∃ as, Reads (sortingHeap (copyHeap s.heap vs) (s.heap.objs.size + 1) vs) v (enc b) as) vs bs := er.mono fun _ _ z => z.imp fun _ r => PyProof.Rows.Reads.keeps (fun _ _ => sorting_copy_old) r
  have em := each_map (R := fun v d => ∃ as, Reads (sortingHeap (copyHeap s.heap vs) (s.heap.objs.size + 1) vs) v d as) enc er2
  have S := sortsP (prog := prog) (w := w) (A := A.in1.in1) (s := { s with heap := sortingHeap (copyHeap s.heap vs) (s.heap.objs.size + 1) vs }) em hp (bound_map (A := A.in1.in1) hu)
  refine sorted_vals hl S (Nat.le_trans (Nat.le_of_eq e.length) hL) (h _ ((sortVals_length false rfl).trans e.length) ?_)
  exact sortVals_each (κ := dataKind (sortingHeap (copyHeap s.heap vs) (s.heap.objs.size + 1) vs) (bs.map enc)) (fun b => keyToks (enc b)) e (each_of_map enc ((each_mem em).mono fun _ _ z => kindP hp z.2 z.1.choose_spec))
end
end MiP

noncomputable section
namespace Mi
open PySem PySem.Spec PyProof.Rows L2

/-! ### <, <=, >, >= of data that are alike -/
def rCmpD (K : PySem.W.Frag) (f : PyData → PyData → Bool) : R2 := fun x y H Q => ∃ d e, Dp K H x d ∧ Dp K H y e ∧ PySem.W.alike d e = true ∧ d ≠ .none ∧ SeqAt.shaped d = true ∧ Q (.bl (f d e)) H
section
variable {X : Cx}
theorem op_ltD (hu : X.A.units + 64 < cLine) : OpR X (compareOp .Lt) (rCmpD X.K PySem.W.dataLt) := by
  intro pins s σ H x y v u Q I rx ry h
  obtain ⟨d, e, hd, he, ha, hn, hs, q⟩ := h
  obtain ⟨as, r1⟩ := Dp.reads I d x v hd rx
  obtain ⟨bs, r2⟩ := Dp.reads I e y u he ry
  exact PySem.W.lt_data r1 r2 ha hn (SeqAt.room_of_shaped hs hu) ⟨.bl _, H, I, rfl, q⟩
theorem op_leD (hu : X.A.units + 64 < cLine) : OpR X (compareOp .LtE) (rCmpD X.K fun d e => !PySem.W.dataLt e d) := by
  intro pins s σ H x y v u Q I rx ry h
  obtain ⟨d, e, hd, he, ha, hn, hs, q⟩ := h
  obtain ⟨as, r1⟩ := Dp.reads I d x v hd rx
  obtain ⟨bs, r2⟩ := Dp.reads I e y u he ry
  exact PySem.W.le_data r1 r2 ha hn (SeqAt.room_of_shaped hs hu) ⟨.bl _, H, I, rfl, q⟩
theorem op_gtD (hu : X.A.units + 64 < cLine) : OpR X (compareOp .Gt) (rCmpD X.K fun d e => PySem.W.dataLt e d) := by
  intro pins s σ H x y v u Q I rx ry h
  obtain ⟨d, e, hd, he, ha, hn, hs, q⟩ := h
  obtain ⟨as, r1⟩ := Dp.reads I d x v hd rx
  obtain ⟨bs, r2⟩ := Dp.reads I e y u he ry
  exact PySem.W.gt_data r1 r2 ha hn (SeqAt.room_of_shaped hs hu) ⟨.bl _, H, I, rfl, q⟩
theorem op_geD (hu : X.A.units + 64 < cLine) : OpR X (compareOp .GtE) (rCmpD X.K fun d e => !PySem.W.dataLt d e) := by
  intro pins s σ H x y v u Q I rx ry h
  obtain ⟨d, e, hd, he, ha, hn, hs, q⟩ := h
  obtain ⟨as, r1⟩ := Dp.reads I d x v hd rx
  obtain ⟨bs, r2⟩ := Dp.reads I e y u he ry
  exact PySem.W.ge_data r1 r2 ha hn (SeqAt.room_of_shaped hs hu) ⟨.bl _, H, I, rfl, q⟩
end
def isNoneD : PyData → Bool
  | .none => true
  | _ => false
theorem isNoneD_ok {d : PyData} (h : isNoneD d = false) : d ≠ .none := fun e => by subst e; cases h
/-- ints first; pairs of ints; then any data -/
def gCmpD (f : PyData → PyData → Bool) : G2 := fun x y s => match toD s x, toD s y with
  | some d, some e => bif PySem.W.alike d e && (!isNoneD d && SeqAt.shaped d) then .ok (.bl (f d e)) s else .bad
  | _, _ => .bad
theorem g_cmpD {K : PySem.W.Frag} {f : PyData → PyData → Bool} : SR2 K (rCmpD K f) (gCmpD f) := by
  intro WP H ρ sto x y v u Q S rx ry P
  unfold gCmpD at P
  split at P
  · rename_i d e h1 h2
    obtain ⟨hc, P⟩ := and_of (C := Post K WP H ρ (GV K Q)) P (fun z => z)
    simp only [Bool.and_eq_true, Bool.not_eq_true'] at hc
    obtain ⟨ha, hn, hs⟩ := hc
    exact ⟨d, e, toD_ok rx h1, toD_ok ry h2, ha, isNoneD_ok hn, hs, now S P rfl⟩
  · exact P.elim
section
variable {X : Cx} {W : WK} {a b : Expr} {ma mb : M} {pos : Pos}
theorem e_ltD (hu : X.A.units + 64 < cLine) (ha : ME X W a ma) (hb : ME X W b mb) : ME X W (.Compare a [.Lt] [b] pos) (mBin (gCmpD PySem.W.dataLt) ma mb) := e_cmp (op_ltD hu) g_cmpD ha hb (nomark _)
theorem t_ltD (hu : X.A.units + 64 < cLine) (ha : ME X W a ma) (hb : ME X W b mb) : MTe X W (.Compare a [.Lt] [b] pos) (mT (mBin (gCmpD PySem.W.dataLt) ma mb)) := t_cmp (op_ltD hu) g_cmpD ha hb (nomark _)
theorem e_leD (hu : X.A.units + 64 < cLine) (ha : ME X W a ma) (hb : ME X W b mb) : ME X W (.Compare a [.LtE] [b] pos) (mBin (gCmpD fun d e => !PySem.W.dataLt e d) ma mb) := e_cmp (op_leD hu) g_cmpD ha hb (nomark _)
theorem t_leD (hu : X.A.units + 64 < cLine) (ha : ME X W a ma) (hb : ME X W b mb) : MTe X W (.Compare a [.LtE] [b] pos) (mT (mBin (gCmpD fun d e => !PySem.W.dataLt e d) ma mb)) := t_cmp (op_leD hu) g_cmpD ha hb (nomark _)
theorem e_gtD (hu : X.A.units + 64 < cLine) (ha : ME X W a ma) (hb : ME X W b mb) : ME X W (.Compare a [.Gt] [b] pos) (mBin (gCmpD fun d e => PySem.W.dataLt e d) ma mb) := e_cmp (op_gtD hu) g_cmpD ha hb (nomark _)
theorem t_gtD (hu : X.A.units + 64 < cLine) (ha : ME X W a ma) (hb : ME X W b mb) : MTe X W (.Compare a [.Gt] [b] pos) (mT (mBin (gCmpD fun d e => PySem.W.dataLt e d) ma mb)) := t_cmp (op_gtD hu) g_cmpD ha hb (nomark _)
theorem e_geD (hu : X.A.units + 64 < cLine) (ha : ME X W a ma) (hb : ME X W b mb) : ME X W (.Compare a [.GtE] [b] pos) (mBin (gCmpD fun d e => !PySem.W.dataLt d e) ma mb) := e_cmp (op_geD hu) g_cmpD ha hb (nomark _)
theorem t_geD (hu : X.A.units + 64 < cLine) (ha : ME X W a ma) (hb : ME X W b mb) : MTe X W (.Compare a [.GtE] [b] pos) (mT (mBin (gCmpD fun d e => !PySem.W.dataLt d e) ma mb)) := t_cmp (op_geD hu) g_cmpD ha hb (nomark _)
end

/-! ### sorted(xs), xs a list of data that are alike -/
section
variable {α : Type}
/-- a stable sort by insertion from the right -/
def insG (le : α → α → Bool) (a : α) : List α → List α
  | [] => [a]
  | b :: r => bif le a b then a :: b :: r else b :: insG le a r
def srtG (le : α → α → Bool) : List α → List α
  | [] => []
  | a :: r => insG le a (srtG le r)
variable {le : α → α → Bool}
theorem insG_mem {a x : α} : ∀ {l : List α}, x ∈ insG le a l → x = a ∨ x ∈ l
  | [], h => by simpa [insG] using h
  | b :: r, h => by
    unfold insG at h
    cases e : le a b with
    | true => rw [e] at h; simpa using h
    | false =>
      rw [e] at h
      rcases List.mem_cons.mp h with z | z
      · exact .inr (by rw [z]; exact List.mem_cons_self)
      · exact (insG_mem z).imp id (List.mem_cons_of_mem _)
theorem insG_up (T : PySem.W.TotalLe le) (a : α) : ∀ {l : List α}, l.Pairwise (fun x y => le x y = true) → (insG le a l).Pairwise (fun x y => le x y = true)
  | [], _ => by unfold insG; exact List.pairwise_singleton _ _
  | b :: r, h => by
    obtain ⟨h1, h2⟩ := List.pairwise_cons.mp h
    unfold insG
    cases e : le a b with
    | true =>
      refine List.pairwise_cons.mpr ⟨fun z hz => ?_, h⟩
      rcases List.mem_cons.mp hz with q | q
      · rw [q]; exact e
      · exact T.trans _ _ _ e (h1 z q)
    | false =>
      refine List.pairwise_cons.mpr ⟨fun z hz => ?_, insG_up T a h2⟩
      rcases insG_mem hz with q | q
      · rw [q]
        rcases T.total a b with w | w
        · rw [e] at w; cases w
        · exact w
      · exact h1 z q
theorem insG_filter (T : PySem.W.TotalLe le) (a c : α) : ∀ {l : List α}, (insG le a l).filter (PySem.W.sameRank le c) = (a :: l).filter (PySem.W.sameRank le c)
  | [] => by unfold insG; rfl
  | b :: r => by
    unfold insG
    cases e : le a b with
    | true => rfl
    | false =>
      show (b :: insG le a r).filter _ = _
      have ih := insG_filter T a c (l := r)
      rw [List.filter_cons, ih, List.filter_cons, List.filter_cons, List.filter_cons]
      have no : ¬ (PySem.W.sameRank le c a = true ∧ PySem.W.sameRank le c b = true) := fun ⟨h1, h2⟩ => by
        unfold PySem.W.sameRank at h1 h2
        rw [Bool.and_eq_true] at h1 h2
        have := T.trans _ _ _ h1.2 h2.1
        rw [e] at this; cases this
      by_cases ha : PySem.W.sameRank le c a = true
      · by_cases hb : PySem.W.sameRank le c b = true
        · exact absurd ⟨ha, hb⟩ no
        · simp [ha, hb]
      · simp [ha]
theorem srtG_ok (T : PySem.W.TotalLe le) : ∀ l : List α, (srtG le l).Pairwise (fun x y => le x y = true) ∧ ∀ c, (srtG le l).filter (PySem.W.sameRank le c) = l.filter (PySem.W.sameRank le c)
  | [] => ⟨.nil, fun _ => rfl⟩
  | a :: r => by
    obtain ⟨h1, h2⟩ := srtG_ok T r
    refine ⟨insG_up T a h1, fun c => ?_⟩
    show (insG le a (srtG le r)).filter _ = _
    rw [insG_filter T, List.filter_cons, List.filter_cons, h2 c]
theorem srtG_eq (T : PySem.W.TotalLe le) (l : List α) : srtG le l = l.mergeSort le := PySem.W.sort_unique T (srtG_ok T l).1 (srtG_ok T l).2
end
def rSortedD (K : PySem.W.Frag) : List V → Hp → VK → Prop := fun vs H Q => ∃ (a : Addr) (bs : List (PyData × V)), vs = [V.ref a] ∧ SqL K H a (bs.map (·.2)) ∧ (∀ b ∈ bs, Dp K H b.2 b.1) ∧ ((PySem.W.AllAlike (bs.map (·.1)) ∧ PySem.W.Sortable (bs.map (·.1))) ∨ MiP.AllPre (bs.map (·.1))) ∧ (∀ b ∈ bs, SeqAt.shaped b.1 = true) ∧
  ∀ p, H p = none → Q (.ref p) (upd H p (.lst ((bs.mergeSort (PySem.W.dataLe false (·.1))).map (·.2))))
theorem eachOf {H : Hp} {K : PySem.W.Frag} : ∀ {bs : List (PyData × V)} {its : List Value}, Vals (bs.map (·.2)) its → PySem.W.EachIs (fun (u : Value) (b : PyData × V) => RelV b.2 u) its bs
  | [], its, h => by cases h; exact .nil
  | b :: bs, its, h => by
    cases h with
    | cons h1 h2 => exact .cons h1 (eachOf (K := K) (H := H) h2)
theorem eachReads {X : Cx} {pins : List (Addr × Obj)} {σ : L2.St} {H : Hp} {s : Shared} (I : Inv X pins σ H s) : ∀ {bs : List (PyData × V)} {its : List Value}, Vals (bs.map (·.2)) its → (∀ b ∈ bs, Dp X.K H b.2 b.1) → PySem.W.EachIs (fun (u : Value) (b : PyData × V) => ∃ as, Reads s.heap u b.1 as) its bs
  | [], its, h, _ => by cases h; exact .nil
  | b :: bs, its, h, hd => by
    cases h with
    | cons h1 h2 => exact .cons (Dp.reads I b.1 b.2 _ (hd b List.mem_cons_self) h1) (eachReads I h2 fun z hz => hd z (List.mem_cons_of_mem _ hz))
theorem valsOf : ∀ {bs : List (PyData × V)} {out : List Value}, PySem.W.EachIs (fun (u : Value) (b : PyData × V) => RelV b.2 u) out bs → Vals (bs.map (·.2)) out
  | _, _, .nil => .nil
  | _, _, .cons h t => .cons h (valsOf t)
theorem cr_sortedD {X : Cx} (hu : X.A.units + 80 < cLine) : CallR X (.builtin "sorted") (rSortedD X.K) := by
  intro pins s σ H vs us Q I r h
  obtain ⟨a, bs, rfl, hs, hd, hal, hsh, q⟩ := h
  obtain ⟨its, rv, hl, hz⟩ := I.list hs
  rw [Vals.ref1 r]
  rw [List.length_map] at hz
  have hb : ∀ b : PyData × V, b ∈ bs → X.A.units + 2 + b.1.depth < cLine := fun b hb => by
    have := SeqAt.depth_of_shaped (hsh b hb)
    omega
  have fin : ∀ out : List Value, out.length = bs.length → PySem.W.EachIs (fun (u : Value) (b : PyData × V) => RelV b.2 u) out (bs.mergeSort (PySem.W.dataLe false fun b : PyData × V => b.1)) → EP X pins σ Q (.ref (s.heap.objs.size + 1)) { s with heap := sortedAll s.heap its out.toArray } := fun out ho eo => by
    obtain ⟨ep, he'⟩ := PyProof.Rows.sortedAll_at s.heap its out.toArray
    have rv' := valsOf eo
    have hlen : ((bs.mergeSort (PySem.W.dataLe false (·.1))).map (·.2)).length ≤ sizeLine := by
      rw [List.length_map, List.length_mergeSort]; exact hz
    exact ⟨.ref _, upd H (s.heap.objs.size + 1) (.lst ((bs.mergeSort (PySem.W.dataLe false (·.1))).map (·.2))), I.laid (t' := s.toks) (fun _ _ => PyProof.Rows.sortedAll_old) (Nat.le_succ _) ⟨hlen, out, ep, rv', he'⟩, rfl, q _ (I.hok.fresh (Nat.le_succ _))⟩
  rcases hal with ⟨hal, hk⟩ | hal
  · exact PySem.W.sorted_data (enc := fun b : PyData × V => b.1) hl.isList (eachOf (K := X.K) (H := H) rv) (eachReads I rv hd) hal hk hz hb fin
  · exact MiP.sorted_pre (enc := fun b : PyData × V => b.1) hl.isList (eachOf (K := X.K) (H := H) rv) (eachReads I rv hd) hal hz hb fin
/-- in PV -/
def pairD (s : Sto) : List PV → Option (List (PyData × PV))
  | [] => some []
  | x :: xs => match toD s x with
    | some d => match pairD s xs with
      | some r => some ((d, x) :: r)
      | none => none
    | none => none
def allAlikeB : List PyData → Bool
  | [] => true
  | d :: ds => (bif PySem.W.alike d d then (ds.all fun e => PySem.W.alike d e && PySem.W.alike e d) else false) && allAlikeB ds
theorem allAlikeB_ok : ∀ {ds : List PyData}, allAlikeB ds = true → PySem.W.AllAlike ds
  | [], _ => fun d hd => by cases hd
  | d :: ds, h => by
    unfold allAlikeB at h
    rw [Bool.and_eq_true] at h
    obtain ⟨h1, h2⟩ := h
    have ih := allAlikeB_ok h2
    cases e : PySem.W.alike d d with
    | false => rw [e] at h1; cases h1
    | true =>
      rw [e] at h1
      have h1 : ds.all (fun e => PySem.W.alike d e && PySem.W.alike e d) = true := h1
      have h3 : ∀ z ∈ ds, PySem.W.alike d z = true ∧ PySem.W.alike z d = true := fun z hz => by
        have := List.all_eq_true.mp h1 z hz
        rw [Bool.and_eq_true] at this
        exact this
      intro x hx y hy
      rcases List.mem_cons.mp hx with rfl | hx
      · rcases List.mem_cons.mp hy with rfl | hy
        · exact e
        · exact (h3 y hy).1
      · rcases List.mem_cons.mp hy with q | hy
        · rw [q]; exact (h3 x hx).2
        · exact ih x hx y hy
def tupB : PyData → Bool
  | .tuple (_ :: _) => true
  | _ => false
def flatB : PyData → Bool
  | .tuple _ => false
  | .none => false
  | _ => true
theorem sortable_ok {ds : List PyData} (h : (ds.all tupB || ds.all flatB) = true) : PySem.W.Sortable ds := by
  rw [Bool.or_eq_true] at h
  rcases h with h | h
  · refine .inl fun d hd => ?_
    have := List.all_eq_true.mp h d hd
    unfold tupB at this
    split at this
    · exact ⟨_, _, rfl⟩
    · cases this
  · refine .inr fun d hd => ?_
    have := List.all_eq_true.mp h d hd
    exact ⟨(fun e => by rw [e] at this; cases this), (fun xs e => by rw [e] at this; cases this)⟩
def headB : PyData → List PyData
  | .tuple xs => xs
  | _ => []
def allPreB (ds : List PyData) : Bool := ds.all tupB && ds.all fun d => ds.all fun e => MiP.alikePre (headB d) (headB e)
theorem allPreB_ok {ds : List PyData} (h : allPreB ds = true) : MiP.AllPre ds := by
  unfold allPreB at h
  rw [Bool.and_eq_true] at h
  intro d hd e he
  have h1 := List.all_eq_true.mp h.1 d hd
  have h2 := List.all_eq_true.mp h.1 e he
  have h3 := List.all_eq_true.mp (List.all_eq_true.mp h.2 d hd) e he
  unfold tupB at h1 h2
  split at h1
  · split at h2
    · exact ⟨_, _, _, _, rfl, rfl, h3⟩
    · cases h2
  · cases h1
def gSortD (fr : Bool) : GC := fun xs s => match xs with
  | [x] => match getF s x with
    | some ys => match pairD s ys with
      | some bs => bif ((allAlikeB (bs.map (·.1)) && ((bs.map (·.1)).all tupB || (bs.map (·.1)).all flatB)) || allPreB (bs.map (·.1))) && (bs.map (·.1)).all SeqAt.shaped then fresh fr ((srtG (PySem.W.dataLe false (·.1)) bs).map (·.2)) s else .bad
      | none => .bad
    | none => .bad
  | _ => .bad
section
variable {K : PySem.W.Frag} {H : Hp} {ρ : Rh} {sto : Sto}
/-- the pairs of PV and V go together -/
def trip : List (PyData × PV) → List V → List ((PyData × PV) × V)
  | b :: bs, v :: vs => (b, v) :: trip bs vs
  | _, _ => []
theorem pairD_ok : ∀ {ys : List PV} {zs : List V} {bs : List (PyData × PV)}, RVs K H ρ ys zs → pairD sto ys = some bs → bs.map (·.2) = ys ∧ bs.length = zs.length ∧ (∀ t ∈ trip bs zs, RV K H ρ t.1.2 t.2 ∧ Dp K H t.2 t.1.1)
  | [], _, _, r, h => by cases r; cases h; exact ⟨rfl, rfl, fun t ht => by cases ht⟩
  | x :: xs, _, bs, r, h => by
    obtain ⟨v, ws, rfl, h2, h3⟩ := r
    unfold pairD at h
    split at h
    · rename_i d e1
      split at h
      · rename_i r' e2
        cases h
        obtain ⟨k1, k2, k3⟩ := pairD_ok h3 e2
        refine ⟨by simp [k1], by simp [k2], fun t ht => ?_⟩
        rcases List.mem_cons.mp ht with rfl | ht
        · exact ⟨h2, toD_ok h2 e1⟩
        · exact k3 t ht
      · cases h
    · cases h
theorem trip_fst : ∀ {bs : List (PyData × PV)} {vs : List V}, bs.length = vs.length → (trip bs vs).map (·.1) = bs ∧ (trip bs vs).map (·.2) = vs
  | [], [], _ => ⟨rfl, rfl⟩
  | [], _ :: _, h => by cases h
  | _ :: _, [], h => by cases h
  | b :: bs, v :: vs, h => by
    obtain ⟨h1, h2⟩ := trip_fst (bs := bs) (vs := vs) (by simpa using h)
    exact ⟨by simp [trip, h1], by simp [trip, h2]⟩
theorem rvs_trip : ∀ {ts : List ((PyData × PV) × V)}, (∀ t ∈ ts, RV K H ρ t.1.2 t.2) → RVs K H ρ (ts.map fun t => t.1.2) (ts.map (·.2))
  | [], _ => .nil
  | t :: ts, h => .cons (h t List.mem_cons_self) (rvs_trip fun z hz => h z (List.mem_cons_of_mem _ hz))
end
theorem g_sortD {K : PySem.W.Frag} {fr : Bool} : SRc K (rSortedD K) (gSortD fr) := by
  intro WP H ρ sto xs vs Q S r P
  unfold gSortD at P
  split at P
  · obtain ⟨v, rfl, rv⟩ := r.one
    split at P
    · rename_i ys e
      split at P
      · rename_i bs e2
        obtain ⟨hc, P⟩ := and_of (C := Post K WP H ρ (GV K Q)) P (fun z => z)
        rw [Bool.and_eq_true, Bool.or_eq_true, Bool.and_eq_true] at hc
        obtain ⟨hc1, hc3⟩ := hc
        obtain ⟨a, zs, rfl, h1, h2⟩ := getF_ok S rv e
        obtain ⟨k1, k2, k3⟩ := pairD_ok h2 e2
        obtain ⟨f1, f2⟩ := trip_fst k2
        have em : ((trip bs zs).map fun t => (t.1.1, t.2)).map (·.1) = bs.map (·.1) := by
          rw [List.map_map, ← f1, List.map_map]
          rw [f1]
          rfl
        have em2 : ((trip bs zs).map fun t => (t.1.1, t.2)).map (·.2) = zs := by
          rw [List.map_map]
          exact f2
        refine ⟨a, (trip bs zs).map fun t => (t.1.1, t.2), rfl, by rw [em2]; exact h1, fun b hb => ?_, by rw [em]; exact hc1.imp (fun z => ⟨allAlikeB_ok z.1, sortable_ok z.2⟩) allPreB_ok, fun b hb => ?_, fun p hp => ?_⟩
        · obtain ⟨t, ht, rfl⟩ := List.mem_map.mp hb
          exact (k3 t ht).2
        · have hm : b.1 ∈ bs.map (·.1) := by rw [← em]; exact List.mem_map.mpr ⟨b, hb, rfl⟩
          exact List.all_eq_true.mp hc3 _ hm
        · have s1 : (((trip bs zs).map fun t => (t.1.1, t.2)).mergeSort (PySem.W.dataLe false (·.1))).map (·.2) = ((trip bs zs).mergeSort (PySem.W.dataLe false fun t => t.1.1)).map (·.2) := by
            rw [← List.map_mergeSort (f := fun t : (PyData × PV) × V => (t.1.1, t.2)) (r := PySem.W.dataLe false fun t => t.1.1) fun a _ b _ => rfl, List.map_map]
            rfl
          have s2 : (srtG (PySem.W.dataLe false (·.1)) bs).map (·.2) = ((trip bs zs).mergeSort (PySem.W.dataLe false fun t => t.1.1)).map fun t => t.1.2 := by
            rw [srtG_eq (α := PyData × PV) (le := PySem.W.dataLe false fun b : PyData × PV => b.1) (PySem.W.sortLe_total _ _ _)]
            have := List.map_mergeSort (f := fun t : (PyData × PV) × V => t.1) (r := PySem.W.dataLe false fun t => t.1.1) (s := PySem.W.dataLe false fun b : PyData × PV => b.1) (l := trip bs zs) fun a _ b _ => rfl
            rw [show (fun t : (PyData × PV) × V => t.1) = (·.1) from rfl, f1] at this
            rw [← this, List.map_map]
            rfl
          rw [s1]
          rw [s2] at P
          exact fresh_ok S (rvs_trip fun t ht => (k3 t (List.mem_mergeSort.mp ht)).1) P hp
      · exact P.elim
    · exact P.elim
  · exact P.elim
section
variable {X : Cx} {W : WK} {e : Expr} {p pos : Pos} {es : List Expr} {ms : MA}
theorem e_sortD {fr : Bool} (hu : X.A.units + 80 < cLine) (gl : Gl X "sorted") (hm : X.mg "sorted" = none) (ha : MEs X W (e :: es) ms) (he : starEach (e :: es) X.env = (false, eval e X.env) :: starEach es X.env := by rfl) (hpl : (backTo pos (starEach es X.env)).any (·.1) = false := by rfl) :
    ME X W (.Call (.Name "sorted" p) (e :: es) [] pos) (mCall (gSortD fr) ms) := e_callB (cr_sortedD hu) g_sortD gl hm (by decide +kernel) ha (by decide) (by decide) he hpl
theorem hu80 {A : Around} {k : Nat} (hr : Room k A) : A.units + 80 < cLine := by have := hr.un; omega
theorem hu64 {A : Around} {k : Nat} (hr : Room k A) : A.units + 64 < cLine := by have := hr.un; omega
end
end Mi

noncomputable section
namespace Mi
open PySem PySem.Spec PyProof.Rows L2

/-! ### list(d), dict(d) of a dict -/
def keyPV : Key → PV
  | .inl i => .int i
  | .inr x => .str x
theorem keyPV_ok {K : PySem.W.Frag} {H : Hp} {ρ : Rh} : ∀ k : Key, RV K H ρ (keyPV k) (kV k)
  | .inl _ => rfl
  | .inr _ => rfl
theorem keysPV {K : PySem.W.Frag} {H : Hp} {ρ : Rh} : ∀ {kvs : List (Key × PV)} {yvs : List (Key × V)}, kvs.map (·.1) = yvs.map (·.1) → RVs K H ρ (kvs.map fun p => keyPV p.1) (yvs.map fun p => kV p.1)
  | [], [], _ => .nil
  | [], _ :: _, h => by cases h
  | _ :: _, [], h => by cases h
  | p :: kvs, q :: yvs, h => by
    simp only [List.map_cons, List.cons.injEq] at h
    refine .cons ?_ (keysPV h.2)
    show RV K H ρ (keyPV p.1) (kV q.1)
    rw [← h.1]
    exact keyPV_ok p.1
def gListD (fr : Bool) : GC := fun xs s => match xs with
  | [x] => match dOf s x with
    | some (_, kvs) => fresh fr (kvs.map fun p => keyPV p.1) s
    | none => .bad
  | _ => .bad
def gDictD : GC := fun xs s => match xs with
  | [x] => match dOf s x with
    | some (_, kvs) => .ok (.box s.length) (s ++ [.d kvs])
    | none => .bad
  | _ => .bad
def gLenDD : GC := fun xs s => match xs with
  | [x] => match dOf s x with
    | some (_, kvs) => bif Nat.ble kvs.length sizeLine then .ok (.int kvs.length) s else .bad
    | none => .bad
  | _ => .bad
theorem g_listD {K : PySem.W.Frag} {fr : Bool} : SRc K (fun xs H Q => ∃ (a : Addr) (kvs : List (Key × V)), xs = [.ref a] ∧ Rd H a (.dK kvs) ∧ ∀ p, H p = none → Q (.ref p) (upd H p (.lst (kvs.map fun kv => kV kv.1)))) (gListD fr) := by
  intro WP H ρ sto xs vs Q S r P
  unfold gListD at P
  split at P
  · obtain ⟨v, rfl, rv⟩ := r.one
    split at P
    · rename_i n kvs e
      obtain ⟨a, yvs, _, rfl, _, h1, h2⟩ := dOf_ok S rv e
      exact ⟨a, yvs, rfl, .inl h1, fun p hp => fresh_ok S (keysPV h2.1) P hp⟩
    · exact P.elim
  · exact P.elim
theorem g_dictD {K : PySem.W.Frag} : SRc K (fun xs H Q => ∃ (a : Addr) (kvs : List (Key × V)), xs = [.ref a] ∧ Rd H a (.dK kvs) ∧ ∀ p, H p = none → Q (.ref p) (upd H p (.dK kvs))) gDictD := by
  intro WP H ρ sto xs vs Q S r P
  unfold gDictD at P
  split at P
  · obtain ⟨v, rfl, rv⟩ := r.one
    split at P
    · rename_i n kvs e
      obtain ⟨a, yvs, _, rfl, _, h1, h2⟩ := dOf_ok S rv e
      refine ⟨a, yvs, rfl, .inl h1, fun p hp => ?_⟩
      obtain ⟨x, S2⟩ := S.newBx (b := .d kvs) (o := .dK yvs) hp fun H1 x e => ⟨yvs, e, h2.1, h2.2.mono x⟩
      exact P _ _ x S2 _ ⟨p, rfl, by rw [← S.len]; simp⟩
    · exact P.elim
  · exact P.elim
section
variable {X : Cx} {W : WK} {e : Expr} {p pos : Pos} {es : List Expr} {ms : MA}
theorem e_listD {fr : Bool} (hc : X.calm = true) (gl : Gl X "list") (hm : X.mg "list" = none) (ha : MEs X W (e :: es) ms) (he : starEach (e :: es) X.env = (false, eval e X.env) :: starEach es X.env := by rfl) (hpl : (backTo pos (starEach es X.env)).any (·.1) = false := by rfl) :
    ME X W (.Call (.Name "list" p) (e :: es) [] pos) (mCall (gListD fr) ms) := e_callTy (call_listD hc) g_listD gl hm (by decide +kernel) ha (by decide) (by decide) he hpl
theorem e_dictD (gl : Gl X "dict") (hm : X.mg "dict" = none) (ha : MEs X W (e :: es) ms) (he : starEach (e :: es) X.env = (false, eval e X.env) :: starEach es X.env := by rfl) (hpl : (backTo pos (starEach es X.env)).any (·.1) = false := by rfl) :
    ME X W (.Call (.Name "dict" p) (e :: es) [] pos) (mCall gDictD ms) := e_callTy call_dictD g_dictD gl hm (by decide +kernel) ha (by decide) (by decide) he hpl
end

/-! ** of bigger numbers -/
def CPowB (i j : Int) : Prop := 0 ≤ j ∧ (Builtin.Int.intBits i : Int) * j ≤ 2 ^ 27
def cPowB (i j : Int) : Bool := match j with
  | .ofNat n => Nat.ble ((i.natAbs.log2 + 1) * n) 134217728
  | .negSucc _ => false
theorem cPowB_ok (i j : Int) (h : cPowB i j = true) : CPowB i j := by
  unfold cPowB at h
  split at h
  · rename_i n
    have h1 := Nat.le_of_ble_eq_true h
    refine ⟨Int.natCast_nonneg n, ?_⟩
    have h2 : Builtin.Int.intBits i ≤ i.natAbs.log2 + 1 := by
      unfold Builtin.Int.intBits
      split <;> omega
    have h3 : Builtin.Int.intBits i * n ≤ 134217728 := Nat.le_trans (Nat.mul_le_mul_right n h2) h1
    show (Builtin.Int.intBits i : Int) * ((n : Nat) : Int) ≤ 2 ^ 27
    omega
  · cases h
def gPowB : G2 := gI cPowB fun i j => .int (i ^ j.toNat)
section
variable {X : Cx} {W : WK} {a b : Expr} {ma mb : M} {pos : Pos}
theorem op_powB : OpR X (binaryOp .Pow) (rI CPowB fun i j => .int (i ^ j.toNat)) := opI fun _ _ _ _ _ _ _ hc q => pow_int hc.1 hc.2 q
theorem e_powB (ha : ME X W a ma) (hb : ME X W b mb) : ME X W (.BinOp a .Pow b pos) (mBin gPowB ma mb) := e_op op_powB (g_I cPowB_ok fun _ _ _ _ => rfl) ha hb
end
end Mi

set_option autoImplicit true
noncomputable section
namespace Lw
open PySem PySem.Spec PyProof.Rows L2 Mi
def topS (i : Nat) : Stmt := PySem.Challenge.pw_plainlock_k20_plans_by_hand_and_refused.main.body.getD i (.Pass ⟨0, 0, 0, 0⟩)
abbrev veL : List Value := [.type "ValueError", .type "Exception", .type "BaseException", .type "object"]
abbrev leL : List Value := [.type "LookupError", .type "Exception", .type "BaseException", .type "object"]
theorem ty_ValueError : typeOf (.type "ValueError") = pure (.type "type") := by kernel_rfl
theorem ty_LookupError : typeOf (.type "LookupError") = pure (.type "type") := by kernel_rfl
structure FD (K : PySem.W.Frag) (mg : Str → Option Value) (x : Str) (st : Stmt) (ps : List Str) where
  f : Addr
  fd : FuncData
  F : Fun K x x st f fd
  m : mg x = some (.ref f)
  b : Binds K fd ps []
structure MD (K : PySem.W.Frag) (x q : Str) (st : Stmt) (ps : List Str) where
  f : Addr
  fd : FuncData
  F : Fun K x q st f fd
  b : Binds K fd ps []
structure CD (K : PySem.W.Frag) (mg : Str → Option Value) (n : Str) where
  C : Addr
  ns : PySem.W.nsIn K mainGlobals n = some (some (.ref C))
  m : mg n = some (.ref C)
  c : Cls K C
structure XD (K : PySem.W.Frag) (mg : Str → Option Value) (n : Str) (q : Str) (st : Stmt) (newId : String) (bm : List Value) (ps : List Str) where
  C : Addr
  fI : Addr
  fd : FuncData
  m : mg n = some (.ref C)
  ns : PySem.W.nsIn K mainGlobals n = some (some (.ref C))
  T : OxC K newId bm C
  iC : PySem.W.findIn K (.ref C) "__init__" = some (some (.ref fI))
  tI : PySem.W.typeIn K (.ref fI) = some (.type "function")
  F : Fun K "__init__" q st fI fd
  b : Binds K fd ps []
structure Tx (K : PySem.W.Frag) (mg : Str → Option Value) (base : Heap) where
  d_tupled : FD K mg "tupled" (topS 6) ["value"]
  d_is_number : FD K mg "is_number" (topS 7) ["thing"]
  d_is_count : FD K mg "is_count" (topS 8) ["thing"]
  d_is_place : FD K mg "is_place" (topS 9) ["many", "thing"]
  d_is_truth : FD K mg "is_truth" (topS 10) ["thing"]
  d_is_tuple_of : FD K mg "is_tuple_of" (topS 11) ["test", "thing"]
  d_is_row : FD K mg "is_row" (topS 12) ["many", "thing"]
  d_goes_up : FD K mg "goes_up" (topS 13) ["row"]
  d_fraction : FD K mg "fraction" (topS 17) ["top", "below"]
  d_is_fraction : FD K mg "is_fraction" (topS 18) ["thing"]
  d_plus : FD K mg "plus" (topS 19) ["x", "y"]
  d_times : FD K mg "times" (topS 20) ["x", "y"]
  d_over : FD K mg "over" (topS 21) ["x", "y"]
  d_less : FD K mg "less" (topS 22) ["x", "y"]
  d_is_from_zero : FD K mg "is_from_zero" (topS 23) ["thing"]
  d_is_most : FD K mg "is_most" (topS 24) ["least_one", "thing"]
  d_is_clock : FD K mg "is_clock" (topS 26) ["thing"]
  d__is_length : FD K mg "_is_length" (topS 41) ["thing"]
  d_is_kept : FD K mg "is_kept" (topS 40) ["thing"]
  d_is_lot : FD K mg "is_lot" (topS 39) ["many", "thing"]
  d_is_lots : FD K mg "is_lots" (topS 38) ["many", "thing"]
  d_is_leg : FD K mg "is_leg" (topS 42) ["thing"]
  d_is_library : FD K mg "is_library" (topS 43) ["thing"]
  d__is_store : FD K mg "_is_store" (topS 44) ["thing"]
  d__is_fault : FD K mg "_is_fault" (topS 37) ["thing"]
  d_is_faults : FD K mg "is_faults" (topS 36) ["thing"]
  d_is_plan : FD K mg "is_plan" (topS 35) ["thing"]
  d__paths : FD K mg "_paths" (topS 47) ["plan"]
  d_settings : FD K mg "settings" (topS 45) ["plan"]
  d__at : FD K mg "_at" (topS 49) ["value", "path"]
  d_times_of : FD K mg "times_of" (topS 46) ["plan"]
  d__path : FD K mg "_path" (topS 48) ["plan", "name"]
  d__with : FD K mg "_with" (topS 50) ["value", "path", "new"]
  d_setting : FD K mg "setting" (topS 51) ["plan", "name"]
  d_changed : FD K mg "changed" (topS 52) ["plan", "name", "value"]
  d_scaled : FD K mg "scaled" (topS 53) ["plan", "factor"]
  d_longest_belief : FD K mg "longest_belief" (topS 54) ["plan"]
  d_check_keeper : FD K mg "check_keeper" (topS 56) ["plan", "keeper"]
  d_shortest_keep : FD K mg "shortest_keep" (topS 55) ["plan", "keeper"]
  d_can_hold : FD K mg "can_hold" (topS 57) ["plan"]
  d__without_times : FD K mg "_without_times" (topS 59) ["plan"]
  d_same_but_times : FD K mg "same_but_times" (topS 58) ["plan", "other"]
  d__is_up_to : FD K mg "_is_up_to" (topS 62) ["most", "other"]
  d__covers_leg : FD K mg "_covers_leg" (topS 61) ["leg", "wider"]
  d_covers : FD K mg "covers" (topS 60) ["plan", "other"]
  d__law_box : FD K mg "_law_box" (topS 64) ["script", "k"]
  d__law_take : FD K mg "_law_take" (topS 65) ["urn", "below"]
  d__law_cells : FD K mg "_law_cells" (topS 66) ["script", "many"]
  d__law_lists : FD K mg "_law_lists" (topS 67) ["matter"]
  d__law_same : FD K mg "_law_same" (topS 68) ["got", "due"]
  d__law_lone : FD K mg "_law_lone" (topS 69) []
  d__law_put : FD K mg "_law_put" (topS 70) ["whole", "path", "value"]
  d__law_pair : FD K mg "_law_pair" (topS 71) []
  d__law_bent : FD K mg "_law_bent" (topS 72) []
  d__law_judged_right : FD K mg "_law_judged_right" (topS 73) []
  d__law_names : FD K mg "_law_names" (topS 74) []
  d__law_told_right : FD K mg "_law_told_right" (topS 75) []
  d__law_changed_right : FD K mg "_law_changed_right" (topS 76) []
  d__law_heard : FD K mg "_law_heard" (topS 77) ["door", "its"]
  d__law_refused_right : FD K mg "_law_refused_right" (topS 78) []
  d__law_soft_right : FD K mg "_law_soft_right" (topS 79) []
  d_law : FD K mg "law" (topS 80) ["script"]
  c_NoPlace : XD K mg "NoPlace" "NoPlace.__init__" (inClass (topS 2) 0) "LookupError.__new__" leL ["self", "place"]
  t_NoPlace : PySem.W.takerIn K c_NoPlace.C "place" = some none
  k_NoPlace : ∀ (s : Shared) (a : Addr) (u : Value), BindsTo s c_NoPlace.fd ⟨[.ref a], [("place", u)]⟩ [("self", .ref a), ("place", u)]
  c_Unfit : XD K mg "Unfit" "Unfit.__init__" (inClass (topS 4) 0) "ValueError.__new__" veL ["self"]
  c_CanNot : XD K mg "CanNot" "CanNot.__init__" (inClass (topS 3) 0) "ValueError.__new__" veL ["self"]
  v_LookupError : PySem.W.findCls K (.type "LookupError") (.type "type") "__init__" = some (.val (.builtin "LookupError.__init__"))
  v_ValueError : PySem.W.findCls K (.type "ValueError") (.type "type") "__init__" = some (.val (.builtin "ValueError.__init__"))
  ox : OxK K
  i_LookupError : IsTab K (.type "LookupError") [("NoPlace", true), ("CanNot", false), ("Unfit", false)]
  i_ValueError : IsTab K (.type "ValueError") [("NoPlace", false), ("CanNot", true), ("Unfit", true)]
  h_NoPlace : XmTab K (.ref c_NoPlace.C) [("NoPlace", true), ("CanNot", false), ("Unfit", false)]
  h_Unfit : XmTab K (.ref c_Unfit.C) [("NoPlace", false), ("CanNot", false), ("Unfit", true)]
  w_is_plan : ∀ (s : Shared) (ws : List Value), ws.length = (["thing"] : List Str).length → BindsTo s d_is_plan.fd ⟨[], (["thing"] : List Str).zip ws⟩ ((["thing"] : List Str).zip ws)
  w_times_of : ∀ (s : Shared) (ws : List Value), ws.length = (["plan"] : List Str).length → BindsTo s d_times_of.fd ⟨[], (["plan"] : List Str).zip ws⟩ ((["plan"] : List Str).zip ws)
  w_settings : ∀ (s : Shared) (ws : List Value), ws.length = (["plan"] : List Str).length → BindsTo s d_settings.fd ⟨[], (["plan"] : List Str).zip ws⟩ ((["plan"] : List Str).zip ws)
  w_can_hold : ∀ (s : Shared) (ws : List Value), ws.length = (["plan"] : List Str).length → BindsTo s d_can_hold.fd ⟨[], (["plan"] : List Str).zip ws⟩ ((["plan"] : List Str).zip ws)
  w_longest_belief : ∀ (s : Shared) (ws : List Value), ws.length = (["plan"] : List Str).length → BindsTo s d_longest_belief.fd ⟨[], (["plan"] : List Str).zip ws⟩ ((["plan"] : List Str).zip ws)
  wp_scaled_factor_plan : ∀ (s : Shared) (ws : List Value), ws.length = ([1, 0] : List Nat).length → BindsTo s d_scaled.fd ⟨[], (["factor", "plan"] : List Str).zip ws⟩ ((["plan", "factor"] : List Str).zip (pick [1, 0] ws))
  wp_changed_value_name_plan : ∀ (s : Shared) (ws : List Value), ws.length = ([2, 1, 0] : List Nat).length → BindsTo s d_changed.fd ⟨[], (["value", "name", "plan"] : List Str).zip ws⟩ ((["plan", "name", "value"] : List Str).zip (pick [2, 1, 0] ws))
  wp_setting_name_plan : ∀ (s : Shared) (ws : List Value), ws.length = ([1, 0] : List Nat).length → BindsTo s d_setting.fd ⟨[], (["name", "plan"] : List Str).zip ws⟩ ((["plan", "name"] : List Str).zip (pick [1, 0] ws))
  wp_covers_other_plan : ∀ (s : Shared) (ws : List Value), ws.length = ([1, 0] : List Nat).length → BindsTo s d_covers.fd ⟨[], (["other", "plan"] : List Str).zip ws⟩ ((["plan", "other"] : List Str).zip (pick [1, 0] ws))
  wp_same_but_times_other_plan : ∀ (s : Shared) (ws : List Value), ws.length = ([1, 0] : List Nat).length → BindsTo s d_same_but_times.fd ⟨[], (["other", "plan"] : List Str).zip ws⟩ ((["plan", "other"] : List Str).zip (pick [1, 0] ws))
  wp_shortest_keep_keeper_plan : ∀ (s : Shared) (ws : List Value), ws.length = ([1, 0] : List Nat).length → BindsTo s d_shortest_keep.fd ⟨[], (["keeper", "plan"] : List Str).zip ws⟩ ((["plan", "keeper"] : List Str).zip (pick [1, 0] ws))
  f_place : FdTab K "place" ["NoPlace"]
  g_is_tuple_of : GD K mg base d_is_tuple_of.fd
  g_goes_up : GD K mg base d_goes_up.fd
  g__path : GD K mg base d__path.fd
  x_ONE : Cst K mg "ONE" (.tup [(.int 1), (.int 1)])
  x_ZERO : Cst K mg "ZERO" (.tup [(.int 0), (.int 1)])
  x_FAULTS : Cst K mg "FAULTS" (.tup [(.str "bare grant"), (.str "bare release"), (.str "forgets"), (.str "revives")])
  x_SINGLE : Cst K mg "SINGLE" (.tup [(.tup [(.tup [(.str "lots")]), (.tup [(.int 0)])]), (.tup [(.tup [(.str "faults")]), (.tup [(.int 6)])]), (.tup [(.tup [(.str "term")]), (.tup [(.int 4), (.int 0)])]), (.tup [(.tup [(.str "counts")]), (.tup [(.int 4), (.int 1)])]), (.tup [(.tup [(.str "stop")]), (.tup [(.int 4), (.int 2)])]), (.tup [(.tup [(.str "releases")]), (.tup [(.int 4), (.int 3)])]), (.tup [(.tup [(.str "sealed")]), (.tup [(.int 4), (.int 4)])])])
  x_KEEPER_PARTS : Cst K mg "KEEPER_PARTS" (.tup [(.str "length"), (.str "record"), (.str "grace")])
  x_STORE_PARTS : Cst K mg "STORE_PARTS" (.tup [(.str "asks"), (.str "keeps")])
  x_WHO : Cst K mg "WHO" (.tup [(.str "client"), (.str "keeper")])
  x_LEGS : Cst K mg "LEGS" (.tup [(.str "ask"), (.str "grant"), (.str "deed"), (.str "back")])
  x_TIMES : Cst K mg "TIMES" (.tup [(.str "term"), (.str "stop"), (.str "length"), (.str "grace"), (.str "least"), (.str "most")])
  s_is_fraction : PySem.W.nsIn K mainGlobals "is_fraction" = some (some (.ref d_is_fraction.f))
  s_is_truth : PySem.W.nsIn K mainGlobals "is_truth" = some (some (.ref d_is_truth.f))
  s__is_fault : PySem.W.nsIn K mainGlobals "_is_fault" = some (some (.ref d__is_fault.f))
  s_is_kept : PySem.W.nsIn K mainGlobals "is_kept" = some (some (.ref d_is_kept.f))
  s_is_clock : PySem.W.nsIn K mainGlobals "is_clock" = some (some (.ref d_is_clock.f))
  s_is_leg : PySem.W.nsIn K mainGlobals "is_leg" = some (some (.ref d_is_leg.f))
  s__is_store : PySem.W.nsIn K mainGlobals "_is_store" = some (some (.ref d__is_store.f))
  s__law_soft_right : PySem.W.nsIn K mainGlobals "_law_soft_right" = some (some (.ref d__law_soft_right.f))
  s__law_changed_right : PySem.W.nsIn K mainGlobals "_law_changed_right" = some (some (.ref d__law_changed_right.f))
  s__law_judged_right : PySem.W.nsIn K mainGlobals "_law_judged_right" = some (some (.ref d__law_judged_right.f))
  n_LookupError : mg "LookupError" = none
  n_ValueError : mg "ValueError" = none
  n_abs : mg "abs" = none
  n_all : mg "all" = none
  n_any : mg "any" = none
  n_bool : mg "bool" = none
  n_enumerate : mg "enumerate" = none
  n_int : mg "int" = none
  n_isinstance : mg "isinstance" = none
  n_len : mg "len" = none
  n_list : mg "list" = none
  n_range : mg "range" = none
  n_sorted : mg "sorted" = none
  n_str : mg "str" = none
  n_tuple : mg "tuple" = none
  n_zip : mg "zip" = none
  m_gcd : mg "gcd" = some (.builtin "math.gcd")
section
variable {P : Program} {w : World} {K : PySem.W.Frag} {mg : Str → Option Value} {base : Heap}
theorem scX_NoPlace : FnScope ["self", "place"] ["self", "place"] (defScope (inClass (topS 2) 0)) := ⟨rfl, rfl, rfl, by decide +kernel, rfl, by decide +kernel, by decide +kernel⟩
theorem okX_NoPlace (T : Tx K mg base) : FnOk P w K mg base (L2.CX P w) 1 T.c_NoPlace.fI T.c_NoPlace.fd ["self", "place"] (sp1 T.c_NoPlace.C "place") := by
  refine T.c_NoPlace.F.okX scX_NoPlace (fun _ _ _ _ h => by obtain ⟨_, _, rfl, _⟩ := h; rfl) fun cdv A outer s H vs Q E hr h => ?_
  obtain ⟨a, y, rfl, e, q⟩ := h
  refine ⟨_, pss_cons (ps_expr (pe_binit F.excBase_LookupError T.c_NoPlace.T.ini (gl_of (by kernel_rfl)) T.n_LookupError (by decide +kernel) ty_LookupError (by decide +kernel) T.v_LookupError (by decide +kernel) (pa_cons (pv 0) (pa_cons (pv 1) pa_nil)))) (pss_one (ps_bset F.store_LookupError T.c_NoPlace.T T.t_NoPlace (pv 0) (pv 1))), ?_⟩
  exact ⟨_, rfl, _, rfl, a, [y], rfl, (by show 1 ≤ 1000; decide), e, _, rfl, _, rfl, a, rfl, e, q⟩
theorem scX_Unfit : FnScope ["self"] ["self"] (defScope (inClass (topS 4) 0)) := ⟨rfl, rfl, rfl, by decide +kernel, rfl, by decide +kernel, by decide +kernel⟩
theorem okX_Unfit (T : Tx K mg base) : FnOk P w K mg base (L2.CX P w) 1 T.c_Unfit.fI T.c_Unfit.fd ["self"] (sp0 T.c_Unfit.C) := by
  refine T.c_Unfit.F.okX scX_Unfit (fun _ _ _ _ h => by obtain ⟨_, rfl, _⟩ := h; rfl) fun cdv A outer s H vs Q E hr h => ?_
  obtain ⟨a, rfl, e, q⟩ := h
  refine ⟨_, pss_one (ps_expr (pe_binit F.excBase_ValueError T.c_Unfit.T.ini (gl_of (by kernel_rfl)) T.n_ValueError (by decide +kernel) ty_ValueError (by decide +kernel) T.v_ValueError (by decide +kernel) (pa_cons (pv 0) pa_nil))), ?_⟩
  exact ⟨_, rfl, a, [], rfl, (by show 0 ≤ 1000; decide), e, q⟩
theorem scX_CanNot : FnScope ["self"] ["self"] (defScope (inClass (topS 3) 0)) := ⟨rfl, rfl, rfl, by decide +kernel, rfl, by decide +kernel, by decide +kernel⟩
theorem okX_CanNot (T : Tx K mg base) : FnOk P w K mg base (L2.CX P w) 1 T.c_CanNot.fI T.c_CanNot.fd ["self"] (sp0 T.c_CanNot.C) := by
  refine T.c_CanNot.F.okX scX_CanNot (fun _ _ _ _ h => by obtain ⟨_, rfl, _⟩ := h; rfl) fun cdv A outer s H vs Q E hr h => ?_
  obtain ⟨a, rfl, e, q⟩ := h
  refine ⟨_, pss_one (ps_expr (pe_binit F.excBase_ValueError T.c_CanNot.T.ini (gl_of (by kernel_rfl)) T.n_ValueError (by decide +kernel) ty_ValueError (by decide +kernel) T.v_ValueError (by decide +kernel) (pa_cons (pv 0) pa_nil))), ?_⟩
  exact ⟨_, rfl, a, [], rfl, (by show 0 ≤ 1000; decide), e, q⟩
/-! tupled -/
theorem sc_tupled : FnScope ["value", "part"] ["value"] (defScope (topS 6)) := ⟨rfl, rfl, rfl, by decide +kernel, rfl, by decide +kernel, by decide +kernel⟩
def b_tupled (self : GC) : MS := (sSeq (sIf (mT (mIsi [.list, .tuple] (mVar 0))) (sRet (mCall gTuple (mCons (mLc 100000 false (iAny (mVar 0)) [1] (gNm 1) mYes (mCall (ar 1 self) (mCons (mVar 1) mNil))) mNil))) sNil) (sRet (mVar 0)))
def r_tupled : Nat → GC
  | 0 => fun _ _ => .bad
  | l + 1 => runB 1 (b_tupled (r_tupled l))
theorem ok_tupled (T : Tx K mg base) : ∀ l : Nat, FOk P w K mg base (l + 0) T.d_tupled.f T.d_tupled.fd ["value"] (r_tupled l)
  | 0 => fn_bad
  | l + 1 => by
    have IH := ok_tupled T l
    rw [show l + 1 + 0 = (l + 0) + 1 by omega]
    refine fn_ok 1 T.d_tupled.F sc_tupled rfl fun cdv A outer s H E hr => ?_
    exact (s_cons (s_if (t_val (e_isi2 .list .tuple (by decide) (by decide) (gl_of (by kernel_rfl)) T.n_isinstance (gl_of (by kernel_rfl)) T.n_list (by decide +kernel) (gl_of (by kernel_rfl)) T.n_tuple (by decide +kernel) (e_v 0 rfl (.inl (by kernel_rfl))))) (s_one (s_ret (e_tuple (gl_of (by kernel_rfl)) T.n_tuple (a_cons (e_lcv 100000 false [1] rfl sc_tupled.nd (blkOk_by (own := [("part", 1)]) (N := ["value", "part"]) (sc := defScope (topS 6)) (by decide +kernel)) (by decide) (i_any (e_v 0 rfl (.inl (by kernel_rfl)))) (fun s H C cl fp => (g_nm (i := 1) sc_tupled.nd rfl (.inl (by kernel_rfl)) (.inr (by kernel_rfl)))) (fun s H C cl fp => ts_nil) (fun s H C cl fp => (e_call IH hr takes0 (gl_of (by kernel_rfl)) T.d_tupled.m T.d_tupled.F.kp T.d_tupled.b (a_cons (e_v 1 rfl (.inl (by kernel_rfl))) a_nil)))) a_nil)))) s_nil) (s_one (s_ret (e_v 0 rfl (.inl (by kernel_rfl))))))
/-! is_number -/
theorem sc_is_number : FnScope ["thing"] ["thing"] (defScope (topS 7)) := ⟨rfl, rfl, rfl, by decide +kernel, rfl, by decide +kernel, by decide +kernel⟩
def b_is_number : MS := (sRet (mAnd (mIsi [.int] (mVar 0)) (mNot (mIsi [.bool] (mVar 0)))))
def r_is_number : GC := runB 0 b_is_number
theorem ok_is_number (T : Tx K mg base) : FOk P w K mg base 1 T.d_is_number.f T.d_is_number.fd ["thing"] r_is_number := by
  refine fn_ok 0 T.d_is_number.F sc_is_number rfl fun cdv A outer s H E hr => ?_
  exact (s_one (s_ret (e_and (e_isi .int (by decide) (gl_of (by kernel_rfl)) T.n_isinstance (gl_of (by kernel_rfl)) T.n_int (by decide +kernel) (e_v 0 rfl (.inl (by kernel_rfl)))) (e_one (e_not (e_isi .bool (by decide) (gl_of (by kernel_rfl)) T.n_isinstance (gl_of (by kernel_rfl)) T.n_bool (by decide +kernel) (e_v 0 rfl (.inl (by kernel_rfl)))))))))
/-! is_count -/
theorem sc_is_count : FnScope ["thing"] ["thing"] (defScope (topS 8)) := ⟨rfl, rfl, rfl, by decide +kernel, rfl, by decide +kernel, by decide +kernel⟩
def b_is_count : MS := (sRet (mAnd (mCall (ar 1 r_is_number) (mCons (mVar 0) mNil)) (mBin gGe (mVar 0) (mC (.int 0)))))
def r_is_count : GC := runB 0 b_is_count
theorem ok_is_count (T : Tx K mg base) : FOk P w K mg base 2 T.d_is_count.f T.d_is_count.fd ["thing"] r_is_count := by
  refine fn_ok 0 T.d_is_count.F sc_is_count rfl fun cdv A outer s H E hr => ?_
  exact (s_one (s_ret (e_and (e_call (ok_is_number (P := P) (w := w) (base := base) T) (hr.mono (by first | decide | omega)) (takes_of rfl rfl rfl rfl) (gl_of (by kernel_rfl)) T.d_is_number.m T.d_is_number.F.kp T.d_is_number.b (a_cons (e_v 0 rfl (.inl (by kernel_rfl))) a_nil)) (e_one (e_ge (e_v 0 rfl (.inl (by kernel_rfl))) e_int)))))
/-! is_place -/
theorem sc_is_place : FnScope ["many", "thing"] ["many", "thing"] (defScope (topS 9)) := ⟨rfl, rfl, rfl, by decide +kernel, rfl, by decide +kernel, by decide +kernel⟩
def b_is_place : MS := (sRet (mAnd (mCall (ar 1 r_is_count) (mCons (mVar 1) mNil)) (mBin gLt (mVar 1) (mVar 0))))
def r_is_place : GC := runB 0 b_is_place
theorem ok_is_place (T : Tx K mg base) : FOk P w K mg base 3 T.d_is_place.f T.d_is_place.fd ["many", "thing"] r_is_place := by
  refine fn_ok 0 T.d_is_place.F sc_is_place rfl fun cdv A outer s H E hr => ?_
  exact (s_one (s_ret (e_and (e_call (ok_is_count (P := P) (w := w) (base := base) T) (hr.mono (by first | decide | omega)) (takes_of rfl rfl rfl rfl) (gl_of (by kernel_rfl)) T.d_is_count.m T.d_is_count.F.kp T.d_is_count.b (a_cons (e_v 1 rfl (.inl (by kernel_rfl))) a_nil)) (e_one (e_lt (e_v 1 rfl (.inl (by kernel_rfl))) (e_v 0 rfl (.inl (by kernel_rfl))))))))
/-! is_truth -/
theorem sc_is_truth : FnScope ["thing"] ["thing"] (defScope (topS 10)) := ⟨rfl, rfl, rfl, by decide +kernel, rfl, by decide +kernel, by decide +kernel⟩
def b_is_truth : MS := (sRet (mIsi [.bool] (mVar 0)))
def r_is_truth : GC := runB 0 b_is_truth
theorem ok_is_truth (T : Tx K mg base) : FOk P w K mg base 1 T.d_is_truth.f T.d_is_truth.fd ["thing"] r_is_truth := by
  refine fn_ok 0 T.d_is_truth.F sc_is_truth rfl fun cdv A outer s H E hr => ?_
  exact (s_one (s_ret (e_isi .bool (by decide) (gl_of (by kernel_rfl)) T.n_isinstance (gl_of (by kernel_rfl)) T.n_bool (by decide +kernel) (e_v 0 rfl (.inl (by kernel_rfl))))))
/-! is_tuple_of -/
theorem sc_is_tuple_of : FnScope ["test", "thing", "part"] ["test", "thing"] (defScope (topS 11)) := ⟨rfl, rfl, rfl, by decide +kernel, rfl, by decide +kernel, by decide +kernel⟩
def b_is_tuple_of (t : Nat) (run : GC) : MS := (sRet (mAnd (mIsi [.tuple] (mVar 1)) (mGen false 100000 (iTup (mVar 1)) [2] (gNm 2) (mCallL 0 t (ar 1 run) (mCons (mVar 2) mNil)))))
def r_is_tuple_of (t : Nat) (run : GC) : GC := runB 1 (b_is_tuple_of t run)
theorem ok_is_tuple_of (T : Tx K mg base) {lv t : Nat} {fF : Addr} {fdF : FuncData} {psF : List Str} {run : GC} {y : Str} (FF : FOk P w K mg base lv fF fdF psF run) (hF : hofs[t]? = some y) (nF : PySem.W.nsIn K mainGlobals y = some (some (.ref fF))) (kF : PySem.W.keepIn K (.ref fF) = true) (bF : Binds K fdF psF []) (lF : psF.length = 1) :
    FOk P w K mg base (lv + 2) T.d_is_tuple_of.f T.d_is_tuple_of.fd ["test", "thing"] (r_is_tuple_of t run) := by
  refine fn_okC 1 T.d_is_tuple_of.F sc_is_tuple_of rfl fun cdv A outer s H E hcd hr => ?_
  exact (s_one (s_ret (e_and (e_isi .tuple (by decide) (gl_of (by kernel_rfl)) T.n_isinstance (gl_of (by kernel_rfl)) T.n_tuple (by decide +kernel) (e_v 1 rfl (.inl (by kernel_rfl)))) (e_one (e_allG 100000 [2] hr (gl_of (by kernel_rfl)) T.n_all T.g_is_tuple_of hcd (gsc_of (blkOk_by (own := [("part", 2)]) (N := ["test", "thing", "part"]) (sc := defScope (topS 11)) (by decide +kernel)) rfl (by kernel_rfl) (by kernel_rfl)) sc_is_tuple_of.nd (by decide) (i_tup (e_v 1 rfl (.inl (by kernel_rfl)))) (fun A s H C cl fp hr => (g_nm (i := 2) sc_is_tuple_of.nd rfl (.inl (by kernel_rfl)) (.inr (by kernel_rfl)))) (fun A s H C cl fp hr => (e_callL FF hr takes0 hF nF kF bF (i := 0) rfl (.inr (.inr (by kernel_rfl))) (a_cons (e_v 2 rfl (.inl (by kernel_rfl))) a_nil) lF)))))))
/-! is_row -/
theorem sc_is_row : FnScope ["many", "thing"] ["many", "thing"] (defScope (topS 12)) := ⟨rfl, rfl, rfl, by decide +kernel, rfl, by decide +kernel, by decide +kernel⟩
def b_is_row : MS := (sRet (mAnd (mIsi [.tuple] (mVar 1)) (mBin gEq (mCall gLen (mCons (mVar 1) mNil)) (mVar 0))))
def r_is_row : GC := runB 0 b_is_row
theorem ok_is_row (T : Tx K mg base) : FOk P w K mg base 1 T.d_is_row.f T.d_is_row.fd ["many", "thing"] r_is_row := by
  refine fn_ok 0 T.d_is_row.F sc_is_row rfl fun cdv A outer s H E hr => ?_
  exact (s_one (s_ret (e_and (e_isi .tuple (by decide) (gl_of (by kernel_rfl)) T.n_isinstance (gl_of (by kernel_rfl)) T.n_tuple (by decide +kernel) (e_v 1 rfl (.inl (by kernel_rfl)))) (e_one (e_eq hr.units (e_len (gl_of (by kernel_rfl)) T.n_len (a_cons (e_v 1 rfl (.inl (by kernel_rfl))) a_nil)) (e_v 0 rfl (.inl (by kernel_rfl))))))))
/-! goes_up -/
theorem sc_goes_up : FnScope ["row", "k"] ["row"] (defScope (topS 13)) := ⟨rfl, rfl, rfl, by decide +kernel, rfl, by decide +kernel, by decide +kernel⟩
def b_goes_up : MS := (sRet (mGen false 100000 (iR1 (mCons (mBin gSub (mCall gLen (mCons (mVar 0) mNil)) (mC (.int 1))) mNil)) [1] (gNm 1) (mBin (gCmpD PySem.W.dataLt) (mBin gIx (mVar 0) (mVar 1)) (mBin gIx (mVar 0) (mBin (gAdd false) (mVar 1) (mC (.int 1)))))))
def r_goes_up : GC := runB 1 b_goes_up
theorem ok_goes_up (T : Tx K mg base) : FOk P w K mg base 2 T.d_goes_up.f T.d_goes_up.fd ["row"] r_goes_up := by
  refine fn_okC 1 T.d_goes_up.F sc_goes_up rfl fun cdv A outer s H E hcd hr => ?_
  exact (s_one (s_ret (e_allG 100000 [1] hr (gl_of (by kernel_rfl)) T.n_all T.g_goes_up hcd (gsc_of (blkOk_by (own := [("k", 1)]) (N := ["row", "k"]) (sc := defScope (topS 13)) (by decide +kernel)) rfl (by kernel_rfl) (by kernel_rfl)) sc_goes_up.nd (by decide) (i_r1 (gl_of (by kernel_rfl)) T.n_range (a_cons (e_sub (e_len (gl_of (by kernel_rfl)) T.n_len (a_cons (e_v 0 rfl (.inr (.inl (by kernel_rfl)))) a_nil)) e_int) a_nil)) (fun A s H C cl fp hr => (g_nm (i := 1) sc_goes_up.nd rfl (.inl (by kernel_rfl)) (.inr (by kernel_rfl)))) (fun A s H C cl fp hr => (e_ltD (hu64 hr) (e_ix (e_v 0 rfl (.inr (.inr (by kernel_rfl)))) (e_v 1 rfl (.inl (by kernel_rfl)))) (e_ix (e_v 0 rfl (.inr (.inr (by kernel_rfl)))) (e_add (fr := false) (e_v 1 rfl (.inl (by kernel_rfl))) e_int)))))))
/-! fraction -/
theorem sc_fraction : FnScope ["top", "below", "common"] ["top", "below"] (defScope (topS 17)) := ⟨rfl, rfl, rfl, by decide +kernel, rfl, by decide +kernel, by decide +kernel⟩
def b_fraction : MS := (sSeq (sIf (mT (mBin gEq (mVar 1) (mC (.int 0)))) sBad sNil) (sSeq (sAsg (mCall gGcd (mCons (mVar 0) (mCons (mVar 1) mNil))) (gNm 2)) (sSeq (sIf (mT (mBin gLt (mVar 1) (mC (.int 0)))) sBad sNil) (sRet (mTup (mCons (mBin gDiv (mVar 0) (mVar 2)) (mCons (mBin gDiv (mVar 1) (mVar 2)) mNil)))))))
def r_fraction : GC := runB 1 b_fraction
theorem ok_fraction (T : Tx K mg base) : FOk P w K mg base 1 T.d_fraction.f T.d_fraction.fd ["top", "below"] r_fraction := by
  refine fn_ok 1 T.d_fraction.F sc_fraction rfl fun cdv A outer s H E hr => ?_
  exact (s_cons (s_if (t_eq hr.units (e_v 1 rfl (.inl (by kernel_rfl))) e_int) ss_bad s_nil) (s_cons (s_asg (e_gcd (gl_of (by kernel_rfl)) T.m_gcd (a_cons (e_v 0 rfl (.inl (by kernel_rfl))) (a_cons (e_v 1 rfl (.inl (by kernel_rfl))) a_nil))) (g_nm (i := 2) sc_fraction.nd rfl (.inl (by kernel_rfl)) (.inl rfl)) calm_nm) (s_cons (s_if (t_lt (e_v 1 rfl (.inl (by kernel_rfl))) e_int) ss_bad s_nil) (s_one (s_ret (e_tup (a_cons (e_div (e_v 0 rfl (.inl (by kernel_rfl))) (e_v 2 rfl (.inl (by kernel_rfl)))) (a_cons (e_div (e_v 1 rfl (.inl (by kernel_rfl))) (e_v 2 rfl (.inl (by kernel_rfl)))) a_nil))))))))
/-! is_fraction -/
theorem sc_is_fraction : FnScope ["thing", "top", "below"] ["thing"] (defScope (topS 18)) := ⟨rfl, rfl, rfl, by decide +kernel, rfl, by decide +kernel, by decide +kernel⟩
def b_is_fraction : MS := (sSeq (sIf (mNotT (mT (mCall (ar 2 r_is_row) (mCons (mC (.int 2)) (mCons (mVar 0) mNil))))) (sRet (mC (.bl false))) sNil) (sSeq (sAsg (mVar 0) (gTp 2 (gC (gNm 1) (gC (gNm 2) gN0)))) (sRet (mAnd (mCall (ar 1 r_is_number) (mCons (mVar 1) mNil)) (mAnd (mCall (ar 1 r_is_number) (mCons (mVar 2) mNil)) (mAnd (mBin gGe (mVar 2) (mC (.int 1))) (mBin gEq (mCall gGcd (mCons (mVar 1) (mCons (mVar 2) mNil))) (mC (.int 1)))))))))
def r_is_fraction : GC := runB 2 b_is_fraction
theorem ok_is_fraction (T : Tx K mg base) : FOk P w K mg base 2 T.d_is_fraction.f T.d_is_fraction.fd ["thing"] r_is_fraction := by
  refine fn_ok 2 T.d_is_fraction.F sc_is_fraction rfl fun cdv A outer s H E hr => ?_
  exact (s_cons (s_if (t_not (t_val (e_call (ok_is_row (P := P) (w := w) (base := base) T) (hr.mono (by first | decide | omega)) (takes_of rfl rfl rfl rfl) (gl_of (by kernel_rfl)) T.d_is_row.m T.d_is_row.F.kp T.d_is_row.b (a_cons e_int (a_cons (e_v 0 rfl (.inl (by kernel_rfl))) a_nil))))) (s_one (s_ret e_bl)) s_nil) (s_cons (s_asg (e_v 0 rfl (.inl (by kernel_rfl))) (g_tp (n := 2) rfl (g_c (g_nm (i := 1) sc_is_fraction.nd rfl (.inl (by kernel_rfl)) (.inl rfl)) (g_c (g_nm (i := 2) sc_is_fraction.nd rfl (.inl (by kernel_rfl)) (.inl rfl)) g_n0))) (calm_tp (calm_c calm_nm (calm_c calm_nm calm_n0)))) (s_one (s_ret (e_and (e_call (ok_is_number (P := P) (w := w) (base := base) T) (hr.mono (by first | decide | omega)) (takes_of rfl rfl rfl rfl) (gl_of (by kernel_rfl)) T.d_is_number.m T.d_is_number.F.kp T.d_is_number.b (a_cons (e_v 1 rfl (.inl (by kernel_rfl))) a_nil)) (e_and (e_call (ok_is_number (P := P) (w := w) (base := base) T) (hr.mono (by first | decide | omega)) (takes_of rfl rfl rfl rfl) (gl_of (by kernel_rfl)) T.d_is_number.m T.d_is_number.F.kp T.d_is_number.b (a_cons (e_v 2 rfl (.inl (by kernel_rfl))) a_nil)) (e_and (e_ge (e_v 2 rfl (.inl (by kernel_rfl))) e_int) (e_one (e_eq hr.units (e_gcd (gl_of (by kernel_rfl)) T.m_gcd (a_cons (e_v 1 rfl (.inl (by kernel_rfl))) (a_cons (e_v 2 rfl (.inl (by kernel_rfl))) a_nil))) e_int)))))))))
/-! plus -/
theorem sc_plus : FnScope ["x", "y", "a", "b", "c", "d"] ["x", "y"] (defScope (topS 19)) := ⟨rfl, rfl, rfl, by decide +kernel, rfl, by decide +kernel, by decide +kernel⟩
def b_plus : MS := (sSeq (sAsg (mVar 0) (gTp 2 (gC (gNm 2) (gC (gNm 3) gN0)))) (sSeq (sAsg (mVar 1) (gTp 2 (gC (gNm 4) (gC (gNm 5) gN0)))) (sRet (mCall (ar 2 r_fraction) (mCons (mBin (gAdd false) (mBin (gMul false) (mVar 2) (mVar 5)) (mBin (gMul false) (mVar 4) (mVar 3))) (mCons (mBin (gMul false) (mVar 3) (mVar 5)) mNil))))))
def r_plus : GC := runB 4 b_plus
theorem ok_plus (T : Tx K mg base) : FOk P w K mg base 2 T.d_plus.f T.d_plus.fd ["x", "y"] r_plus := by
  refine fn_ok 4 T.d_plus.F sc_plus rfl fun cdv A outer s H E hr => ?_
  exact (s_cons (s_asg (e_v 0 rfl (.inl (by kernel_rfl))) (g_tp (n := 2) rfl (g_c (g_nm (i := 2) sc_plus.nd rfl (.inl (by kernel_rfl)) (.inl rfl)) (g_c (g_nm (i := 3) sc_plus.nd rfl (.inl (by kernel_rfl)) (.inl rfl)) g_n0))) (calm_tp (calm_c calm_nm (calm_c calm_nm calm_n0)))) (s_cons (s_asg (e_v 1 rfl (.inl (by kernel_rfl))) (g_tp (n := 2) rfl (g_c (g_nm (i := 4) sc_plus.nd rfl (.inl (by kernel_rfl)) (.inl rfl)) (g_c (g_nm (i := 5) sc_plus.nd rfl (.inl (by kernel_rfl)) (.inl rfl)) g_n0))) (calm_tp (calm_c calm_nm (calm_c calm_nm calm_n0)))) (s_one (s_ret (e_call (ok_fraction (P := P) (w := w) (base := base) T) (hr.mono (by first | decide | omega)) (takes_of rfl rfl rfl rfl) (gl_of (by kernel_rfl)) T.d_fraction.m T.d_fraction.F.kp T.d_fraction.b (a_cons (e_add (fr := false) (e_mul (fr := false) (e_v 2 rfl (.inl (by kernel_rfl))) (e_v 5 rfl (.inl (by kernel_rfl)))) (e_mul (fr := false) (e_v 4 rfl (.inl (by kernel_rfl))) (e_v 3 rfl (.inl (by kernel_rfl))))) (a_cons (e_mul (fr := false) (e_v 3 rfl (.inl (by kernel_rfl))) (e_v 5 rfl (.inl (by kernel_rfl)))) a_nil)))))))
/-! times -/
theorem sc_times : FnScope ["x", "y", "a", "b", "c", "d"] ["x", "y"] (defScope (topS 20)) := ⟨rfl, rfl, rfl, by decide +kernel, rfl, by decide +kernel, by decide +kernel⟩
def b_times : MS := (sSeq (sAsg (mVar 0) (gTp 2 (gC (gNm 2) (gC (gNm 3) gN0)))) (sSeq (sAsg (mVar 1) (gTp 2 (gC (gNm 4) (gC (gNm 5) gN0)))) (sRet (mCall (ar 2 r_fraction) (mCons (mBin (gMul false) (mVar 2) (mVar 4)) (mCons (mBin (gMul false) (mVar 3) (mVar 5)) mNil))))))
def r_times : GC := runB 4 b_times
theorem ok_times (T : Tx K mg base) : FOk P w K mg base 2 T.d_times.f T.d_times.fd ["x", "y"] r_times := by
  refine fn_ok 4 T.d_times.F sc_times rfl fun cdv A outer s H E hr => ?_
  exact (s_cons (s_asg (e_v 0 rfl (.inl (by kernel_rfl))) (g_tp (n := 2) rfl (g_c (g_nm (i := 2) sc_times.nd rfl (.inl (by kernel_rfl)) (.inl rfl)) (g_c (g_nm (i := 3) sc_times.nd rfl (.inl (by kernel_rfl)) (.inl rfl)) g_n0))) (calm_tp (calm_c calm_nm (calm_c calm_nm calm_n0)))) (s_cons (s_asg (e_v 1 rfl (.inl (by kernel_rfl))) (g_tp (n := 2) rfl (g_c (g_nm (i := 4) sc_times.nd rfl (.inl (by kernel_rfl)) (.inl rfl)) (g_c (g_nm (i := 5) sc_times.nd rfl (.inl (by kernel_rfl)) (.inl rfl)) g_n0))) (calm_tp (calm_c calm_nm (calm_c calm_nm calm_n0)))) (s_one (s_ret (e_call (ok_fraction (P := P) (w := w) (base := base) T) (hr.mono (by first | decide | omega)) (takes_of rfl rfl rfl rfl) (gl_of (by kernel_rfl)) T.d_fraction.m T.d_fraction.F.kp T.d_fraction.b (a_cons (e_mul (fr := false) (e_v 2 rfl (.inl (by kernel_rfl))) (e_v 4 rfl (.inl (by kernel_rfl)))) (a_cons (e_mul (fr := false) (e_v 3 rfl (.inl (by kernel_rfl))) (e_v 5 rfl (.inl (by kernel_rfl)))) a_nil)))))))
/-! over -/
theorem sc_over : FnScope ["x", "y", "a", "b", "c", "d"] ["x", "y"] (defScope (topS 21)) := ⟨rfl, rfl, rfl, by decide +kernel, rfl, by decide +kernel, by decide +kernel⟩
def b_over : MS := (sSeq (sAsg (mVar 0) (gTp 2 (gC (gNm 2) (gC (gNm 3) gN0)))) (sSeq (sAsg (mVar 1) (gTp 2 (gC (gNm 4) (gC (gNm 5) gN0)))) (sRet (mCall (ar 2 r_fraction) (mCons (mBin (gMul false) (mVar 2) (mVar 5)) (mCons (mBin (gMul false) (mVar 3) (mVar 4)) mNil))))))
def r_over : GC := runB 4 b_over
theorem ok_over (T : Tx K mg base) : FOk P w K mg base 2 T.d_over.f T.d_over.fd ["x", "y"] r_over := by
  refine fn_ok 4 T.d_over.F sc_over rfl fun cdv A outer s H E hr => ?_
  exact (s_cons (s_asg (e_v 0 rfl (.inl (by kernel_rfl))) (g_tp (n := 2) rfl (g_c (g_nm (i := 2) sc_over.nd rfl (.inl (by kernel_rfl)) (.inl rfl)) (g_c (g_nm (i := 3) sc_over.nd rfl (.inl (by kernel_rfl)) (.inl rfl)) g_n0))) (calm_tp (calm_c calm_nm (calm_c calm_nm calm_n0)))) (s_cons (s_asg (e_v 1 rfl (.inl (by kernel_rfl))) (g_tp (n := 2) rfl (g_c (g_nm (i := 4) sc_over.nd rfl (.inl (by kernel_rfl)) (.inl rfl)) (g_c (g_nm (i := 5) sc_over.nd rfl (.inl (by kernel_rfl)) (.inl rfl)) g_n0))) (calm_tp (calm_c calm_nm (calm_c calm_nm calm_n0)))) (s_one (s_ret (e_call (ok_fraction (P := P) (w := w) (base := base) T) (hr.mono (by first | decide | omega)) (takes_of rfl rfl rfl rfl) (gl_of (by kernel_rfl)) T.d_fraction.m T.d_fraction.F.kp T.d_fraction.b (a_cons (e_mul (fr := false) (e_v 2 rfl (.inl (by kernel_rfl))) (e_v 5 rfl (.inl (by kernel_rfl)))) (a_cons (e_mul (fr := false) (e_v 3 rfl (.inl (by kernel_rfl))) (e_v 4 rfl (.inl (by kernel_rfl)))) a_nil)))))))
/-! less -/
theorem sc_less : FnScope ["x", "y", "a", "b", "c", "d"] ["x", "y"] (defScope (topS 22)) := ⟨rfl, rfl, rfl, by decide +kernel, rfl, by decide +kernel, by decide +kernel⟩
def b_less : MS := (sSeq (sAsg (mVar 0) (gTp 2 (gC (gNm 2) (gC (gNm 3) gN0)))) (sSeq (sAsg (mVar 1) (gTp 2 (gC (gNm 4) (gC (gNm 5) gN0)))) (sRet (mBin gLt (mBin (gMul false) (mVar 2) (mVar 5)) (mBin (gMul false) (mVar 4) (mVar 3))))))
def r_less : GC := runB 4 b_less
theorem ok_less (T : Tx K mg base) : FOk P w K mg base 1 T.d_less.f T.d_less.fd ["x", "y"] r_less := by
  refine fn_ok 4 T.d_less.F sc_less rfl fun cdv A outer s H E hr => ?_
  exact (s_cons (s_asg (e_v 0 rfl (.inl (by kernel_rfl))) (g_tp (n := 2) rfl (g_c (g_nm (i := 2) sc_less.nd rfl (.inl (by kernel_rfl)) (.inl rfl)) (g_c (g_nm (i := 3) sc_less.nd rfl (.inl (by kernel_rfl)) (.inl rfl)) g_n0))) (calm_tp (calm_c calm_nm (calm_c calm_nm calm_n0)))) (s_cons (s_asg (e_v 1 rfl (.inl (by kernel_rfl))) (g_tp (n := 2) rfl (g_c (g_nm (i := 4) sc_less.nd rfl (.inl (by kernel_rfl)) (.inl rfl)) (g_c (g_nm (i := 5) sc_less.nd rfl (.inl (by kernel_rfl)) (.inl rfl)) g_n0))) (calm_tp (calm_c calm_nm (calm_c calm_nm calm_n0)))) (s_one (s_ret (e_lt (e_mul (fr := false) (e_v 2 rfl (.inl (by kernel_rfl))) (e_v 5 rfl (.inl (by kernel_rfl)))) (e_mul (fr := false) (e_v 4 rfl (.inl (by kernel_rfl))) (e_v 3 rfl (.inl (by kernel_rfl)))))))))
/-! is_from_zero -/
theorem sc_is_from_zero : FnScope ["thing"] ["thing"] (defScope (topS 23)) := ⟨rfl, rfl, rfl, by decide +kernel, rfl, by decide +kernel, by decide +kernel⟩
def b_is_from_zero : MS := (sRet (mAnd (mCall (ar 1 r_is_fraction) (mCons (mVar 0) mNil)) (mBin gGe (mBin gIx (mVar 0) (mC (.int 0))) (mC (.int 0)))))
def r_is_from_zero : GC := runB 0 b_is_from_zero
theorem ok_is_from_zero (T : Tx K mg base) : FOk P w K mg base 3 T.d_is_from_zero.f T.d_is_from_zero.fd ["thing"] r_is_from_zero := by
  refine fn_ok 0 T.d_is_from_zero.F sc_is_from_zero rfl fun cdv A outer s H E hr => ?_
  exact (s_one (s_ret (e_and (e_call (ok_is_fraction (P := P) (w := w) (base := base) T) (hr.mono (by first | decide | omega)) (takes_of rfl rfl rfl rfl) (gl_of (by kernel_rfl)) T.d_is_fraction.m T.d_is_fraction.F.kp T.d_is_fraction.b (a_cons (e_v 0 rfl (.inl (by kernel_rfl))) a_nil)) (e_one (e_ge (e_ix (e_v 0 rfl (.inl (by kernel_rfl))) e_int) e_int)))))
/-! is_most -/
theorem sc_is_most : FnScope ["least_one", "thing"] ["least_one", "thing"] (defScope (topS 24)) := ⟨rfl, rfl, rfl, by decide +kernel, rfl, by decide +kernel, by decide +kernel⟩
def b_is_most : MS := (sRet (mOr (mBin (gIs id) (mVar 1) (mC .non)) (mAnd (mCall (ar 1 r_is_fraction) (mCons (mVar 1) mNil)) (mNot (mCall (ar 2 r_less) (mCons (mVar 1) (mCons (mVar 0) mNil)))))))
def r_is_most : GC := runB 0 b_is_most
theorem ok_is_most (T : Tx K mg base) : FOk P w K mg base 3 T.d_is_most.f T.d_is_most.fd ["least_one", "thing"] r_is_most := by
  refine fn_ok 0 T.d_is_most.F sc_is_most rfl fun cdv A outer s H E hr => ?_
  exact (s_one (s_ret (e_or (e_is (e_v 1 rfl (.inl (by kernel_rfl))) e_non) (e_one (e_and (e_call (ok_is_fraction (P := P) (w := w) (base := base) T) (hr.mono (by first | decide | omega)) (takes_of rfl rfl rfl rfl) (gl_of (by kernel_rfl)) T.d_is_fraction.m T.d_is_fraction.F.kp T.d_is_fraction.b (a_cons (e_v 1 rfl (.inl (by kernel_rfl))) a_nil)) (e_one (e_not (e_call (ok_less (P := P) (w := w) (base := base) T) (hr.mono (by first | decide | omega)) (takes_of rfl rfl rfl rfl) (gl_of (by kernel_rfl)) T.d_less.m T.d_less.F.kp T.d_less.b (a_cons (e_v 1 rfl (.inl (by kernel_rfl))) (a_cons (e_v 0 rfl (.inl (by kernel_rfl))) a_nil))))))))))
/-! is_clock -/
theorem sc_is_clock : FnScope ["thing", "slow", "fast"] ["thing"] (defScope (topS 26)) := ⟨rfl, rfl, rfl, by decide +kernel, rfl, by decide +kernel, by decide +kernel⟩
def b_is_clock : MS := (sSeq (sIf (mOrT (mNotT (mT (mCall (ar 2 r_is_row) (mCons (mC (.int 2)) (mCons (mVar 0) mNil))))) (mNotT (mT (mCall (ar 2 (r_is_tuple_of 0 r_is_fraction)) (mCons (mC (.fn 0)) (mCons (mVar 0) mNil)))))) (sRet (mC (.bl false))) sNil) (sSeq (sAsg (mVar 0) (gTp 2 (gC (gNm 1) (gC (gNm 2) gN0)))) (sRet (mAnd (mCall (ar 2 r_less) (mCons (mC (.tup [(.int 0), (.int 1)])) (mCons (mVar 1) mNil))) (mAnd (mNot (mCall (ar 2 r_less) (mCons (mC (.tup [(.int 1), (.int 1)])) (mCons (mVar 1) mNil)))) (mNot (mCall (ar 2 r_less) (mCons (mVar 2) (mCons (mC (.tup [(.int 1), (.int 1)])) mNil)))))))))
def r_is_clock : GC := runB 2 b_is_clock
theorem ok_is_clock (T : Tx K mg base) : FOk P w K mg base 5 T.d_is_clock.f T.d_is_clock.fd ["thing"] r_is_clock := by
  refine fn_ok 2 T.d_is_clock.F sc_is_clock rfl fun cdv A outer s H E hr => ?_
  exact (s_cons (s_if (MW.t (w_or (t_not (t_val (e_call (ok_is_row (P := P) (w := w) (base := base) T) (hr.mono (by first | decide | omega)) (takes_of rfl rfl rfl rfl) (gl_of (by kernel_rfl)) T.d_is_row.m T.d_is_row.F.kp T.d_is_row.b (a_cons e_int (a_cons (e_v 0 rfl (.inl (by kernel_rfl))) a_nil))))) (w_or1 (t_not (t_val (e_call (ok_is_tuple_of (P := P) (w := w) (base := base) T (ok_is_fraction (P := P) (w := w) (base := base) T) (t := 0) (by decide) T.s_is_fraction T.d_is_fraction.F.kp T.d_is_fraction.b rfl) (hr.mono (by first | decide | omega)) (takes_of rfl rfl rfl rfl) (gl_of (by kernel_rfl)) T.d_is_tuple_of.m T.d_is_tuple_of.F.kp T.d_is_tuple_of.b (a_cons (e_fn (t := 0) (gl_of (by kernel_rfl)) T.d_is_fraction.m (by decide) T.s_is_fraction) (a_cons (e_v 0 rfl (.inl (by kernel_rfl))) a_nil)))))))) (s_one (s_ret e_bl)) s_nil) (s_cons (s_asg (e_v 0 rfl (.inl (by kernel_rfl))) (g_tp (n := 2) rfl (g_c (g_nm (i := 1) sc_is_clock.nd rfl (.inl (by kernel_rfl)) (.inl rfl)) (g_c (g_nm (i := 2) sc_is_clock.nd rfl (.inl (by kernel_rfl)) (.inl rfl)) g_n0))) (calm_tp (calm_c calm_nm (calm_c calm_nm calm_n0)))) (s_one (s_ret (e_and (e_call (ok_less (P := P) (w := w) (base := base) T) (hr.mono (by first | decide | omega)) (takes_of rfl rfl rfl rfl) (gl_of (by kernel_rfl)) T.d_less.m T.d_less.F.kp T.d_less.b (a_cons (e_cst (gl_of (by kernel_rfl)) T.x_ZERO) (a_cons (e_v 1 rfl (.inl (by kernel_rfl))) a_nil))) (e_and (e_not (e_call (ok_less (P := P) (w := w) (base := base) T) (hr.mono (by first | decide | omega)) (takes_of rfl rfl rfl rfl) (gl_of (by kernel_rfl)) T.d_less.m T.d_less.F.kp T.d_less.b (a_cons (e_cst (gl_of (by kernel_rfl)) T.x_ONE) (a_cons (e_v 1 rfl (.inl (by kernel_rfl))) a_nil)))) (e_one (e_not (e_call (ok_less (P := P) (w := w) (base := base) T) (hr.mono (by first | decide | omega)) (takes_of rfl rfl rfl rfl) (gl_of (by kernel_rfl)) T.d_less.m T.d_less.F.kp T.d_less.b (a_cons (e_v 2 rfl (.inl (by kernel_rfl))) (a_cons (e_cst (gl_of (by kernel_rfl)) T.x_ONE) a_nil)))))))))))
/-! _is_length -/
theorem sc__is_length : FnScope ["thing"] ["thing"] (defScope (topS 41)) := ⟨rfl, rfl, rfl, by decide +kernel, rfl, by decide +kernel, by decide +kernel⟩
def b__is_length : MS := (sRet (mOr (mBin (gIs id) (mVar 0) (mC .non)) (mCall (ar 1 r_is_from_zero) (mCons (mVar 0) mNil))))
def r__is_length : GC := runB 0 b__is_length
theorem ok__is_length (T : Tx K mg base) : FOk P w K mg base 4 T.d__is_length.f T.d__is_length.fd ["thing"] r__is_length := by
  refine fn_ok 0 T.d__is_length.F sc__is_length rfl fun cdv A outer s H E hr => ?_
  exact (s_one (s_ret (e_or (e_is (e_v 0 rfl (.inl (by kernel_rfl))) e_non) (e_one (e_call (ok_is_from_zero (P := P) (w := w) (base := base) T) (hr.mono (by first | decide | omega)) (takes_of rfl rfl rfl rfl) (gl_of (by kernel_rfl)) T.d_is_from_zero.m T.d_is_from_zero.F.kp T.d_is_from_zero.b (a_cons (e_v 0 rfl (.inl (by kernel_rfl))) a_nil))))))
/-! is_kept -/
theorem sc_is_kept : FnScope ["thing", "length", "record", "grace"] ["thing"] (defScope (topS 40)) := ⟨rfl, rfl, rfl, by decide +kernel, rfl, by decide +kernel, by decide +kernel⟩
def b_is_kept : MS := (sSeq (sIf (mNotT (mT (mCall (ar 2 r_is_row) (mCons (mC (.int 3)) (mCons (mVar 0) mNil))))) (sRet (mC (.bl false))) sNil) (sSeq (sAsg (mVar 0) (gTp 3 (gC (gNm 1) (gC (gNm 2) (gC (gNm 3) gN0))))) (sRet (mAnd (mCall (ar 1 r__is_length) (mCons (mVar 1) mNil)) (mAnd (mBin (gIn id) (mVar 2) (mTup (mCons (mC (.str "all")) (mCons (mC (.str "number")) mNil)))) (mCall (ar 1 r_is_from_zero) (mCons (mVar 3) mNil)))))))
def r_is_kept : GC := runB 3 b_is_kept
theorem ok_is_kept (T : Tx K mg base) : FOk P w K mg base 5 T.d_is_kept.f T.d_is_kept.fd ["thing"] r_is_kept := by
  refine fn_ok 3 T.d_is_kept.F sc_is_kept rfl fun cdv A outer s H E hr => ?_
  exact (s_cons (s_if (t_not (t_val (e_call (ok_is_row (P := P) (w := w) (base := base) T) (hr.mono (by first | decide | omega)) (takes_of rfl rfl rfl rfl) (gl_of (by kernel_rfl)) T.d_is_row.m T.d_is_row.F.kp T.d_is_row.b (a_cons e_int (a_cons (e_v 0 rfl (.inl (by kernel_rfl))) a_nil))))) (s_one (s_ret e_bl)) s_nil) (s_cons (s_asg (e_v 0 rfl (.inl (by kernel_rfl))) (g_tp (n := 3) rfl (g_c (g_nm (i := 1) sc_is_kept.nd rfl (.inl (by kernel_rfl)) (.inl rfl)) (g_c (g_nm (i := 2) sc_is_kept.nd rfl (.inl (by kernel_rfl)) (.inl rfl)) (g_c (g_nm (i := 3) sc_is_kept.nd rfl (.inl (by kernel_rfl)) (.inl rfl)) g_n0)))) (calm_tp (calm_c calm_nm (calm_c calm_nm (calm_c calm_nm calm_n0))))) (s_one (s_ret (e_and (e_call (ok__is_length (P := P) (w := w) (base := base) T) (hr.mono (by first | decide | omega)) (takes_of rfl rfl rfl rfl) (gl_of (by kernel_rfl)) T.d__is_length.m T.d__is_length.F.kp T.d__is_length.b (a_cons (e_v 1 rfl (.inl (by kernel_rfl))) a_nil)) (e_and (e_in (hu65 hr) (e_v 2 rfl (.inl (by kernel_rfl))) (e_tup (a_cons e_str (a_cons e_str a_nil)))) (e_one (e_call (ok_is_from_zero (P := P) (w := w) (base := base) T) (hr.mono (by first | decide | omega)) (takes_of rfl rfl rfl rfl) (gl_of (by kernel_rfl)) T.d_is_from_zero.m T.d_is_from_zero.F.kp T.d_is_from_zero.b (a_cons (e_v 3 rfl (.inl (by kernel_rfl))) a_nil)))))))))
/-! is_lot -/
theorem sc_is_lot : FnScope ["many", "thing", "keeper"] ["many", "thing"] (defScope (topS 39)) := ⟨rfl, rfl, rfl, by decide +kernel, rfl, by decide +kernel, by decide +kernel⟩
def b_is_lot : MS := (sSeq (sIf (mOrT (mNotT (mT (mIsi [.tuple] (mVar 1)))) (mT (mBin gEq (mVar 1) (mTup mNil)))) (sRet (mC (.bl false))) sNil) (sRet (mAnd (mCall gAll (mCons (mLc 100000 false (iTup (mVar 1)) [2] (gNm 2) mYes (mCall (ar 2 r_is_place) (mCons (mVar 0) (mCons (mVar 2) mNil)))) mNil)) (mCall (ar 1 r_goes_up) (mCons (mVar 1) mNil)))))
def r_is_lot : GC := runB 1 b_is_lot
theorem ok_is_lot (T : Tx K mg base) : FOk P w K mg base 4 T.d_is_lot.f T.d_is_lot.fd ["many", "thing"] r_is_lot := by
  refine fn_ok 1 T.d_is_lot.F sc_is_lot rfl fun cdv A outer s H E hr => ?_
  exact (s_cons (s_if (MW.t (w_or (t_not (t_val (e_isi .tuple (by decide) (gl_of (by kernel_rfl)) T.n_isinstance (gl_of (by kernel_rfl)) T.n_tuple (by decide +kernel) (e_v 1 rfl (.inl (by kernel_rfl)))))) (w_or1 (t_eq hr.units (e_v 1 rfl (.inl (by kernel_rfl))) (e_tup a_nil))))) (s_one (s_ret e_bl)) s_nil) (s_one (s_ret (e_and (e_all rfl (gl_of (by kernel_rfl)) T.n_all (a_cons (e_lcv 100000 false [2] rfl sc_is_lot.nd (blkOk_by (own := [("keeper", 2)]) (N := ["many", "thing", "keeper"]) (sc := defScope (topS 39)) (by decide +kernel)) (by decide) (i_tup (e_v 1 rfl (.inl (by kernel_rfl)))) (fun s H C cl fp => (g_nm (i := 2) sc_is_lot.nd rfl (.inl (by kernel_rfl)) (.inr (by kernel_rfl)))) (fun s H C cl fp => ts_nil) (fun s H C cl fp => (e_call (ok_is_place (P := P) (w := w) (base := base) T) (hr.mono (by first | decide | omega)) takes0 (gl_of (by kernel_rfl)) T.d_is_place.m T.d_is_place.F.kp T.d_is_place.b (a_cons (e_v 0 rfl (.inr (.inl (by kernel_rfl)))) (a_cons (e_v 2 rfl (.inl (by kernel_rfl))) a_nil))))) a_nil)) (e_one (e_call (ok_goes_up (P := P) (w := w) (base := base) T) (hr.mono (by first | decide | omega)) (takes_of rfl rfl rfl rfl) (gl_of (by kernel_rfl)) T.d_goes_up.m T.d_goes_up.F.kp T.d_goes_up.b (a_cons (e_v 1 rfl (.inl (by kernel_rfl))) a_nil)))))))
/-! is_lots -/
theorem sc_is_lots : FnScope ["many", "thing", "lot"] ["many", "thing"] (defScope (topS 38)) := ⟨rfl, rfl, rfl, by decide +kernel, rfl, by decide +kernel, by decide +kernel⟩
def b_is_lots : MS := (sSeq (sIf (mOrT (mNotT (mT (mIsi [.tuple] (mVar 1)))) (mT (mBin gEq (mVar 1) (mTup mNil)))) (sRet (mC (.bl false))) sNil) (sRet (mAnd (mCall gAll (mCons (mLc 100000 false (iTup (mVar 1)) [2] (gNm 2) mYes (mCall (ar 2 r_is_lot) (mCons (mVar 0) (mCons (mVar 2) mNil)))) mNil)) (mCall (ar 1 r_goes_up) (mCons (mVar 1) mNil)))))
def r_is_lots : GC := runB 1 b_is_lots
theorem ok_is_lots (T : Tx K mg base) : FOk P w K mg base 5 T.d_is_lots.f T.d_is_lots.fd ["many", "thing"] r_is_lots := by
  refine fn_ok 1 T.d_is_lots.F sc_is_lots rfl fun cdv A outer s H E hr => ?_
  exact (s_cons (s_if (MW.t (w_or (t_not (t_val (e_isi .tuple (by decide) (gl_of (by kernel_rfl)) T.n_isinstance (gl_of (by kernel_rfl)) T.n_tuple (by decide +kernel) (e_v 1 rfl (.inl (by kernel_rfl)))))) (w_or1 (t_eq hr.units (e_v 1 rfl (.inl (by kernel_rfl))) (e_tup a_nil))))) (s_one (s_ret e_bl)) s_nil) (s_one (s_ret (e_and (e_all rfl (gl_of (by kernel_rfl)) T.n_all (a_cons (e_lcv 100000 false [2] rfl sc_is_lots.nd (blkOk_by (own := [("lot", 2)]) (N := ["many", "thing", "lot"]) (sc := defScope (topS 38)) (by decide +kernel)) (by decide) (i_tup (e_v 1 rfl (.inl (by kernel_rfl)))) (fun s H C cl fp => (g_nm (i := 2) sc_is_lots.nd rfl (.inl (by kernel_rfl)) (.inr (by kernel_rfl)))) (fun s H C cl fp => ts_nil) (fun s H C cl fp => (e_call (ok_is_lot (P := P) (w := w) (base := base) T) (hr.mono (by first | decide | omega)) takes0 (gl_of (by kernel_rfl)) T.d_is_lot.m T.d_is_lot.F.kp T.d_is_lot.b (a_cons (e_v 0 rfl (.inr (.inl (by kernel_rfl)))) (a_cons (e_v 2 rfl (.inl (by kernel_rfl))) a_nil))))) a_nil)) (e_one (e_call (ok_goes_up (P := P) (w := w) (base := base) T) (hr.mono (by first | decide | omega)) (takes_of rfl rfl rfl rfl) (gl_of (by kernel_rfl)) T.d_goes_up.m T.d_goes_up.F.kp T.d_goes_up.b (a_cons (e_v 1 rfl (.inl (by kernel_rfl))) a_nil)))))))
/-! is_leg -/
theorem sc_is_leg : FnScope ["thing", "least", "most"] ["thing"] (defScope (topS 42)) := ⟨rfl, rfl, rfl, by decide +kernel, rfl, by decide +kernel, by decide +kernel⟩
def b_is_leg : MS := (sSeq (sIf (mNotT (mT (mCall (ar 2 r_is_row) (mCons (mC (.int 2)) (mCons (mVar 0) mNil))))) (sRet (mC (.bl false))) sNil) (sSeq (sAsg (mVar 0) (gTp 2 (gC (gNm 1) (gC (gNm 2) gN0)))) (sRet (mAnd (mCall (ar 1 r_is_from_zero) (mCons (mVar 1) mNil)) (mAnd (mBin gNe (mVar 1) (mC (.tup [(.int 0), (.int 1)]))) (mCall (ar 2 r_is_most) (mCons (mVar 1) (mCons (mVar 2) mNil))))))))
def r_is_leg : GC := runB 2 b_is_leg
theorem ok_is_leg (T : Tx K mg base) : FOk P w K mg base 4 T.d_is_leg.f T.d_is_leg.fd ["thing"] r_is_leg := by
  refine fn_ok 2 T.d_is_leg.F sc_is_leg rfl fun cdv A outer s H E hr => ?_
  exact (s_cons (s_if (t_not (t_val (e_call (ok_is_row (P := P) (w := w) (base := base) T) (hr.mono (by first | decide | omega)) (takes_of rfl rfl rfl rfl) (gl_of (by kernel_rfl)) T.d_is_row.m T.d_is_row.F.kp T.d_is_row.b (a_cons e_int (a_cons (e_v 0 rfl (.inl (by kernel_rfl))) a_nil))))) (s_one (s_ret e_bl)) s_nil) (s_cons (s_asg (e_v 0 rfl (.inl (by kernel_rfl))) (g_tp (n := 2) rfl (g_c (g_nm (i := 1) sc_is_leg.nd rfl (.inl (by kernel_rfl)) (.inl rfl)) (g_c (g_nm (i := 2) sc_is_leg.nd rfl (.inl (by kernel_rfl)) (.inl rfl)) g_n0))) (calm_tp (calm_c calm_nm (calm_c calm_nm calm_n0)))) (s_one (s_ret (e_and (e_call (ok_is_from_zero (P := P) (w := w) (base := base) T) (hr.mono (by first | decide | omega)) (takes_of rfl rfl rfl rfl) (gl_of (by kernel_rfl)) T.d_is_from_zero.m T.d_is_from_zero.F.kp T.d_is_from_zero.b (a_cons (e_v 1 rfl (.inl (by kernel_rfl))) a_nil)) (e_and (e_ne hr.units (e_v 1 rfl (.inl (by kernel_rfl))) (e_cst (gl_of (by kernel_rfl)) T.x_ZERO)) (e_one (e_call (ok_is_most (P := P) (w := w) (base := base) T) (hr.mono (by first | decide | omega)) (takes_of rfl rfl rfl rfl) (gl_of (by kernel_rfl)) T.d_is_most.m T.d_is_most.F.kp T.d_is_most.b (a_cons (e_v 1 rfl (.inl (by kernel_rfl))) (a_cons (e_v 2 rfl (.inl (by kernel_rfl))) a_nil))))))))))
/-! is_library -/
theorem sc_is_library : FnScope ["thing", "term", "counts", "stop", "releases", "sealed"] ["thing"] (defScope (topS 43)) := ⟨rfl, rfl, rfl, by decide +kernel, rfl, by decide +kernel, by decide +kernel⟩
def b_is_library : MS := (sSeq (sIf (mNotT (mT (mCall (ar 2 r_is_row) (mCons (mC (.int 5)) (mCons (mVar 0) mNil))))) (sRet (mC (.bl false))) sNil) (sSeq (sAsg (mVar 0) (gTp 5 (gC (gNm 1) (gC (gNm 2) (gC (gNm 3) (gC (gNm 4) (gC (gNm 5) gN0))))))) (sSeq (sIf (mOrT (mNotT (mT (mCall (ar 1 r_is_from_zero) (mCons (mVar 1) mNil)))) (mT (mBin (gIn not) (mVar 2) (mTup (mCons (mC (.str "sent")) (mCons (mC (.str "taken")) mNil)))))) (sRet (mC (.bl false))) sNil) (sRet (mAnd (mCall (ar 1 r__is_length) (mCons (mVar 3) mNil)) (mAnd (mBin (gIn id) (mVar 4) (mTup (mCons (mC (.str "once")) (mCons (mC (.str "waits")) mNil)))) (mCall (ar 1 r_is_truth) (mCons (mVar 5) mNil))))))))
def r_is_library : GC := runB 5 b_is_library
theorem ok_is_library (T : Tx K mg base) : FOk P w K mg base 5 T.d_is_library.f T.d_is_library.fd ["thing"] r_is_library := by
  refine fn_ok 5 T.d_is_library.F sc_is_library rfl fun cdv A outer s H E hr => ?_
  exact (s_cons (s_if (t_not (t_val (e_call (ok_is_row (P := P) (w := w) (base := base) T) (hr.mono (by first | decide | omega)) (takes_of rfl rfl rfl rfl) (gl_of (by kernel_rfl)) T.d_is_row.m T.d_is_row.F.kp T.d_is_row.b (a_cons e_int (a_cons (e_v 0 rfl (.inl (by kernel_rfl))) a_nil))))) (s_one (s_ret e_bl)) s_nil) (s_cons (s_asg (e_v 0 rfl (.inl (by kernel_rfl))) (g_tp (n := 5) rfl (g_c (g_nm (i := 1) sc_is_library.nd rfl (.inl (by kernel_rfl)) (.inl rfl)) (g_c (g_nm (i := 2) sc_is_library.nd rfl (.inl (by kernel_rfl)) (.inl rfl)) (g_c (g_nm (i := 3) sc_is_library.nd rfl (.inl (by kernel_rfl)) (.inl rfl)) (g_c (g_nm (i := 4) sc_is_library.nd rfl (.inl (by kernel_rfl)) (.inl rfl)) (g_c (g_nm (i := 5) sc_is_library.nd rfl (.inl (by kernel_rfl)) (.inl rfl)) g_n0)))))) (calm_tp (calm_c calm_nm (calm_c calm_nm (calm_c calm_nm (calm_c calm_nm (calm_c calm_nm calm_n0))))))) (s_cons (s_if (MW.t (w_or (t_not (t_val (e_call (ok_is_from_zero (P := P) (w := w) (base := base) T) (hr.mono (by first | decide | omega)) (takes_of rfl rfl rfl rfl) (gl_of (by kernel_rfl)) T.d_is_from_zero.m T.d_is_from_zero.F.kp T.d_is_from_zero.b (a_cons (e_v 1 rfl (.inl (by kernel_rfl))) a_nil)))) (w_or1 (t_notin (hu65 hr) (e_v 2 rfl (.inl (by kernel_rfl))) (e_tup (a_cons e_str (a_cons e_str a_nil))))))) (s_one (s_ret e_bl)) s_nil) (s_one (s_ret (e_and (e_call (ok__is_length (P := P) (w := w) (base := base) T) (hr.mono (by first | decide | omega)) (takes_of rfl rfl rfl rfl) (gl_of (by kernel_rfl)) T.d__is_length.m T.d__is_length.F.kp T.d__is_length.b (a_cons (e_v 3 rfl (.inl (by kernel_rfl))) a_nil)) (e_and (e_in (hu65 hr) (e_v 4 rfl (.inl (by kernel_rfl))) (e_tup (a_cons e_str (a_cons e_str a_nil)))) (e_one (e_call (ok_is_truth (P := P) (w := w) (base := base) T) (hr.mono (by first | decide | omega)) (takes_of rfl rfl rfl rfl) (gl_of (by kernel_rfl)) T.d_is_truth.m T.d_is_truth.F.kp T.d_is_truth.b (a_cons (e_v 5 rfl (.inl (by kernel_rfl))) a_nil))))))))))
/-! _is_store -/
theorem sc__is_store : FnScope ["thing"] ["thing"] (defScope (topS 44)) := ⟨rfl, rfl, rfl, by decide +kernel, rfl, by decide +kernel, by decide +kernel⟩
def b__is_store : MS := (sRet (mAnd (mCall (ar 2 r_is_row) (mCons (mC (.int 2)) (mCons (mVar 0) mNil))) (mCall (ar 2 (r_is_tuple_of 2 r_is_truth)) (mCons (mC (.fn 2)) (mCons (mVar 0) mNil)))))
def r__is_store : GC := runB 0 b__is_store
theorem ok__is_store (T : Tx K mg base) : FOk P w K mg base 4 T.d__is_store.f T.d__is_store.fd ["thing"] r__is_store := by
  refine fn_ok 0 T.d__is_store.F sc__is_store rfl fun cdv A outer s H E hr => ?_
  exact (s_one (s_ret (e_and (e_call (ok_is_row (P := P) (w := w) (base := base) T) (hr.mono (by first | decide | omega)) (takes_of rfl rfl rfl rfl) (gl_of (by kernel_rfl)) T.d_is_row.m T.d_is_row.F.kp T.d_is_row.b (a_cons e_int (a_cons (e_v 0 rfl (.inl (by kernel_rfl))) a_nil))) (e_one (e_call (ok_is_tuple_of (P := P) (w := w) (base := base) T (ok_is_truth (P := P) (w := w) (base := base) T) (t := 2) (by decide) T.s_is_truth T.d_is_truth.F.kp T.d_is_truth.b rfl) (hr.mono (by first | decide | omega)) (takes_of rfl rfl rfl rfl) (gl_of (by kernel_rfl)) T.d_is_tuple_of.m T.d_is_tuple_of.F.kp T.d_is_tuple_of.b (a_cons (e_fn (t := 2) (gl_of (by kernel_rfl)) T.d_is_truth.m (by decide) T.s_is_truth) (a_cons (e_v 0 rfl (.inl (by kernel_rfl))) a_nil)))))))
/-! _is_fault -/
theorem sc__is_fault : FnScope ["thing"] ["thing"] (defScope (topS 37)) := ⟨rfl, rfl, rfl, by decide +kernel, rfl, by decide +kernel, by decide +kernel⟩
def b__is_fault : MS := (sRet (mBin (gIn id) (mVar 0) (mC (.tup [(.str "bare grant"), (.str "bare release"), (.str "forgets"), (.str "revives")]))))
def r__is_fault : GC := runB 0 b__is_fault
theorem ok__is_fault (T : Tx K mg base) : FOk P w K mg base 1 T.d__is_fault.f T.d__is_fault.fd ["thing"] r__is_fault := by
  refine fn_ok 0 T.d__is_fault.F sc__is_fault rfl fun cdv A outer s H E hr => ?_
  exact (s_one (s_ret (e_in (hu65 hr) (e_v 0 rfl (.inl (by kernel_rfl))) (e_cst (gl_of (by kernel_rfl)) T.x_FAULTS))))
/-! is_faults -/
theorem sc_is_faults : FnScope ["thing"] ["thing"] (defScope (topS 36)) := ⟨rfl, rfl, rfl, by decide +kernel, rfl, by decide +kernel, by decide +kernel⟩
def b_is_faults : MS := (sRet (mAnd (mCall (ar 2 (r_is_tuple_of 6 r__is_fault)) (mCons (mC (.fn 6)) (mCons (mVar 0) mNil))) (mCall (ar 1 r_goes_up) (mCons (mVar 0) mNil))))
def r_is_faults : GC := runB 0 b_is_faults
theorem ok_is_faults (T : Tx K mg base) : FOk P w K mg base 4 T.d_is_faults.f T.d_is_faults.fd ["thing"] r_is_faults := by
  refine fn_ok 0 T.d_is_faults.F sc_is_faults rfl fun cdv A outer s H E hr => ?_
  exact (s_one (s_ret (e_and (e_call (ok_is_tuple_of (P := P) (w := w) (base := base) T (ok__is_fault (P := P) (w := w) (base := base) T) (t := 6) (by decide) T.s__is_fault T.d__is_fault.F.kp T.d__is_fault.b rfl) (hr.mono (by first | decide | omega)) (takes_of rfl rfl rfl rfl) (gl_of (by kernel_rfl)) T.d_is_tuple_of.m T.d_is_tuple_of.F.kp T.d_is_tuple_of.b (a_cons (e_fn (t := 6) (gl_of (by kernel_rfl)) T.d__is_fault.m (by decide) T.s__is_fault) (a_cons (e_v 0 rfl (.inl (by kernel_rfl))) a_nil))) (e_one (e_call (ok_goes_up (P := P) (w := w) (base := base) T) (hr.mono (by first | decide | omega)) (takes_of rfl rfl rfl rfl) (gl_of (by kernel_rfl)) T.d_goes_up.m T.d_goes_up.F.kp T.d_goes_up.b (a_cons (e_v 0 rfl (.inl (by kernel_rfl))) a_nil))))))
/-! is_plan -/
theorem sc_is_plan : FnScope ["thing", "lots", "keepers", "clocks", "legs", "library", "stores", "faults"] ["thing"] (defScope (topS 35)) := ⟨rfl, rfl, rfl, by decide +kernel, rfl, by decide +kernel, by decide +kernel⟩
def b_is_plan : MS := (sSeq (sIf (mNotT (mT (mCall (ar 2 r_is_row) (mCons (mC (.int 7)) (mCons (mVar 0) mNil))))) (sRet (mC (.bl false))) sNil) (sSeq (sAsg (mVar 0) (gTp 7 (gC (gNm 1) (gC (gNm 2) (gC (gNm 3) (gC (gNm 4) (gC (gNm 5) (gC (gNm 6) (gC (gNm 7) gN0))))))))) (sSeq (sIf (mOrT (mNotT (mT (mCall (ar 2 (r_is_tuple_of 27 r_is_kept)) (mCons (mC (.fn 27)) (mCons (mVar 2) mNil))))) (mT (mBin gEq (mVar 2) (mTup mNil)))) (sRet (mC (.bl false))) sNil) (sSeq (sIf (mNotT (mT (mCall (ar 2 r_is_lots) (mCons (mCall gLen (mCons (mVar 2) mNil)) (mCons (mVar 1) mNil))))) (sRet (mC (.bl false))) sNil) (sSeq (sIf (mOrT (mNotT (mT (mCall (ar 2 r_is_row) (mCons (mC (.int 2)) (mCons (mVar 3) mNil))))) (mNotT (mT (mCall (ar 2 (r_is_tuple_of 9 r_is_clock)) (mCons (mC (.fn 9)) (mCons (mVar 3) mNil)))))) (sRet (mC (.bl false))) sNil) (sSeq (sIf (mOrT (mNotT (mT (mCall (ar 2 r_is_row) (mCons (mC (.int 4)) (mCons (mVar 4) mNil))))) (mNotT (mT (mCall (ar 2 (r_is_tuple_of 10 r_is_leg)) (mCons (mC (.fn 10)) (mCons (mVar 4) mNil)))))) (sRet (mC (.bl false))) sNil) (sSeq (sIf (mOrT (mNotT (mT (mCall (ar 1 r_is_library) (mCons (mVar 5) mNil)))) (mOrT (mNotT (mT (mCall (ar 2 (r_is_tuple_of 8 r__is_store)) (mCons (mC (.fn 8)) (mCons (mVar 6) mNil))))) (mT (mBin gEq (mVar 6) (mTup mNil))))) (sRet (mC (.bl false))) sNil) (sRet (mAnd (mCall (ar 1 r_is_faults) (mCons (mVar 7) mNil)) (mOr (mBin gEq (mVar 7) (mTup mNil)) (mNot (mBin gIx (mVar 5) (mC (.int 4))))))))))))))
def r_is_plan : GC := runB 7 b_is_plan
theorem ok_is_plan (T : Tx K mg base) : FOk P w K mg base 8 T.d_is_plan.f T.d_is_plan.fd ["thing"] r_is_plan := by
  refine fn_ok 7 T.d_is_plan.F sc_is_plan rfl fun cdv A outer s H E hr => ?_
  exact (s_cons (s_if (t_not (t_val (e_call (ok_is_row (P := P) (w := w) (base := base) T) (hr.mono (by first | decide | omega)) (takes_of rfl rfl rfl rfl) (gl_of (by kernel_rfl)) T.d_is_row.m T.d_is_row.F.kp T.d_is_row.b (a_cons e_int (a_cons (e_v 0 rfl (.inl (by kernel_rfl))) a_nil))))) (s_one (s_ret e_bl)) s_nil) (s_cons (s_asg (e_v 0 rfl (.inl (by kernel_rfl))) (g_tp (n := 7) rfl (g_c (g_nm (i := 1) sc_is_plan.nd rfl (.inl (by kernel_rfl)) (.inl rfl)) (g_c (g_nm (i := 2) sc_is_plan.nd rfl (.inl (by kernel_rfl)) (.inl rfl)) (g_c (g_nm (i := 3) sc_is_plan.nd rfl (.inl (by kernel_rfl)) (.inl rfl)) (g_c (g_nm (i := 4) sc_is_plan.nd rfl (.inl (by kernel_rfl)) (.inl rfl)) (g_c (g_nm (i := 5) sc_is_plan.nd rfl (.inl (by kernel_rfl)) (.inl rfl)) (g_c (g_nm (i := 6) sc_is_plan.nd rfl (.inl (by kernel_rfl)) (.inl rfl)) (g_c (g_nm (i := 7) sc_is_plan.nd rfl (.inl (by kernel_rfl)) (.inl rfl)) g_n0)))))))) (calm_tp (calm_c calm_nm (calm_c calm_nm (calm_c calm_nm (calm_c calm_nm (calm_c calm_nm (calm_c calm_nm (calm_c calm_nm calm_n0))))))))) (s_cons (s_if (MW.t (w_or (t_not (t_val (e_call (ok_is_tuple_of (P := P) (w := w) (base := base) T (ok_is_kept (P := P) (w := w) (base := base) T) (t := 27) (by decide) T.s_is_kept T.d_is_kept.F.kp T.d_is_kept.b rfl) (hr.mono (by first | decide | omega)) (takes_of rfl rfl rfl rfl) (gl_of (by kernel_rfl)) T.d_is_tuple_of.m T.d_is_tuple_of.F.kp T.d_is_tuple_of.b (a_cons (e_fn (t := 27) (gl_of (by kernel_rfl)) T.d_is_kept.m (by decide) T.s_is_kept) (a_cons (e_v 2 rfl (.inl (by kernel_rfl))) a_nil))))) (w_or1 (t_eq hr.units (e_v 2 rfl (.inl (by kernel_rfl))) (e_tup a_nil))))) (s_one (s_ret e_bl)) s_nil) (s_cons (s_if (t_not (t_val (e_call (ok_is_lots (P := P) (w := w) (base := base) T) (hr.mono (by first | decide | omega)) (takes_of rfl rfl rfl rfl) (gl_of (by kernel_rfl)) T.d_is_lots.m T.d_is_lots.F.kp T.d_is_lots.b (a_cons (e_len (gl_of (by kernel_rfl)) T.n_len (a_cons (e_v 2 rfl (.inl (by kernel_rfl))) a_nil)) (a_cons (e_v 1 rfl (.inl (by kernel_rfl))) a_nil))))) (s_one (s_ret e_bl)) s_nil) (s_cons (s_if (MW.t (w_or (t_not (t_val (e_call (ok_is_row (P := P) (w := w) (base := base) T) (hr.mono (by first | decide | omega)) (takes_of rfl rfl rfl rfl) (gl_of (by kernel_rfl)) T.d_is_row.m T.d_is_row.F.kp T.d_is_row.b (a_cons e_int (a_cons (e_v 3 rfl (.inl (by kernel_rfl))) a_nil))))) (w_or1 (t_not (t_val (e_call (ok_is_tuple_of (P := P) (w := w) (base := base) T (ok_is_clock (P := P) (w := w) (base := base) T) (t := 9) (by decide) T.s_is_clock T.d_is_clock.F.kp T.d_is_clock.b rfl) (hr.mono (by first | decide | omega)) (takes_of rfl rfl rfl rfl) (gl_of (by kernel_rfl)) T.d_is_tuple_of.m T.d_is_tuple_of.F.kp T.d_is_tuple_of.b (a_cons (e_fn (t := 9) (gl_of (by kernel_rfl)) T.d_is_clock.m (by decide) T.s_is_clock) (a_cons (e_v 3 rfl (.inl (by kernel_rfl))) a_nil)))))))) (s_one (s_ret e_bl)) s_nil) (s_cons (s_if (MW.t (w_or (t_not (t_val (e_call (ok_is_row (P := P) (w := w) (base := base) T) (hr.mono (by first | decide | omega)) (takes_of rfl rfl rfl rfl) (gl_of (by kernel_rfl)) T.d_is_row.m T.d_is_row.F.kp T.d_is_row.b (a_cons e_int (a_cons (e_v 4 rfl (.inl (by kernel_rfl))) a_nil))))) (w_or1 (t_not (t_val (e_call (ok_is_tuple_of (P := P) (w := w) (base := base) T (ok_is_leg (P := P) (w := w) (base := base) T) (t := 10) (by decide) T.s_is_leg T.d_is_leg.F.kp T.d_is_leg.b rfl) (hr.mono (by first | decide | omega)) (takes_of rfl rfl rfl rfl) (gl_of (by kernel_rfl)) T.d_is_tuple_of.m T.d_is_tuple_of.F.kp T.d_is_tuple_of.b (a_cons (e_fn (t := 10) (gl_of (by kernel_rfl)) T.d_is_leg.m (by decide) T.s_is_leg) (a_cons (e_v 4 rfl (.inl (by kernel_rfl))) a_nil)))))))) (s_one (s_ret e_bl)) s_nil) (s_cons (s_if (MW.t (w_or (t_not (t_val (e_call (ok_is_library (P := P) (w := w) (base := base) T) (hr.mono (by first | decide | omega)) (takes_of rfl rfl rfl rfl) (gl_of (by kernel_rfl)) T.d_is_library.m T.d_is_library.F.kp T.d_is_library.b (a_cons (e_v 5 rfl (.inl (by kernel_rfl))) a_nil)))) (w_or (t_not (t_val (e_call (ok_is_tuple_of (P := P) (w := w) (base := base) T (ok__is_store (P := P) (w := w) (base := base) T) (t := 8) (by decide) T.s__is_store T.d__is_store.F.kp T.d__is_store.b rfl) (hr.mono (by first | decide | omega)) (takes_of rfl rfl rfl rfl) (gl_of (by kernel_rfl)) T.d_is_tuple_of.m T.d_is_tuple_of.F.kp T.d_is_tuple_of.b (a_cons (e_fn (t := 8) (gl_of (by kernel_rfl)) T.d__is_store.m (by decide) T.s__is_store) (a_cons (e_v 6 rfl (.inl (by kernel_rfl))) a_nil))))) (w_or1 (t_eq hr.units (e_v 6 rfl (.inl (by kernel_rfl))) (e_tup a_nil)))))) (s_one (s_ret e_bl)) s_nil) (s_one (s_ret (e_and (e_call (ok_is_faults (P := P) (w := w) (base := base) T) (hr.mono (by first | decide | omega)) (takes_of rfl rfl rfl rfl) (gl_of (by kernel_rfl)) T.d_is_faults.m T.d_is_faults.F.kp T.d_is_faults.b (a_cons (e_v 7 rfl (.inl (by kernel_rfl))) a_nil)) (e_one (e_or (e_eq hr.units (e_v 7 rfl (.inl (by kernel_rfl))) (e_tup a_nil)) (e_one (e_not (e_ix (e_v 5 rfl (.inl (by kernel_rfl))) e_int)))))))))))))))
/-! _paths -/
theorem sc__paths : FnScope ["plan", "found", "k", "place", "who", "word", "leg", "part"] ["plan"] (defScope (topS 47)) := ⟨rfl, rfl, rfl, by decide +kernel, rfl, by decide +kernel, by decide +kernel⟩
def b__paths : MS := (sSeq (sAsg (mCall (gList true) (mCons (mC (.tup [(.tup [(.tup [(.str "lots")]), (.tup [(.int 0)])]), (.tup [(.tup [(.str "faults")]), (.tup [(.int 6)])]), (.tup [(.tup [(.str "term")]), (.tup [(.int 4), (.int 0)])]), (.tup [(.tup [(.str "counts")]), (.tup [(.int 4), (.int 1)])]), (.tup [(.tup [(.str "stop")]), (.tup [(.int 4), (.int 2)])]), (.tup [(.tup [(.str "releases")]), (.tup [(.int 4), (.int 3)])]), (.tup [(.tup [(.str "sealed")]), (.tup [(.int 4), (.int 4)])])])) mNil)) (gNm 1)) (sSeq (sFor 100000 (iR1 (mCons (mCall gLen (mCons (mBin gIx (mVar 0) (mC (.int 1))) mNil)) mNil)) (gNm 2) (sExp (mExt (mVar 1) (mLc 100000 false (iEnq (mCons (mC (.tup [(.str "length"), (.str "record"), (.str "grace")])) mNil)) [7, 5] (gTp 2 (gC (gNm 7) (gC (gNm 5) gN0))) mYes (mTup (mCons (mTup (mCons (mVar 5) (mCons (mVar 2) mNil))) (mCons (mTup (mCons (mC (.int 1)) (mCons (mVar 2) (mCons (mVar 7) mNil)))) mNil))))))) (sSeq (sFor 100000 (iR1 (mCons (mCall gLen (mCons (mBin gIx (mVar 0) (mC (.int 5))) mNil)) mNil)) (gNm 3) (sExp (mExt (mVar 1) (mLc 100000 false (iEnq (mCons (mC (.tup [(.str "asks"), (.str "keeps")])) mNil)) [7, 5] (gTp 2 (gC (gNm 7) (gC (gNm 5) gN0))) mYes (mTup (mCons (mTup (mCons (mVar 5) (mCons (mVar 3) mNil))) (mCons (mTup (mCons (mC (.int 5)) (mCons (mVar 3) (mCons (mVar 7) mNil)))) mNil))))))) (sSeq (sFor 100000 (iEnq (mCons (mC (.tup [(.str "client"), (.str "keeper")])) mNil)) (gTp 2 (gC (gNm 4) (gC (gNm 5) gN0))) (sExp (mExt (mVar 1) (mLst (mCons (mTup (mCons (mTup (mCons (mC (.str "slow")) (mCons (mVar 5) mNil))) (mCons (mTup (mCons (mC (.int 2)) (mCons (mVar 4) (mCons (mC (.int 0)) mNil)))) mNil))) (mCons (mTup (mCons (mTup (mCons (mC (.str "fast")) (mCons (mVar 5) mNil))) (mCons (mTup (mCons (mC (.int 2)) (mCons (mVar 4) (mCons (mC (.int 1)) mNil)))) mNil))) mNil)))))) (sSeq (sFor 100000 (iEnq (mCons (mC (.tup [(.str "ask"), (.str "grant"), (.str "deed"), (.str "back")])) mNil)) (gTp 2 (gC (gNm 6) (gC (gNm 5) gN0))) (sExp (mExt (mVar 1) (mLst (mCons (mTup (mCons (mTup (mCons (mC (.str "least")) (mCons (mVar 5) mNil))) (mCons (mTup (mCons (mC (.int 3)) (mCons (mVar 6) (mCons (mC (.int 0)) mNil)))) mNil))) (mCons (mTup (mCons (mTup (mCons (mC (.str "most")) (mCons (mVar 5) mNil))) (mCons (mTup (mCons (mC (.int 3)) (mCons (mVar 6) (mCons (mC (.int 1)) mNil)))) mNil))) mNil)))))) (sRet (mVar 1)))))))
def r__paths : GC := runB 7 b__paths
theorem ok__paths (T : Tx K mg base) : FOk P w K mg base 1 T.d__paths.f T.d__paths.fd ["plan"] r__paths := by
  refine fn_ok 7 T.d__paths.F sc__paths rfl fun cdv A outer s H E hr => ?_
  exact (s_cons (s_asg (e_list (fr := true) (gl_of (by kernel_rfl)) T.n_list (a_cons (e_cst (gl_of (by kernel_rfl)) T.x_SINGLE) a_nil)) (g_nm (i := 1) sc__paths.nd rfl (.inl (by kernel_rfl)) (.inl rfl)) calm_nm) (s_cons (s_for 100000 (passes_of rfl) rfl (i_r1 (gl_of (by kernel_rfl)) T.n_range (a_cons (e_len (gl_of (by kernel_rfl)) T.n_len (a_cons (e_ix (e_v 0 rfl (.inl (by kernel_rfl))) e_int) a_nil)) a_nil)) (g_nm (i := 2) sc__paths.nd rfl (.inr (by kernel_rfl)) (.inl rfl)) (s_one (s_exp (e_ext (e_v 1 rfl (.inl (by kernel_rfl))) (e_lcv 100000 false [7, 5] rfl sc__paths.nd (blkOk_by (own := [("part", 7), ("word", 5)]) (N := ["plan", "found", "k", "place", "who", "word", "leg", "part"]) (sc := defScope (topS 47)) (by decide +kernel)) (by decide) (i_enq (gl_of (by kernel_rfl)) T.n_enumerate (a_cons (e_cst (gl_of (by kernel_rfl)) T.x_KEEPER_PARTS) a_nil)) (fun s H C cl fp => (g_tp (n := 2) rfl (g_c (g_nm (i := 7) sc__paths.nd rfl (.inl (by kernel_rfl)) (.inr (by kernel_rfl))) (g_c (g_nm (i := 5) sc__paths.nd rfl (.inl (by kernel_rfl)) (.inr (by kernel_rfl))) g_n0)))) (fun s H C cl fp => ts_nil) (fun s H C cl fp => (e_tup (a_cons (e_tup (a_cons (e_v 5 rfl (.inl (by kernel_rfl))) (a_cons (e_v 2 rfl (.inr (.inl (by kernel_rfl)))) a_nil))) (a_cons (e_tup (a_cons e_int (a_cons (e_v 2 rfl (.inr (.inl (by kernel_rfl)))) (a_cons (e_v 7 rfl (.inl (by kernel_rfl))) a_nil)))) a_nil))))))))) (s_cons (s_for 100000 (passes_of rfl) rfl (i_r1 (gl_of (by kernel_rfl)) T.n_range (a_cons (e_len (gl_of (by kernel_rfl)) T.n_len (a_cons (e_ix (e_v 0 rfl (.inl (by kernel_rfl))) e_int) a_nil)) a_nil)) (g_nm (i := 3) sc__paths.nd rfl (.inr (by kernel_rfl)) (.inl rfl)) (s_one (s_exp (e_ext (e_v 1 rfl (.inl (by kernel_rfl))) (e_lcv 100000 false [7, 5] rfl sc__paths.nd (blkOk_by (own := [("part", 7), ("word", 5)]) (N := ["plan", "found", "k", "place", "who", "word", "leg", "part"]) (sc := defScope (topS 47)) (by decide +kernel)) (by decide) (i_enq (gl_of (by kernel_rfl)) T.n_enumerate (a_cons (e_cst (gl_of (by kernel_rfl)) T.x_STORE_PARTS) a_nil)) (fun s H C cl fp => (g_tp (n := 2) rfl (g_c (g_nm (i := 7) sc__paths.nd rfl (.inl (by kernel_rfl)) (.inr (by kernel_rfl))) (g_c (g_nm (i := 5) sc__paths.nd rfl (.inl (by kernel_rfl)) (.inr (by kernel_rfl))) g_n0)))) (fun s H C cl fp => ts_nil) (fun s H C cl fp => (e_tup (a_cons (e_tup (a_cons (e_v 5 rfl (.inl (by kernel_rfl))) (a_cons (e_v 3 rfl (.inr (.inl (by kernel_rfl)))) a_nil))) (a_cons (e_tup (a_cons e_int (a_cons (e_v 3 rfl (.inr (.inl (by kernel_rfl)))) (a_cons (e_v 7 rfl (.inl (by kernel_rfl))) a_nil)))) a_nil))))))))) (s_cons (s_for 100000 (passes_of rfl) rfl (i_enq (gl_of (by kernel_rfl)) T.n_enumerate (a_cons (e_cst (gl_of (by kernel_rfl)) T.x_WHO) a_nil)) (g_tp (n := 2) rfl (g_c (g_nm (i := 4) sc__paths.nd rfl (.inl (by kernel_rfl)) (.inl rfl)) (g_c (g_nm (i := 5) sc__paths.nd rfl (.inl (by kernel_rfl)) (.inl rfl)) g_n0))) (s_one (s_exp (e_ext (e_v 1 rfl (.inl (by kernel_rfl))) (e_lst (a_cons (e_tup (a_cons (e_tup (a_cons e_str (a_cons (e_v 5 rfl (.inl (by kernel_rfl))) a_nil))) (a_cons (e_tup (a_cons e_int (a_cons (e_v 4 rfl (.inl (by kernel_rfl))) (a_cons e_int a_nil)))) a_nil))) (a_cons (e_tup (a_cons (e_tup (a_cons e_str (a_cons (e_v 5 rfl (.inl (by kernel_rfl))) a_nil))) (a_cons (e_tup (a_cons e_int (a_cons (e_v 4 rfl (.inl (by kernel_rfl))) (a_cons e_int a_nil)))) a_nil))) a_nil))))))) (s_cons (s_for 100000 (passes_of rfl) rfl (i_enq (gl_of (by kernel_rfl)) T.n_enumerate (a_cons (e_cst (gl_of (by kernel_rfl)) T.x_LEGS) a_nil)) (g_tp (n := 2) rfl (g_c (g_nm (i := 6) sc__paths.nd rfl (.inl (by kernel_rfl)) (.inl rfl)) (g_c (g_nm (i := 5) sc__paths.nd rfl (.inl (by kernel_rfl)) (.inl rfl)) g_n0))) (s_one (s_exp (e_ext (e_v 1 rfl (.inl (by kernel_rfl))) (e_lst (a_cons (e_tup (a_cons (e_tup (a_cons e_str (a_cons (e_v 5 rfl (.inl (by kernel_rfl))) a_nil))) (a_cons (e_tup (a_cons e_int (a_cons (e_v 6 rfl (.inl (by kernel_rfl))) (a_cons e_int a_nil)))) a_nil))) (a_cons (e_tup (a_cons (e_tup (a_cons e_str (a_cons (e_v 5 rfl (.inl (by kernel_rfl))) a_nil))) (a_cons (e_tup (a_cons e_int (a_cons (e_v 6 rfl (.inl (by kernel_rfl))) (a_cons e_int a_nil)))) a_nil))) a_nil))))))) (s_one (s_ret (e_v 1 rfl (.inl (by kernel_rfl))))))))))
/-! settings -/
theorem sc_settings : FnScope ["plan", "name", "_"] ["plan"] (defScope (topS 45)) := ⟨rfl, rfl, rfl, by decide +kernel, rfl, by decide +kernel, by decide +kernel⟩
def b_settings : MS := (sRet (mCall gTuple (mCons (mCall (gSortD false) (mCons (mLc 100000 false (iLst (mCall (ar 1 r__paths) (mCons (mVar 0) mNil))) [1, 2] (gTp 2 (gC (gNm 1) (gC (gNm 2) gN0))) mYes (mVar 1)) mNil)) mNil)))
def r_settings : GC := runB 2 b_settings
theorem ok_settings (T : Tx K mg base) : FOk P w K mg base 2 T.d_settings.f T.d_settings.fd ["plan"] r_settings := by
  refine fn_ok 2 T.d_settings.F sc_settings rfl fun cdv A outer s H E hr => ?_
  exact (s_one (s_ret (e_tuple (gl_of (by kernel_rfl)) T.n_tuple (a_cons (e_sortD (fr := false) (hu80 hr) (gl_of (by kernel_rfl)) T.n_sorted (a_cons (e_lcv 100000 false [1, 2] rfl sc_settings.nd (blkOk_by (own := [("name", 1), ("_", 2)]) (N := ["plan", "name", "_"]) (sc := defScope (topS 45)) (by decide +kernel)) (by decide) (i_lst (e_call (ok__paths (P := P) (w := w) (base := base) T) (hr.mono (by first | decide | omega)) (takes_of rfl rfl rfl rfl) (gl_of (by kernel_rfl)) T.d__paths.m T.d__paths.F.kp T.d__paths.b (a_cons (e_v 0 rfl (.inl (by kernel_rfl))) a_nil))) (fun s H C cl fp => (g_tp (n := 2) rfl (g_c (g_nm (i := 1) sc_settings.nd rfl (.inl (by kernel_rfl)) (.inr (by kernel_rfl))) (g_c (g_nm (i := 2) sc_settings.nd rfl (.inl (by kernel_rfl)) (.inr (by kernel_rfl))) g_n0)))) (fun s H C cl fp => ts_nil) (fun s H C cl fp => (e_v 1 rfl (.inl (by kernel_rfl))))) a_nil)) a_nil))))
/-! _at -/
theorem sc__at : FnScope ["value", "path", "place"] ["value", "path"] (defScope (topS 49)) := ⟨rfl, rfl, rfl, by decide +kernel, rfl, by decide +kernel, by decide +kernel⟩
def b__at : MS := (sSeq (sFor 100000 (iTup (mVar 1)) (gNm 2) (sAsg (mBin gIx (mVar 0) (mVar 2)) (gNm 0))) (sRet (mVar 0)))
def r__at : GC := runB 1 b__at
theorem ok__at (T : Tx K mg base) : FOk P w K mg base 1 T.d__at.f T.d__at.fd ["value", "path"] r__at := by
  refine fn_ok 1 T.d__at.F sc__at rfl fun cdv A outer s H E hr => ?_
  exact (s_cons (s_for 100000 (passes_of rfl) rfl (i_tup (e_v 1 rfl (.inl (by kernel_rfl)))) (g_nm (i := 2) sc__at.nd rfl (.inl (by kernel_rfl)) (.inl rfl)) (s_one (s_asg (e_ix (e_v 0 rfl (.inl (by kernel_rfl))) (e_v 2 rfl (.inl (by kernel_rfl)))) (g_nm (i := 0) sc__at.nd rfl (.inl (by kernel_rfl)) (.inl rfl)) calm_nm))) (s_one (s_ret (e_v 0 rfl (.inl (by kernel_rfl))))))
/-! times_of -/
theorem sc_times_of : FnScope ["plan", "told", "name", "path"] ["plan"] (defScope (topS 46)) := ⟨rfl, rfl, rfl, by decide +kernel, rfl, by decide +kernel, by decide +kernel⟩
def b_times_of : MS := (sSeq (sAsg (mLc 100000 false (iLst (mCall (ar 1 r__paths) (mCons (mVar 0) mNil))) [2, 3] (gTp 2 (gC (gNm 2) (gC (gNm 3) gN0))) (mAndT (mT (mBin (gIn id) (mBin gIx (mVar 2) (mC (.int 0))) (mC (.tup [(.str "term"), (.str "stop"), (.str "length"), (.str "grace"), (.str "least"), (.str "most")])))) (mT (mBin (gIs not) (mCall (ar 2 r__at) (mCons (mVar 0) (mCons (mVar 3) mNil))) (mC .non)))) (mVar 2)) (gNm 1)) (sRet (mCall gTuple (mCons (mCall (gSortD false) (mCons (mVar 1) mNil)) mNil))))
def r_times_of : GC := runB 3 b_times_of
theorem ok_times_of (T : Tx K mg base) : FOk P w K mg base 2 T.d_times_of.f T.d_times_of.fd ["plan"] r_times_of := by
  refine fn_ok 3 T.d_times_of.F sc_times_of rfl fun cdv A outer s H E hr => ?_
  exact (s_cons (s_lcv (i := 1) 100000 false [2, 3] rfl sc_times_of.nd rfl rfl (sw_true rfl rfl rfl (by decide +kernel)) (blkOk_by (own := [("name", 2), ("path", 3)]) (N := ["plan", "told", "name", "path"]) (sc := defScope (topS 46)) (by decide +kernel)) (by decide) (i_lst (e_call (ok__paths (P := P) (w := w) (base := base) T) (hr.mono (by first | decide | omega)) (takes_of rfl rfl rfl rfl) (gl_of (by kernel_rfl)) T.d__paths.m T.d__paths.F.kp T.d__paths.b (a_cons (e_v 0 rfl (.inr (.inl (by kernel_rfl)))) a_nil))) (fun s H C cl fp => (g_tp (n := 2) rfl (g_c (g_nm (i := 2) sc_times_of.nd rfl (.inl (by kernel_rfl)) (.inr (by kernel_rfl))) (g_c (g_nm (i := 3) sc_times_of.nd rfl (.inl (by kernel_rfl)) (.inr (by kernel_rfl))) g_n0)))) (fun s H C cl fp => (ts_one (MW.t (w_and (t_in (hu65 hr) (e_ix (e_v 2 rfl (.inl (by kernel_rfl))) e_int) (e_cst (gl_of (by kernel_rfl)) T.x_TIMES)) (w_and1 (t_isnot (e_call (ok__at (P := P) (w := w) (base := base) T) (hr.mono (by first | decide | omega)) takes0 (gl_of (by kernel_rfl)) T.d__at.m T.d__at.F.kp T.d__at.b (a_cons (e_v 0 rfl (.inr (.inl (by kernel_rfl)))) (a_cons (e_v 3 rfl (.inl (by kernel_rfl))) a_nil))) e_non)))))) (fun s H C cl fp => (e_v 2 rfl (.inl (by kernel_rfl))))) (s_one (s_ret (e_tuple (gl_of (by kernel_rfl)) T.n_tuple (a_cons (e_sortD (fr := false) (hu80 hr) (gl_of (by kernel_rfl)) T.n_sorted (a_cons (e_v 1 rfl (.inl (by kernel_rfl))) a_nil)) a_nil)))))
/-! _path -/
theorem sc__path : FnScope ["plan", "name", "known", "path", "part"] ["plan", "name"] (defScope (topS 48)) := ⟨rfl, rfl, rfl, by decide +kernel, rfl, by decide +kernel, by decide +kernel⟩
def b__path : MS := (sSeq (sFor 100000 (iLst (mCall (ar 1 r__paths) (mCons (mVar 0) mNil))) (gTp 2 (gC (gNm 2) (gC (gNm 3) gN0))) (sIf (mAndT (mT (mBin gEq (mVar 2) (mVar 1))) (mNotT (mT (mGen true 100000 (iTup (mVar 1)) [4] (gNm 4) (mCall (ar 1 r_is_truth) (mCons (mVar 4) mNil)))))) (sRet (mVar 3)) sNil)) (sRaise1 "NoPlace" "place" (mCons (mVar 1) mNil)))
def r__path : GC := runB 3 b__path
theorem ok__path (T : Tx K mg base) : FOk P w K mg base 3 T.d__path.f T.d__path.fd ["plan", "name"] r__path := by
  refine fn_okC 3 T.d__path.F sc__path rfl fun cdv A outer s H E hcd hr => ?_
  exact (s_cons (s_for 100000 (passes_of rfl) rfl (i_lst (e_call (ok__paths (P := P) (w := w) (base := base) T) (hr.mono (by first | decide | omega)) (takes_of rfl rfl rfl rfl) (gl_of (by kernel_rfl)) T.d__paths.m T.d__paths.F.kp T.d__paths.b (a_cons (e_v 0 rfl (.inl (by kernel_rfl))) a_nil))) (g_tp (n := 2) rfl (g_c (g_nm (i := 2) sc__path.nd rfl (.inl (by kernel_rfl)) (.inl rfl)) (g_c (g_nm (i := 3) sc__path.nd rfl (.inl (by kernel_rfl)) (.inl rfl)) g_n0))) (s_one (s_if (MW.t (w_and (t_eq hr.units (e_v 2 rfl (.inl (by kernel_rfl))) (e_v 1 rfl (.inl (by kernel_rfl)))) (w_and1 (t_not (t_val (e_anyG 100000 [4] hr (gl_of (by kernel_rfl)) T.n_any T.g__path hcd (gsc_of (blkOk_by (own := [("part", 4)]) (N := ["plan", "name", "known", "path", "part"]) (sc := defScope (topS 48)) (by decide +kernel)) rfl (by kernel_rfl) (by kernel_rfl)) sc__path.nd (by decide) (i_tup (e_v 1 rfl (.inl (by kernel_rfl)))) (fun A s H C cl fp hr => (g_nm (i := 4) sc__path.nd rfl (.inl (by kernel_rfl)) (.inr (by kernel_rfl)))) (fun A s H C cl fp hr => (e_call (ok_is_truth (P := P) (w := w) (base := base) T) (hr.mono (by first | decide | omega)) takes0 (gl_of (by kernel_rfl)) T.d_is_truth.m T.d_is_truth.F.kp T.d_is_truth.b (a_cons (e_v 4 rfl (.inl (by kernel_rfl))) a_nil))))))))) (s_one (s_ret (e_v 3 rfl (.inl (by kernel_rfl))))) s_nil))) (s_one (s_raise1 F.excBase_LookupError T.c_NoPlace.T T.c_NoPlace.ns T.c_NoPlace.iC T.c_NoPlace.tI (okX_NoPlace (P := P) (w := w) (base := base) T) (hr.mono (by first | decide | omega)) T.c_NoPlace.b rfl (takes_of rfl rfl rfl rfl) (gl_of (by kernel_rfl)) T.c_NoPlace.m (a_cons (e_v 1 rfl (.inl (by kernel_rfl))) a_nil))))
/-! _with -/
theorem sc__with : FnScope ["value", "path", "new", "place"] ["value", "path", "new"] (defScope (topS 50)) := ⟨rfl, rfl, rfl, by decide +kernel, rfl, by decide +kernel, by decide +kernel⟩
def b__with (self : GC) : MS := (sSeq (sIf (mT (mBin gEq (mVar 1) (mTup mNil))) (sRet (mVar 2)) sNil) (sSeq (sAsg (mBin gIx (mVar 1) (mC (.int 0))) (gNm 3)) (sRet (mBin (gAdd false) (mBin (gAdd false) (mSl false (mVar 0) mPN (mPS (mVar 3))) (mTup (mCons (mCall (ar 3 self) (mCons (mBin gIx (mVar 0) (mVar 3)) (mCons (mSl false (mVar 1) (mPS (mC (.int 1))) mPN) (mCons (mVar 2) mNil)))) mNil))) (mSl false (mVar 0) (mPS (mBin (gAdd false) (mVar 3) (mC (.int 1)))) mPN)))))
def r__with : Nat → GC
  | 0 => fun _ _ => .bad
  | l + 1 => runB 1 (b__with (r__with l))
theorem ok__with (T : Tx K mg base) : ∀ l : Nat, FOk P w K mg base (l + 0) T.d__with.f T.d__with.fd ["value", "path", "new"] (r__with l)
  | 0 => fn_bad
  | l + 1 => by
    have IH := ok__with T l
    rw [show l + 1 + 0 = (l + 0) + 1 by omega]
    refine fn_ok 1 T.d__with.F sc__with rfl fun cdv A outer s H E hr => ?_
    exact (s_cons (s_if (t_eq hr.units (e_v 1 rfl (.inl (by kernel_rfl))) (e_tup a_nil)) (s_one (s_ret (e_v 2 rfl (.inl (by kernel_rfl))))) s_nil) (s_cons (s_asg (e_ix (e_v 1 rfl (.inl (by kernel_rfl))) e_int) (g_nm (i := 3) sc__with.nd rfl (.inl (by kernel_rfl)) (.inl rfl)) calm_nm) (s_one (s_ret (e_add (fr := false) (e_add (fr := false) (e_sl (fr := false) (e_v 0 rfl (.inl (by kernel_rfl))) p_none (p_some (e_v 3 rfl (.inl (by kernel_rfl))))) (e_tup (a_cons (e_call IH hr (takes_of rfl rfl rfl rfl) (gl_of (by kernel_rfl)) T.d__with.m T.d__with.F.kp T.d__with.b (a_cons (e_ix (e_v 0 rfl (.inl (by kernel_rfl))) (e_v 3 rfl (.inl (by kernel_rfl)))) (a_cons (e_sl (fr := false) (e_v 1 rfl (.inl (by kernel_rfl))) (p_some e_int) p_none) (a_cons (e_v 2 rfl (.inl (by kernel_rfl))) a_nil)))) a_nil))) (e_sl (fr := false) (e_v 0 rfl (.inl (by kernel_rfl))) (p_some (e_add (fr := false) (e_v 3 rfl (.inl (by kernel_rfl))) e_int)) p_none))))))
/-! setting -/
theorem sc_setting : FnScope ["plan", "name"] ["plan", "name"] (defScope (topS 51)) := ⟨rfl, rfl, rfl, by decide +kernel, rfl, by decide +kernel, by decide +kernel⟩
def b_setting : MS := (sRet (mCall (ar 1 (r_tupled 12)) (mCons (mCall (ar 2 r__at) (mCons (mVar 0) (mCons (mCall (ar 2 (afresh r__path)) (mCons (mVar 0) (mCons (mCall (ar 1 (r_tupled 12)) (mCons (mVar 1) mNil)) mNil))) mNil))) mNil)))
def r_setting : GC := runB 0 b_setting
theorem ok_setting (T : Tx K mg base) : FOk P w K mg base 13 T.d_setting.f T.d_setting.fd ["plan", "name"] r_setting := by
  refine fn_ok 0 T.d_setting.F sc_setting rfl fun cdv A outer s H E hr => ?_
  exact (s_one (s_ret (e_call (ok_tupled (P := P) (w := w) (base := base) T 12) (hr.mono (by first | decide | omega)) (takes_of rfl rfl rfl rfl) (gl_of (by kernel_rfl)) T.d_tupled.m T.d_tupled.F.kp T.d_tupled.b (a_cons (e_call (ok__at (P := P) (w := w) (base := base) T) (hr.mono (by first | decide | omega)) (takes_of rfl rfl rfl rfl) (gl_of (by kernel_rfl)) T.d__at.m T.d__at.F.kp T.d__at.b (a_cons (e_v 0 rfl (.inl (by kernel_rfl))) (a_cons (e_call (fok_afresh (ok__path (P := P) (w := w) (base := base) T)) (hr.mono (by first | decide | omega)) (takes_of rfl rfl rfl rfl) (gl_of (by kernel_rfl)) T.d__path.m T.d__path.F.kp T.d__path.b (a_cons (e_v 0 rfl (.inl (by kernel_rfl))) (a_cons (e_call (ok_tupled (P := P) (w := w) (base := base) T 12) (hr.mono (by first | decide | omega)) (takes_of rfl rfl rfl rfl) (gl_of (by kernel_rfl)) T.d_tupled.m T.d_tupled.F.kp T.d_tupled.b (a_cons (e_v 1 rfl (.inl (by kernel_rfl))) a_nil)) a_nil))) a_nil))) a_nil))))
/-! changed -/
theorem sc_changed : FnScope ["plan", "name", "value", "new"] ["plan", "name", "value"] (defScope (topS 52)) := ⟨rfl, rfl, rfl, by decide +kernel, rfl, by decide +kernel, by decide +kernel⟩
def b_changed : MS := (sSeq (sAsg (mCall (ar 3 (r__with 12)) (mCons (mCall (ar 1 (r_tupled 12)) (mCons (mVar 0) mNil)) (mCons (mCall (ar 2 (afresh r__path)) (mCons (mVar 0) (mCons (mCall (ar 1 (r_tupled 12)) (mCons (mVar 1) mNil)) mNil))) (mCons (mCall (ar 1 (r_tupled 12)) (mCons (mVar 2) mNil)) mNil)))) (gNm 3)) (sSeq (sIf (mNotT (mT (mCall (ar 1 r_is_plan) (mCons (mVar 3) mNil)))) (sRaise "Unfit") sNil) (sRet (mVar 3))))
def r_changed : GC := runB 1 b_changed
theorem ok_changed (T : Tx K mg base) : FOk P w K mg base 13 T.d_changed.f T.d_changed.fd ["plan", "name", "value"] r_changed := by
  refine fn_ok 1 T.d_changed.F sc_changed rfl fun cdv A outer s H E hr => ?_
  exact (s_cons (s_asg (e_call (ok__with (P := P) (w := w) (base := base) T 12) (hr.mono (by first | decide | omega)) (takes_of rfl rfl rfl rfl) (gl_of (by kernel_rfl)) T.d__with.m T.d__with.F.kp T.d__with.b (a_cons (e_call (ok_tupled (P := P) (w := w) (base := base) T 12) (hr.mono (by first | decide | omega)) (takes_of rfl rfl rfl rfl) (gl_of (by kernel_rfl)) T.d_tupled.m T.d_tupled.F.kp T.d_tupled.b (a_cons (e_v 0 rfl (.inl (by kernel_rfl))) a_nil)) (a_cons (e_call (fok_afresh (ok__path (P := P) (w := w) (base := base) T)) (hr.mono (by first | decide | omega)) (takes_of rfl rfl rfl rfl) (gl_of (by kernel_rfl)) T.d__path.m T.d__path.F.kp T.d__path.b (a_cons (e_v 0 rfl (.inl (by kernel_rfl))) (a_cons (e_call (ok_tupled (P := P) (w := w) (base := base) T 12) (hr.mono (by first | decide | omega)) (takes_of rfl rfl rfl rfl) (gl_of (by kernel_rfl)) T.d_tupled.m T.d_tupled.F.kp T.d_tupled.b (a_cons (e_v 1 rfl (.inl (by kernel_rfl))) a_nil)) a_nil))) (a_cons (e_call (ok_tupled (P := P) (w := w) (base := base) T 12) (hr.mono (by first | decide | omega)) (takes_of rfl rfl rfl rfl) (gl_of (by kernel_rfl)) T.d_tupled.m T.d_tupled.F.kp T.d_tupled.b (a_cons (e_v 2 rfl (.inl (by kernel_rfl))) a_nil)) a_nil)))) (g_nm (i := 3) sc_changed.nd rfl (.inl (by kernel_rfl)) (.inl rfl)) calm_nm) (s_cons (s_if (t_not (t_val (e_call (ok_is_plan (P := P) (w := w) (base := base) T) (hr.mono (by first | decide | omega)) (takes_of rfl rfl rfl rfl) (gl_of (by kernel_rfl)) T.d_is_plan.m T.d_is_plan.F.kp T.d_is_plan.b (a_cons (e_v 3 rfl (.inl (by kernel_rfl))) a_nil)))) (s_one (s_raise0 F.excBase_ValueError T.c_Unfit.T T.c_Unfit.ns T.c_Unfit.iC T.c_Unfit.tI (okX_Unfit (P := P) (w := w) (base := base) T) (hr.mono (by first | decide | omega)) T.c_Unfit.b rfl (takes_of rfl rfl rfl rfl) (gl_of (by kernel_rfl)) T.c_Unfit.m)) s_nil) (s_one (s_ret (e_v 3 rfl (.inl (by kernel_rfl)))))))
/-! scaled -/
theorem sc_scaled : FnScope ["plan", "factor", "new", "name", "path"] ["plan", "factor"] (defScope (topS 53)) := ⟨rfl, rfl, rfl, by decide +kernel, rfl, by decide +kernel, by decide +kernel⟩
def b_scaled : MS := (sSeq (sIf (mNotT (mT (mCall (ar 2 r_less) (mCons (mC (.tup [(.int 0), (.int 1)])) (mCons (mVar 1) mNil))))) (sRaise "Unfit") sNil) (sSeq (sAsg (mCall (ar 1 (r_tupled 12)) (mCons (mVar 0) mNil)) (gNm 2)) (sSeq (sFor 100000 (iTup (mCall (ar 1 (afresh r_times_of)) (mCons (mVar 0) mNil))) (gNm 3) (sSeq (sAsg (mCall (ar 2 (afresh r__path)) (mCons (mVar 0) (mCons (mVar 3) mNil))) (gNm 4)) (sAsg (mCall (ar 3 (r__with 12)) (mCons (mVar 2) (mCons (mVar 4) (mCons (mCall (ar 2 r_times) (mCons (mCall (ar 2 r__at) (mCons (mVar 0) (mCons (mVar 4) mNil))) (mCons (mVar 1) mNil))) mNil)))) (gNm 2)))) (sRet (mVar 2)))))
def r_scaled : GC := runB 3 b_scaled
theorem ok_scaled (T : Tx K mg base) : FOk P w K mg base 13 T.d_scaled.f T.d_scaled.fd ["plan", "factor"] r_scaled := by
  refine fn_ok 3 T.d_scaled.F sc_scaled rfl fun cdv A outer s H E hr => ?_
  exact (s_cons (s_if (t_not (t_val (e_call (ok_less (P := P) (w := w) (base := base) T) (hr.mono (by first | decide | omega)) (takes_of rfl rfl rfl rfl) (gl_of (by kernel_rfl)) T.d_less.m T.d_less.F.kp T.d_less.b (a_cons (e_cst (gl_of (by kernel_rfl)) T.x_ZERO) (a_cons (e_v 1 rfl (.inl (by kernel_rfl))) a_nil))))) (s_one (s_raise0 F.excBase_ValueError T.c_Unfit.T T.c_Unfit.ns T.c_Unfit.iC T.c_Unfit.tI (okX_Unfit (P := P) (w := w) (base := base) T) (hr.mono (by first | decide | omega)) T.c_Unfit.b rfl (takes_of rfl rfl rfl rfl) (gl_of (by kernel_rfl)) T.c_Unfit.m)) s_nil) (s_cons (s_asg (e_call (ok_tupled (P := P) (w := w) (base := base) T 12) (hr.mono (by first | decide | omega)) (takes_of rfl rfl rfl rfl) (gl_of (by kernel_rfl)) T.d_tupled.m T.d_tupled.F.kp T.d_tupled.b (a_cons (e_v 0 rfl (.inl (by kernel_rfl))) a_nil)) (g_nm (i := 2) sc_scaled.nd rfl (.inl (by kernel_rfl)) (.inl rfl)) calm_nm) (s_cons (s_for 100000 (passes_of rfl) rfl (i_tup (e_call (fok_afresh (ok_times_of (P := P) (w := w) (base := base) T)) (hr.mono (by first | decide | omega)) (takes_of rfl rfl rfl rfl) (gl_of (by kernel_rfl)) T.d_times_of.m T.d_times_of.F.kp T.d_times_of.b (a_cons (e_v 0 rfl (.inl (by kernel_rfl))) a_nil))) (g_nm (i := 3) sc_scaled.nd rfl (.inl (by kernel_rfl)) (.inl rfl)) (s_cons (s_asg (e_call (fok_afresh (ok__path (P := P) (w := w) (base := base) T)) (hr.mono (by first | decide | omega)) (takes_of rfl rfl rfl rfl) (gl_of (by kernel_rfl)) T.d__path.m T.d__path.F.kp T.d__path.b (a_cons (e_v 0 rfl (.inl (by kernel_rfl))) (a_cons (e_v 3 rfl (.inl (by kernel_rfl))) a_nil))) (g_nm (i := 4) sc_scaled.nd rfl (.inl (by kernel_rfl)) (.inl rfl)) calm_nm) (s_one (s_asg (e_call (ok__with (P := P) (w := w) (base := base) T 12) (hr.mono (by first | decide | omega)) (takes_of rfl rfl rfl rfl) (gl_of (by kernel_rfl)) T.d__with.m T.d__with.F.kp T.d__with.b (a_cons (e_v 2 rfl (.inl (by kernel_rfl))) (a_cons (e_v 4 rfl (.inl (by kernel_rfl))) (a_cons (e_call (ok_times (P := P) (w := w) (base := base) T) (hr.mono (by first | decide | omega)) (takes_of rfl rfl rfl rfl) (gl_of (by kernel_rfl)) T.d_times.m T.d_times.F.kp T.d_times.b (a_cons (e_call (ok__at (P := P) (w := w) (base := base) T) (hr.mono (by first | decide | omega)) (takes_of rfl rfl rfl rfl) (gl_of (by kernel_rfl)) T.d__at.m T.d__at.F.kp T.d__at.b (a_cons (e_v 0 rfl (.inl (by kernel_rfl))) (a_cons (e_v 4 rfl (.inl (by kernel_rfl))) a_nil))) (a_cons (e_v 1 rfl (.inl (by kernel_rfl))) a_nil))) a_nil)))) (g_nm (i := 2) sc_scaled.nd rfl (.inl (by kernel_rfl)) (.inl rfl)) calm_nm)))) (s_one (s_ret (e_v 2 rfl (.inl (by kernel_rfl))))))))
/-! longest_belief -/
theorem sc_longest_belief : FnScope ["plan"] ["plan"] (defScope (topS 54)) := ⟨rfl, rfl, rfl, by decide +kernel, rfl, by decide +kernel, by decide +kernel⟩
def b_longest_belief : MS := (sRet (mCall (ar 2 r_over) (mCons (mBin gIx (mBin gIx (mVar 0) (mC (.int 4))) (mC (.int 0))) (mCons (mBin gIx (mBin gIx (mBin gIx (mVar 0) (mC (.int 2))) (mC (.int 0))) (mC (.int 0))) mNil))))
def r_longest_belief : GC := runB 0 b_longest_belief
theorem ok_longest_belief (T : Tx K mg base) : FOk P w K mg base 3 T.d_longest_belief.f T.d_longest_belief.fd ["plan"] r_longest_belief := by
  refine fn_ok 0 T.d_longest_belief.F sc_longest_belief rfl fun cdv A outer s H E hr => ?_
  exact (s_one (s_ret (e_call (ok_over (P := P) (w := w) (base := base) T) (hr.mono (by first | decide | omega)) (takes_of rfl rfl rfl rfl) (gl_of (by kernel_rfl)) T.d_over.m T.d_over.F.kp T.d_over.b (a_cons (e_ix (e_ix (e_v 0 rfl (.inl (by kernel_rfl))) e_int) e_int) (a_cons (e_ix (e_ix (e_ix (e_v 0 rfl (.inl (by kernel_rfl))) e_int) e_int) e_int) a_nil)))))
/-! check_keeper -/
theorem sc_check_keeper : FnScope ["plan", "keeper"] ["plan", "keeper"] (defScope (topS 56)) := ⟨rfl, rfl, rfl, by decide +kernel, rfl, by decide +kernel, by decide +kernel⟩
def b_check_keeper : MS := (sIf (mNotT (mT (mCall (ar 2 r_is_place) (mCons (mCall gLen (mCons (mBin gIx (mVar 0) (mC (.int 1))) mNil)) (mCons (mVar 1) mNil))))) (sRaise1 "NoPlace" "place" (mCons (mVar 1) mNil)) sNil)
def r_check_keeper : GC := runB 0 b_check_keeper
theorem ok_check_keeper (T : Tx K mg base) : FOk P w K mg base 4 T.d_check_keeper.f T.d_check_keeper.fd ["plan", "keeper"] r_check_keeper := by
  refine fn_ok 0 T.d_check_keeper.F sc_check_keeper rfl fun cdv A outer s H E hr => ?_
  exact (s_one (s_if (t_not (t_val (e_call (ok_is_place (P := P) (w := w) (base := base) T) (hr.mono (by first | decide | omega)) (takes_of rfl rfl rfl rfl) (gl_of (by kernel_rfl)) T.d_is_place.m T.d_is_place.F.kp T.d_is_place.b (a_cons (e_len (gl_of (by kernel_rfl)) T.n_len (a_cons (e_ix (e_v 0 rfl (.inl (by kernel_rfl))) e_int) a_nil)) (a_cons (e_v 1 rfl (.inl (by kernel_rfl))) a_nil))))) (s_one (s_raise1 F.excBase_LookupError T.c_NoPlace.T T.c_NoPlace.ns T.c_NoPlace.iC T.c_NoPlace.tI (okX_NoPlace (P := P) (w := w) (base := base) T) (hr.mono (by first | decide | omega)) T.c_NoPlace.b rfl (takes_of rfl rfl rfl rfl) (gl_of (by kernel_rfl)) T.c_NoPlace.m (a_cons (e_v 1 rfl (.inl (by kernel_rfl))) a_nil))) s_nil))
/-! shortest_keep -/
theorem sc_shortest_keep : FnScope ["plan", "keeper", "length"] ["plan", "keeper"] (defScope (topS 55)) := ⟨rfl, rfl, rfl, by decide +kernel, rfl, by decide +kernel, by decide +kernel⟩
def b_shortest_keep : MS := (sSeq (sExp (mCall (ar 2 r_check_keeper) (mCons (mVar 0) (mCons (mVar 1) mNil)))) (sSeq (sAsg (mBin gIx (mBin gIx (mBin gIx (mVar 0) (mC (.int 1))) (mVar 1)) (mC (.int 0))) (gNm 2)) (sRet (mIf (mT (mBin (gIs id) (mVar 2) (mC .non))) (mC .non) (mCall (ar 2 r_over) (mCons (mVar 2) (mCons (mBin gIx (mBin gIx (mBin gIx (mVar 0) (mC (.int 2))) (mC (.int 1))) (mC (.int 1))) mNil)))))))
def r_shortest_keep : GC := runB 1 b_shortest_keep
theorem ok_shortest_keep (T : Tx K mg base) : FOk P w K mg base 5 T.d_shortest_keep.f T.d_shortest_keep.fd ["plan", "keeper"] r_shortest_keep := by
  refine fn_ok 1 T.d_shortest_keep.F sc_shortest_keep rfl fun cdv A outer s H E hr => ?_
  exact (s_cons (s_exp (e_call (ok_check_keeper (P := P) (w := w) (base := base) T) (hr.mono (by first | decide | omega)) (takes_of rfl rfl rfl rfl) (gl_of (by kernel_rfl)) T.d_check_keeper.m T.d_check_keeper.F.kp T.d_check_keeper.b (a_cons (e_v 0 rfl (.inl (by kernel_rfl))) (a_cons (e_v 1 rfl (.inl (by kernel_rfl))) a_nil)))) (s_cons (s_asg (e_ix (e_ix (e_ix (e_v 0 rfl (.inl (by kernel_rfl))) e_int) (e_v 1 rfl (.inl (by kernel_rfl)))) e_int) (g_nm (i := 2) sc_shortest_keep.nd rfl (.inl (by kernel_rfl)) (.inl rfl)) calm_nm) (s_one (s_ret (e_ifx (t_is (e_v 2 rfl (.inl (by kernel_rfl))) e_non) e_non (e_call (ok_over (P := P) (w := w) (base := base) T) (hr.mono (by first | decide | omega)) (takes_of rfl rfl rfl rfl) (gl_of (by kernel_rfl)) T.d_over.m T.d_over.F.kp T.d_over.b (a_cons (e_v 2 rfl (.inl (by kernel_rfl))) (a_cons (e_ix (e_ix (e_ix (e_v 0 rfl (.inl (by kernel_rfl))) e_int) e_int) e_int) a_nil))))))))
/-! can_hold -/
theorem sc_can_hold : FnScope ["plan", "ask", "grant"] ["plan"] (defScope (topS 57)) := ⟨rfl, rfl, rfl, by decide +kernel, rfl, by decide +kernel, by decide +kernel⟩
def b_can_hold : MS := (sSeq (sAsg (mSl false (mBin gIx (mVar 0) (mC (.int 3))) mPN (mPS (mC (.int 2)))) (gTp 2 (gC (gNm 1) (gC (gNm 2) gN0)))) (sSeq (sIf (mOrT (mT (mBin gEq (mBin gIx (mBin gIx (mVar 0) (mC (.int 4))) (mC (.int 1))) (mC (.str "taken")))) (mT (mBin (gIn id) (mC (.str "bare grant")) (mBin gIx (mVar 0) (mC (.int 6)))))) (sRet (mC (.bl true))) sNil) (sRet (mNot (mCall (ar 2 r_less) (mCons (mCall (ar 1 r_longest_belief) (mCons (mVar 0) mNil)) (mCons (mCall (ar 2 r_plus) (mCons (mBin gIx (mVar 1) (mC (.int 0))) (mCons (mBin gIx (mVar 2) (mC (.int 0))) mNil))) mNil)))))))
def r_can_hold : GC := runB 2 b_can_hold
theorem ok_can_hold (T : Tx K mg base) : FOk P w K mg base 4 T.d_can_hold.f T.d_can_hold.fd ["plan"] r_can_hold := by
  refine fn_ok 2 T.d_can_hold.F sc_can_hold rfl fun cdv A outer s H E hr => ?_
  exact (s_cons (s_asg (e_sl (fr := false) (e_ix (e_v 0 rfl (.inl (by kernel_rfl))) e_int) p_none (p_some e_int)) (g_tp (n := 2) rfl (g_c (g_nm (i := 1) sc_can_hold.nd rfl (.inl (by kernel_rfl)) (.inl rfl)) (g_c (g_nm (i := 2) sc_can_hold.nd rfl (.inl (by kernel_rfl)) (.inl rfl)) g_n0))) (calm_tp (calm_c calm_nm (calm_c calm_nm calm_n0)))) (s_cons (s_if (MW.t (w_or (t_eq hr.units (e_ix (e_ix (e_v 0 rfl (.inl (by kernel_rfl))) e_int) e_int) e_str) (w_or1 (t_in (hu65 hr) e_str (e_ix (e_v 0 rfl (.inl (by kernel_rfl))) e_int))))) (s_one (s_ret e_bl)) s_nil) (s_one (s_ret (e_not (e_call (ok_less (P := P) (w := w) (base := base) T) (hr.mono (by first | decide | omega)) (takes_of rfl rfl rfl rfl) (gl_of (by kernel_rfl)) T.d_less.m T.d_less.F.kp T.d_less.b (a_cons (e_call (ok_longest_belief (P := P) (w := w) (base := base) T) (hr.mono (by first | decide | omega)) (takes_of rfl rfl rfl rfl) (gl_of (by kernel_rfl)) T.d_longest_belief.m T.d_longest_belief.F.kp T.d_longest_belief.b (a_cons (e_v 0 rfl (.inl (by kernel_rfl))) a_nil)) (a_cons (e_call (ok_plus (P := P) (w := w) (base := base) T) (hr.mono (by first | decide | omega)) (takes_of rfl rfl rfl rfl) (gl_of (by kernel_rfl)) T.d_plus.m T.d_plus.F.kp T.d_plus.b (a_cons (e_ix (e_v 1 rfl (.inl (by kernel_rfl))) e_int) (a_cons (e_ix (e_v 2 rfl (.inl (by kernel_rfl))) e_int) a_nil))) a_nil))))))))
/-! _without_times -/
theorem sc__without_times : FnScope ["plan", "lots", "keepers", "_", "library", "stores", "faults", "term", "counts", "releases", "sealed"] ["plan"] (defScope (topS 59)) := ⟨rfl, rfl, rfl, by decide +kernel, rfl, by decide +kernel, by decide +kernel⟩
def b__without_times : MS := (sSeq (sAsg (mCall (ar 1 (r_tupled 12)) (mCons (mVar 0) mNil)) (gTp 7 (gC (gNm 1) (gC (gNm 2) (gC (gNm 3) (gC (gNm 3) (gC (gNm 4) (gC (gNm 5) (gC (gNm 6) gN0))))))))) (sSeq (sAsg (mVar 4) (gTp 5 (gC (gNm 7) (gC (gNm 8) (gC (gNm 3) (gC (gNm 9) (gC (gNm 10) gN0))))))) (sRet (mTup (mCons (mVar 1) (mCons (mVar 2) (mCons (mVar 7) (mCons (mVar 8) (mCons (mVar 9) (mCons (mVar 10) (mCons (mVar 5) (mCons (mVar 6) mNil))))))))))))
def r__without_times : GC := runB 10 b__without_times
theorem ok__without_times (T : Tx K mg base) : FOk P w K mg base 13 T.d__without_times.f T.d__without_times.fd ["plan"] r__without_times := by
  refine fn_ok 10 T.d__without_times.F sc__without_times rfl fun cdv A outer s H E hr => ?_
  exact (s_cons (s_asg (e_call (ok_tupled (P := P) (w := w) (base := base) T 12) (hr.mono (by first | decide | omega)) (takes_of rfl rfl rfl rfl) (gl_of (by kernel_rfl)) T.d_tupled.m T.d_tupled.F.kp T.d_tupled.b (a_cons (e_v 0 rfl (.inl (by kernel_rfl))) a_nil)) (g_tp (n := 7) rfl (g_c (g_nm (i := 1) sc__without_times.nd rfl (.inl (by kernel_rfl)) (.inl rfl)) (g_c (g_nm (i := 2) sc__without_times.nd rfl (.inl (by kernel_rfl)) (.inl rfl)) (g_c (g_nm (i := 3) sc__without_times.nd rfl (.inl (by kernel_rfl)) (.inl rfl)) (g_c (g_nm (i := 3) sc__without_times.nd rfl (.inl (by kernel_rfl)) (.inl rfl)) (g_c (g_nm (i := 4) sc__without_times.nd rfl (.inl (by kernel_rfl)) (.inl rfl)) (g_c (g_nm (i := 5) sc__without_times.nd rfl (.inl (by kernel_rfl)) (.inl rfl)) (g_c (g_nm (i := 6) sc__without_times.nd rfl (.inl (by kernel_rfl)) (.inl rfl)) g_n0)))))))) (calm_tp (calm_c calm_nm (calm_c calm_nm (calm_c calm_nm (calm_c calm_nm (calm_c calm_nm (calm_c calm_nm (calm_c calm_nm calm_n0))))))))) (s_cons (s_asg (e_v 4 rfl (.inl (by kernel_rfl))) (g_tp (n := 5) rfl (g_c (g_nm (i := 7) sc__without_times.nd rfl (.inl (by kernel_rfl)) (.inl rfl)) (g_c (g_nm (i := 8) sc__without_times.nd rfl (.inl (by kernel_rfl)) (.inl rfl)) (g_c (g_nm (i := 3) sc__without_times.nd rfl (.inl (by kernel_rfl)) (.inl rfl)) (g_c (g_nm (i := 9) sc__without_times.nd rfl (.inl (by kernel_rfl)) (.inl rfl)) (g_c (g_nm (i := 10) sc__without_times.nd rfl (.inl (by kernel_rfl)) (.inl rfl)) g_n0)))))) (calm_tp (calm_c calm_nm (calm_c calm_nm (calm_c calm_nm (calm_c calm_nm (calm_c calm_nm calm_n0))))))) (s_one (s_ret (e_tup (a_cons (e_v 1 rfl (.inl (by kernel_rfl))) (a_cons (e_v 2 rfl (.inl (by kernel_rfl))) (a_cons (e_v 7 rfl (.inl (by kernel_rfl))) (a_cons (e_v 8 rfl (.inl (by kernel_rfl))) (a_cons (e_v 9 rfl (.inl (by kernel_rfl))) (a_cons (e_v 10 rfl (.inl (by kernel_rfl))) (a_cons (e_v 5 rfl (.inl (by kernel_rfl))) (a_cons (e_v 6 rfl (.inl (by kernel_rfl))) a_nil)))))))))))))
/-! same_but_times -/
theorem sc_same_but_times : FnScope ["plan", "other"] ["plan", "other"] (defScope (topS 58)) := ⟨rfl, rfl, rfl, by decide +kernel, rfl, by decide +kernel, by decide +kernel⟩
def b_same_but_times : MS := (sRet (mBin gEq (mCall (ar 1 r__without_times) (mCons (mVar 0) mNil)) (mCall (ar 1 r__without_times) (mCons (mVar 1) mNil))))
def r_same_but_times : GC := runB 0 b_same_but_times
theorem ok_same_but_times (T : Tx K mg base) : FOk P w K mg base 14 T.d_same_but_times.f T.d_same_but_times.fd ["plan", "other"] r_same_but_times := by
  refine fn_ok 0 T.d_same_but_times.F sc_same_but_times rfl fun cdv A outer s H E hr => ?_
  exact (s_one (s_ret (e_eq hr.units (e_call (ok__without_times (P := P) (w := w) (base := base) T) (hr.mono (by first | decide | omega)) (takes_of rfl rfl rfl rfl) (gl_of (by kernel_rfl)) T.d__without_times.m T.d__without_times.F.kp T.d__without_times.b (a_cons (e_v 0 rfl (.inl (by kernel_rfl))) a_nil)) (e_call (ok__without_times (P := P) (w := w) (base := base) T) (hr.mono (by first | decide | omega)) (takes_of rfl rfl rfl rfl) (gl_of (by kernel_rfl)) T.d__without_times.m T.d__without_times.F.kp T.d__without_times.b (a_cons (e_v 1 rfl (.inl (by kernel_rfl))) a_nil)))))
/-! _is_up_to -/
theorem sc__is_up_to : FnScope ["most", "other"] ["most", "other"] (defScope (topS 62)) := ⟨rfl, rfl, rfl, by decide +kernel, rfl, by decide +kernel, by decide +kernel⟩
def b__is_up_to : MS := (sSeq (sIf (mT (mBin (gIs id) (mVar 1) (mC .non))) (sRet (mC (.bl true))) sNil) (sRet (mAnd (mBin (gIs not) (mVar 0) (mC .non)) (mNot (mCall (ar 2 r_less) (mCons (mVar 1) (mCons (mVar 0) mNil)))))))
def r__is_up_to : GC := runB 0 b__is_up_to
theorem ok__is_up_to (T : Tx K mg base) : FOk P w K mg base 2 T.d__is_up_to.f T.d__is_up_to.fd ["most", "other"] r__is_up_to := by
  refine fn_ok 0 T.d__is_up_to.F sc__is_up_to rfl fun cdv A outer s H E hr => ?_
  exact (s_cons (s_if (t_is (e_v 1 rfl (.inl (by kernel_rfl))) e_non) (s_one (s_ret e_bl)) s_nil) (s_one (s_ret (e_and (e_isnot (e_v 0 rfl (.inl (by kernel_rfl))) e_non) (e_one (e_not (e_call (ok_less (P := P) (w := w) (base := base) T) (hr.mono (by first | decide | omega)) (takes_of rfl rfl rfl rfl) (gl_of (by kernel_rfl)) T.d_less.m T.d_less.F.kp T.d_less.b (a_cons (e_v 1 rfl (.inl (by kernel_rfl))) (a_cons (e_v 0 rfl (.inl (by kernel_rfl))) a_nil)))))))))
/-! _covers_leg -/
theorem sc__covers_leg : FnScope ["leg", "wider"] ["leg", "wider"] (defScope (topS 61)) := ⟨rfl, rfl, rfl, by decide +kernel, rfl, by decide +kernel, by decide +kernel⟩
def b__covers_leg : MS := (sRet (mAnd (mNot (mCall (ar 2 r_less) (mCons (mBin gIx (mVar 0) (mC (.int 0))) (mCons (mBin gIx (mVar 1) (mC (.int 0))) mNil)))) (mCall (ar 2 r__is_up_to) (mCons (mBin gIx (mVar 0) (mC (.int 1))) (mCons (mBin gIx (mVar 1) (mC (.int 1))) mNil)))))
def r__covers_leg : GC := runB 0 b__covers_leg
theorem ok__covers_leg (T : Tx K mg base) : FOk P w K mg base 3 T.d__covers_leg.f T.d__covers_leg.fd ["leg", "wider"] r__covers_leg := by
  refine fn_ok 0 T.d__covers_leg.F sc__covers_leg rfl fun cdv A outer s H E hr => ?_
  exact (s_one (s_ret (e_and (e_not (e_call (ok_less (P := P) (w := w) (base := base) T) (hr.mono (by first | decide | omega)) (takes_of rfl rfl rfl rfl) (gl_of (by kernel_rfl)) T.d_less.m T.d_less.F.kp T.d_less.b (a_cons (e_ix (e_v 0 rfl (.inl (by kernel_rfl))) e_int) (a_cons (e_ix (e_v 1 rfl (.inl (by kernel_rfl))) e_int) a_nil)))) (e_one (e_call (ok__is_up_to (P := P) (w := w) (base := base) T) (hr.mono (by first | decide | omega)) (takes_of rfl rfl rfl rfl) (gl_of (by kernel_rfl)) T.d__is_up_to.m T.d__is_up_to.F.kp T.d__is_up_to.b (a_cons (e_ix (e_v 0 rfl (.inl (by kernel_rfl))) e_int) (a_cons (e_ix (e_v 1 rfl (.inl (by kernel_rfl))) e_int) a_nil)))))))
/-! covers -/
theorem sc_covers : FnScope ["plan", "other", "slow", "fast", "slower", "faster", "many", "leg", "wider"] ["plan", "other"] (defScope (topS 60)) := ⟨rfl, rfl, rfl, by decide +kernel, rfl, by decide +kernel, by decide +kernel⟩
def b_covers : MS := (sSeq (sIf (mNotT (mT (mCall (ar 2 r_same_but_times) (mCons (mVar 0) (mCons (mVar 1) mNil))))) (sRaise "Unfit") sNil) (sSeq (sFor 100000 (iZq (mCons (mBin gIx (mVar 0) (mC (.int 2))) (mCons (mBin gIx (mVar 1) (mC (.int 2))) mNil))) (gTp 2 (gC (gTp 2 (gC (gNm 2) (gC (gNm 3) gN0))) (gC (gTp 2 (gC (gNm 4) (gC (gNm 5) gN0))) gN0))) (sIf (mOrT (mT (mCall (ar 2 r_less) (mCons (mVar 2) (mCons (mVar 4) mNil)))) (mT (mCall (ar 2 r_less) (mCons (mVar 5) (mCons (mVar 3) mNil))))) (sRet (mC (.bl false))) sNil)) (sSeq (sAsg (mIf (mT (mCall (ar 1 r_can_hold) (mCons (mVar 0) mNil))) (mC (.int 4)) (mC (.int 2))) (gNm 6)) (sSeq (sIf (mNotT (mT (mCall gAll (mCons (mLc 100000 false (iZq (mCons (mSl false (mBin gIx (mVar 0) (mC (.int 3))) mPN (mPS (mVar 6))) (mCons (mBin gIx (mVar 1) (mC (.int 3))) mNil))) [7, 8] (gTp 2 (gC (gNm 7) (gC (gNm 8) gN0))) mYes (mCall (ar 2 r__covers_leg) (mCons (mVar 7) (mCons (mVar 8) mNil)))) mNil)))) (sRet (mC (.bl false))) sNil) (sRet (mOr (mBin gEq (mVar 6) (mC (.int 2))) (mCall (ar 2 r__is_up_to) (mCons (mBin gIx (mBin gIx (mVar 0) (mC (.int 4))) (mC (.int 2))) (mCons (mBin gIx (mBin gIx (mVar 1) (mC (.int 4))) (mC (.int 2))) mNil)))))))))
def r_covers : GC := runB 7 b_covers
theorem ok_covers (T : Tx K mg base) : FOk P w K mg base 15 T.d_covers.f T.d_covers.fd ["plan", "other"] r_covers := by
  refine fn_ok 7 T.d_covers.F sc_covers rfl fun cdv A outer s H E hr => ?_
  exact (s_cons (s_if (t_not (t_val (e_call (ok_same_but_times (P := P) (w := w) (base := base) T) (hr.mono (by first | decide | omega)) (takes_of rfl rfl rfl rfl) (gl_of (by kernel_rfl)) T.d_same_but_times.m T.d_same_but_times.F.kp T.d_same_but_times.b (a_cons (e_v 0 rfl (.inl (by kernel_rfl))) (a_cons (e_v 1 rfl (.inl (by kernel_rfl))) a_nil))))) (s_one (s_raise0 F.excBase_ValueError T.c_Unfit.T T.c_Unfit.ns T.c_Unfit.iC T.c_Unfit.tI (okX_Unfit (P := P) (w := w) (base := base) T) (hr.mono (by first | decide | omega)) T.c_Unfit.b rfl (takes_of rfl rfl rfl rfl) (gl_of (by kernel_rfl)) T.c_Unfit.m)) s_nil) (s_cons (s_for 100000 (passes_of rfl) rfl (i_zq (gl_of (by kernel_rfl)) T.n_zip (a_cons (e_ix (e_v 0 rfl (.inl (by kernel_rfl))) e_int) (a_cons (e_ix (e_v 1 rfl (.inl (by kernel_rfl))) e_int) a_nil))) (g_tp (n := 2) rfl (g_c (g_tp (n := 2) rfl (g_c (g_nm (i := 2) sc_covers.nd rfl (.inl (by kernel_rfl)) (.inl rfl)) (g_c (g_nm (i := 3) sc_covers.nd rfl (.inl (by kernel_rfl)) (.inl rfl)) g_n0))) (g_c (g_tp (n := 2) rfl (g_c (g_nm (i := 4) sc_covers.nd rfl (.inl (by kernel_rfl)) (.inl rfl)) (g_c (g_nm (i := 5) sc_covers.nd rfl (.inl (by kernel_rfl)) (.inl rfl)) g_n0))) g_n0))) (s_one (s_if (MW.t (w_or (t_val (e_call (ok_less (P := P) (w := w) (base := base) T) (hr.mono (by first | decide | omega)) (takes_of rfl rfl rfl rfl) (gl_of (by kernel_rfl)) T.d_less.m T.d_less.F.kp T.d_less.b (a_cons (e_v 2 rfl (.inl (by kernel_rfl))) (a_cons (e_v 4 rfl (.inl (by kernel_rfl))) a_nil)))) (w_or1 (t_val (e_call (ok_less (P := P) (w := w) (base := base) T) (hr.mono (by first | decide | omega)) (takes_of rfl rfl rfl rfl) (gl_of (by kernel_rfl)) T.d_less.m T.d_less.F.kp T.d_less.b (a_cons (e_v 5 rfl (.inl (by kernel_rfl))) (a_cons (e_v 3 rfl (.inl (by kernel_rfl))) a_nil))))))) (s_one (s_ret e_bl)) s_nil))) (s_cons (s_asg (e_ifx (t_val (e_call (ok_can_hold (P := P) (w := w) (base := base) T) (hr.mono (by first | decide | omega)) (takes_of rfl rfl rfl rfl) (gl_of (by kernel_rfl)) T.d_can_hold.m T.d_can_hold.F.kp T.d_can_hold.b (a_cons (e_v 0 rfl (.inl (by kernel_rfl))) a_nil))) e_int e_int) (g_nm (i := 6) sc_covers.nd rfl (.inl (by kernel_rfl)) (.inl rfl)) calm_nm) (s_cons (s_if (t_not (t_val (e_all rfl (gl_of (by kernel_rfl)) T.n_all (a_cons (e_lcv 100000 false [7, 8] rfl sc_covers.nd (blkOk_by (own := [("leg", 7), ("wider", 8)]) (N := ["plan", "other", "slow", "fast", "slower", "faster", "many", "leg", "wider"]) (sc := defScope (topS 60)) (by decide +kernel)) (by decide) (i_zq (gl_of (by kernel_rfl)) T.n_zip (a_cons (e_sl (fr := false) (e_ix (e_v 0 rfl (.inl (by kernel_rfl))) e_int) p_none (p_some (e_v 6 rfl (.inl (by kernel_rfl))))) (a_cons (e_ix (e_v 1 rfl (.inl (by kernel_rfl))) e_int) a_nil))) (fun s H C cl fp => (g_tp (n := 2) rfl (g_c (g_nm (i := 7) sc_covers.nd rfl (.inl (by kernel_rfl)) (.inr (by kernel_rfl))) (g_c (g_nm (i := 8) sc_covers.nd rfl (.inl (by kernel_rfl)) (.inr (by kernel_rfl))) g_n0)))) (fun s H C cl fp => ts_nil) (fun s H C cl fp => (e_call (ok__covers_leg (P := P) (w := w) (base := base) T) (hr.mono (by first | decide | omega)) takes0 (gl_of (by kernel_rfl)) T.d__covers_leg.m T.d__covers_leg.F.kp T.d__covers_leg.b (a_cons (e_v 7 rfl (.inl (by kernel_rfl))) (a_cons (e_v 8 rfl (.inl (by kernel_rfl))) a_nil))))) a_nil)))) (s_one (s_ret e_bl)) s_nil) (s_one (s_ret (e_or (e_eq hr.units (e_v 6 rfl (.inl (by kernel_rfl))) e_int) (e_one (e_call (ok__is_up_to (P := P) (w := w) (base := base) T) (hr.mono (by first | decide | omega)) (takes_of rfl rfl rfl rfl) (gl_of (by kernel_rfl)) T.d__is_up_to.m T.d__is_up_to.F.kp T.d__is_up_to.b (a_cons (e_ix (e_ix (e_v 0 rfl (.inl (by kernel_rfl))) e_int) e_int) (a_cons (e_ix (e_ix (e_v 1 rfl (.inl (by kernel_rfl))) e_int) e_int) a_nil)))))))))))
/-! _law_box -/
theorem sc__law_box : FnScope ["script", "k", "cell"] ["script", "k"] (defScope (topS 64)) := ⟨rfl, rfl, rfl, by decide +kernel, rfl, by decide +kernel, by decide +kernel⟩
def b__law_box : MS := (sSeq (sAsg (mIf (mT (mBin gLt (mVar 1) (mCall gLen (mCons (mVar 0) mNil)))) (mBin gIx (mVar 0) (mVar 1)) mBad) (gNm 2)) (sRet (mBox (mCons (mBin (gMul false) (mCall gAbs (mCons (mVar 2) mNil)) (mCall gInt (mCons (mBin gGe (mCall gAbs (mCons (mVar 2) mNil)) (mBin gPow (mC (.int 10)) (mC (.int 18)))) mNil))) (mCons (mBin (gAdd false) (mBin (gAdd false) (mBin gMod (mCall gInt (mCons (mVar 2) mNil)) (mC (.int 2305843009213693951))) (mBin (gMul false) (mC (.int 39373)) (mVar 1))) (mC (.int 2325011))) (mCons (mC (.int 0)) mNil))))))
def r__law_box : GC := runB 1 b__law_box
theorem ok__law_box (T : Tx K mg base) : FOk P w K mg base 1 T.d__law_box.f T.d__law_box.fd ["script", "k"] r__law_box := by
  refine fn_ok 1 T.d__law_box.F sc__law_box rfl fun cdv A outer s H E hr => ?_
  exact (s_cons (s_asg (e_ifx (t_lt (e_v 1 rfl (.inl (by kernel_rfl))) (e_len (gl_of (by kernel_rfl)) T.n_len (a_cons (e_v 0 rfl (.inl (by kernel_rfl))) a_nil))) (e_ix (e_v 0 rfl (.inl (by kernel_rfl))) (e_v 1 rfl (.inl (by kernel_rfl)))) e_bad) (g_nm (i := 2) sc__law_box.nd rfl (.inl (by kernel_rfl)) (.inl rfl)) calm_nm) (s_one (s_ret (e_box (a_cons (e_mul (fr := false) (e_abs (gl_of (by kernel_rfl)) T.n_abs (a_cons (e_v 2 rfl (.inl (by kernel_rfl))) a_nil)) (e_intc (gl_of (by kernel_rfl)) T.n_int (a_cons (e_ge (e_abs (gl_of (by kernel_rfl)) T.n_abs (a_cons (e_v 2 rfl (.inl (by kernel_rfl))) a_nil)) (e_pow e_int e_int)) a_nil))) (a_cons (e_add (fr := false) (e_add (fr := false) (e_mod (e_intc (gl_of (by kernel_rfl)) T.n_int (a_cons (e_v 2 rfl (.inl (by kernel_rfl))) a_nil)) e_int) (e_mul (fr := false) e_int (e_v 1 rfl (.inl (by kernel_rfl))))) e_int) (a_cons e_int a_nil)))))))
/-! _law_take -/
theorem sc__law_take : FnScope ["urn", "below", "drawn", "once", "far", "twice"] ["urn", "below"] (defScope (topS 65)) := ⟨rfl, rfl, rfl, by decide +kernel, rfl, by decide +kernel, by decide +kernel⟩
def b__law_take : MS := (sSeq (sIf (mT (mBin gGt (mBin gIx (mVar 0) (mC (.int 0))) (mC (.int 0)))) (sSeq (sAsg (mBin gMod (mCall gInt (mCons (mBin gIx (mVar 0) (mC (.int 0))) mNil)) (mVar 1)) (gNm 2)) (sSeq (sAsg (mBin gDiv (mBin gIx (mVar 0) (mC (.int 0))) (mVar 1)) (gSb (mVar 0) (mC (.int 0)))) (sRet (mVar 2)))) sNil) (sSeq (sAsg (mBin (gAdd false) (mBin gIx (mVar 0) (mC (.int 2))) (mC (.int 1))) (gSb (mVar 0) (mC (.int 2)))) (sSeq (sAsg (mBin gMod (mCall gInt (mCons (mBin (gMul false) (mBin (gAdd false) (mBin gIx (mVar 0) (mC (.int 1))) (mBin (gMul false) (mC (.int 48271)) (mBin gIx (mVar 0) (mC (.int 2))))) (mBin (gAdd false) (mC (.int 39373)) (mBin gIx (mVar 0) (mC (.int 2))))) mNil)) (mC (.int 2147483647))) (gNm 3)) (sSeq (sAsg (mBin (gAdd false) (mBin gMod (mCall gInt (mCons (mVar 3) mNil)) (mC (.int 40009))) (mC (.int 7))) (gNm 4)) (sSeq (sAsg (mBin gMod (mCall gInt (mCons (mBin (gMul false) (mBin (gAdd false) (mBin (gAdd false) (mVar 3) (mBin gIx (mVar 0) (mC (.int 2)))) (mBin gDiv (mBin gIx (mVar 0) (mC (.int 1))) (mC (.int 1000003)))) (mVar 4)) mNil)) (mC (.int 2147483629))) (gNm 5)) (sRet (mBin gMod (mCall gInt (mCons (mBin gDiv (mBin gMod (mCall gInt (mCons (mBin (gAdd false) (mBin (gMul false) (mVar 5) (mC (.int 48271))) (mVar 3)) mNil)) (mC (.int 2147483587))) (mC (.int 64))) mNil)) (mVar 1))))))))
def r__law_take : GC := runB 4 b__law_take
theorem ok__law_take (T : Tx K mg base) : FOk P w K mg base 1 T.d__law_take.f T.d__law_take.fd ["urn", "below"] r__law_take := by
  refine fn_ok 4 T.d__law_take.F sc__law_take rfl fun cdv A outer s H E hr => ?_
  exact (s_cons (s_if (t_gt (e_ix (e_v 0 rfl (.inl (by kernel_rfl))) e_int) e_int) (s_cons (s_asg (e_mod (e_intc (gl_of (by kernel_rfl)) T.n_int (a_cons (e_ix (e_v 0 rfl (.inl (by kernel_rfl))) e_int) a_nil)) (e_v 1 rfl (.inl (by kernel_rfl)))) (g_nm (i := 2) sc__law_take.nd rfl (.inl (by kernel_rfl)) (.inl rfl)) calm_nm) (s_cons (s_asg (e_div (e_ix (e_v 0 rfl (.inl (by kernel_rfl))) e_int) (e_v 1 rfl (.inl (by kernel_rfl)))) (g_sb (e_v 0 rfl (.inl (by kernel_rfl))) e_int) calm_sb) (s_one (s_ret (e_v 2 rfl (.inl (by kernel_rfl))))))) s_nil) (s_cons (s_asg (e_add (fr := false) (e_ix (e_v 0 rfl (.inl (by kernel_rfl))) e_int) e_int) (g_sb (e_v 0 rfl (.inl (by kernel_rfl))) e_int) calm_sb) (s_cons (s_asg (e_mod (e_intc (gl_of (by kernel_rfl)) T.n_int (a_cons (e_mul (fr := false) (e_add (fr := false) (e_ix (e_v 0 rfl (.inl (by kernel_rfl))) e_int) (e_mul (fr := false) e_int (e_ix (e_v 0 rfl (.inl (by kernel_rfl))) e_int))) (e_add (fr := false) e_int (e_ix (e_v 0 rfl (.inl (by kernel_rfl))) e_int))) a_nil)) e_int) (g_nm (i := 3) sc__law_take.nd rfl (.inl (by kernel_rfl)) (.inl rfl)) calm_nm) (s_cons (s_asg (e_add (fr := false) (e_mod (e_intc (gl_of (by kernel_rfl)) T.n_int (a_cons (e_v 3 rfl (.inl (by kernel_rfl))) a_nil)) e_int) e_int) (g_nm (i := 4) sc__law_take.nd rfl (.inl (by kernel_rfl)) (.inl rfl)) calm_nm) (s_cons (s_asg (e_mod (e_intc (gl_of (by kernel_rfl)) T.n_int (a_cons (e_mul (fr := false) (e_add (fr := false) (e_add (fr := false) (e_v 3 rfl (.inl (by kernel_rfl))) (e_ix (e_v 0 rfl (.inl (by kernel_rfl))) e_int)) (e_div (e_ix (e_v 0 rfl (.inl (by kernel_rfl))) e_int) e_int)) (e_v 4 rfl (.inl (by kernel_rfl)))) a_nil)) e_int) (g_nm (i := 5) sc__law_take.nd rfl (.inl (by kernel_rfl)) (.inl rfl)) calm_nm) (s_one (s_ret (e_mod (e_intc (gl_of (by kernel_rfl)) T.n_int (a_cons (e_div (e_mod (e_intc (gl_of (by kernel_rfl)) T.n_int (a_cons (e_add (fr := false) (e_mul (fr := false) (e_v 5 rfl (.inl (by kernel_rfl))) e_int) (e_v 3 rfl (.inl (by kernel_rfl)))) a_nil)) e_int) e_int) a_nil)) (e_v 1 rfl (.inl (by kernel_rfl)))))))))))
/-! _law_cells -/
theorem sc__law_cells : FnScope ["script", "many", "cells", "k", "cell", "at"] ["script", "many"] (defScope (topS 66)) := ⟨rfl, rfl, rfl, by decide +kernel, rfl, by decide +kernel, by decide +kernel⟩
def b__law_cells : MS := (sSeq (sAsg (mOrV (mCall (gList true) (mCons (mSl false (mVar 0) mPN (mPS (mVar 1))) mNil)) (mLst (mCons (mC (.int 0)) mNil))) (gNm 2)) (sSeq (sFor 100000 (iEnq (mCons (mSl false (mVar 0) (mPS (mVar 1)) (mPS (mC (.int 63)))) mNil)) (gTp 2 (gC (gNm 3) (gC (gNm 4) gN0))) (sSeq (sAsg (mBin gMod (mCall gInt (mCons (mVar 3) mNil)) (mVar 1)) (gNm 5)) (sAsg (mBin (gAdd false) (mBin gIx (mVar 2) (mBin gMod (mVar 5) (mCall gLen (mCons (mVar 2) mNil)))) (mBin (gMul false) (mVar 4) (mBin (gAdd false) (mVar 3) (mC (.int 2))))) (gSb (mVar 2) (mBin gMod (mVar 5) (mCall gLen (mCons (mVar 2) mNil))))))) (sRet (mVar 2))))
def r__law_cells : GC := runB 4 b__law_cells
theorem ok__law_cells (T : Tx K mg base) : FOk P w K mg base 1 T.d__law_cells.f T.d__law_cells.fd ["script", "many"] r__law_cells := by
  refine fn_ok 4 T.d__law_cells.F sc__law_cells rfl fun cdv A outer s H E hr => ?_
  exact (s_cons (s_asg (e_orV (e_list (fr := true) (gl_of (by kernel_rfl)) T.n_list (a_cons (e_sl (fr := false) (e_v 0 rfl (.inl (by kernel_rfl))) p_none (p_some (e_v 1 rfl (.inl (by kernel_rfl))))) a_nil)) (e_one (e_lst (a_cons e_int a_nil)))) (g_nm (i := 2) sc__law_cells.nd rfl (.inl (by kernel_rfl)) (.inl rfl)) calm_nm) (s_cons (s_for 100000 (passes_of rfl) rfl (i_enq (gl_of (by kernel_rfl)) T.n_enumerate (a_cons (e_sl (fr := false) (e_v 0 rfl (.inl (by kernel_rfl))) (p_some (e_v 1 rfl (.inl (by kernel_rfl)))) (p_some e_int)) a_nil)) (g_tp (n := 2) rfl (g_c (g_nm (i := 3) sc__law_cells.nd rfl (.inl (by kernel_rfl)) (.inl rfl)) (g_c (g_nm (i := 4) sc__law_cells.nd rfl (.inl (by kernel_rfl)) (.inl rfl)) g_n0))) (s_cons (s_asg (e_mod (e_intc (gl_of (by kernel_rfl)) T.n_int (a_cons (e_v 3 rfl (.inl (by kernel_rfl))) a_nil)) (e_v 1 rfl (.inl (by kernel_rfl)))) (g_nm (i := 5) sc__law_cells.nd rfl (.inl (by kernel_rfl)) (.inl rfl)) calm_nm) (s_one (s_asg (e_add (fr := false) (e_ix (e_v 2 rfl (.inl (by kernel_rfl))) (e_mod (e_v 5 rfl (.inl (by kernel_rfl))) (e_len (gl_of (by kernel_rfl)) T.n_len (a_cons (e_v 2 rfl (.inl (by kernel_rfl))) a_nil)))) (e_mul (fr := false) (e_v 4 rfl (.inl (by kernel_rfl))) (e_add (fr := false) (e_v 3 rfl (.inl (by kernel_rfl))) e_int))) (g_sb (e_v 2 rfl (.inl (by kernel_rfl))) (e_mod (e_v 5 rfl (.inl (by kernel_rfl))) (e_len (gl_of (by kernel_rfl)) T.n_len (a_cons (e_v 2 rfl (.inl (by kernel_rfl))) a_nil)))) calm_sb)))) (s_one (s_ret (e_v 2 rfl (.inl (by kernel_rfl)))))))
/-! _law_lists -/
theorem sc__law_lists : FnScope ["matter", "bit"] ["matter"] (defScope (topS 67)) := ⟨rfl, rfl, rfl, by decide +kernel, rfl, by decide +kernel, by decide +kernel⟩
def b__law_lists (self : GC) : MS := (sRet (mIf (mT (mIsi [.list, .tuple] (mVar 0))) (mLc 100000 false (iTup (mVar 0)) [1] (gNm 1) mYes (mCall (ar 1 self) (mCons (mVar 1) mNil))) (mVar 0)))
def r__law_lists : Nat → GC
  | 0 => fun _ _ => .bad
  | l + 1 => runB 1 (b__law_lists (r__law_lists l))
theorem ok__law_lists (T : Tx K mg base) : ∀ l : Nat, FOk P w K mg base (l + 0) T.d__law_lists.f T.d__law_lists.fd ["matter"] (r__law_lists l)
  | 0 => fn_bad
  | l + 1 => by
    have IH := ok__law_lists T l
    rw [show l + 1 + 0 = (l + 0) + 1 by omega]
    refine fn_ok 1 T.d__law_lists.F sc__law_lists rfl fun cdv A outer s H E hr => ?_
    exact (s_one (s_ret (e_ifx (t_val (e_isi2 .list .tuple (by decide) (by decide) (gl_of (by kernel_rfl)) T.n_isinstance (gl_of (by kernel_rfl)) T.n_list (by decide +kernel) (gl_of (by kernel_rfl)) T.n_tuple (by decide +kernel) (e_v 0 rfl (.inl (by kernel_rfl))))) (e_lcv 100000 false [1] rfl sc__law_lists.nd (blkOk_by (own := [("bit", 1)]) (N := ["matter", "bit"]) (sc := defScope (topS 67)) (by decide +kernel)) (by decide) (i_tup (e_v 0 rfl (.inl (by kernel_rfl)))) (fun s H C cl fp => (g_nm (i := 1) sc__law_lists.nd rfl (.inl (by kernel_rfl)) (.inr (by kernel_rfl)))) (fun s H C cl fp => ts_nil) (fun s H C cl fp => (e_call IH hr takes0 (gl_of (by kernel_rfl)) T.d__law_lists.m T.d__law_lists.F.kp T.d__law_lists.b (a_cons (e_v 1 rfl (.inl (by kernel_rfl))) a_nil)))) (e_v 0 rfl (.inl (by kernel_rfl))))))
/-! _law_same -/
theorem sc__law_same : FnScope ["got", "due", "mine", "own"] ["got", "due"] (defScope (topS 68)) := ⟨rfl, rfl, rfl, by decide +kernel, rfl, by decide +kernel, by decide +kernel⟩
def b__law_same (self : GC) : MS := (sSeq (sIf (mT (mIsi [.list, .tuple] (mVar 1))) (sSeq (sIf (mOrT (mT (mBin gNe (mIsi [.list] (mVar 0)) (mIsi [.list] (mVar 1)))) (mT (mBin gNe (mIsi [.tuple] (mVar 0)) (mIsi [.tuple] (mVar 1))))) sBad sNil) (sRet (mAnd (mBin gEq (mCall gLen (mCons (mVar 0) mNil)) (mCall gLen (mCons (mVar 1) mNil))) (mCall gAll (mCons (mLc 100000 false (iZq (mCons (mVar 0) (mCons (mVar 1) mNil))) [2, 3] (gTp 2 (gC (gNm 2) (gC (gNm 3) gN0))) mYes (mCall (ar 2 self) (mCons (mVar 2) (mCons (mVar 3) mNil)))) mNil))))) sNil) (sSeq (sIf (mT (mBin (gIs id) (mVar 1) (mC .non))) (sRet (mBin (gIs id) (mVar 0) (mC .non))) sNil) (sSeq (sIf (mT (mIsi [.bool] (mVar 1))) (sRet (mAnd (mIsi [.bool] (mVar 0)) (mBin gEq (mVar 0) (mVar 1)))) sNil) (sSeq (sIf (mT (mIsi [.str] (mVar 1))) (sRet (mAnd (mIsi [.str] (mVar 0)) (mBin gEq (mVar 0) (mVar 1)))) sNil) (sRet (mAnd (mIsi [.int] (mVar 0)) (mAnd (mNot (mIsi [.bool] (mVar 0))) (mBin gEq (mVar 0) (mVar 1)))))))))
def r__law_same : Nat → GC
  | 0 => fun _ _ => .bad
  | l + 1 => runB 2 (b__law_same (r__law_same l))
theorem ok__law_same (T : Tx K mg base) : ∀ l : Nat, FOk P w K mg base (l + 0) T.d__law_same.f T.d__law_same.fd ["got", "due"] (r__law_same l)
  | 0 => fn_bad
  | l + 1 => by
    have IH := ok__law_same T l
    rw [show l + 1 + 0 = (l + 0) + 1 by omega]
    refine fn_ok 2 T.d__law_same.F sc__law_same rfl fun cdv A outer s H E hr => ?_
    exact (s_cons (s_if (t_val (e_isi2 .list .tuple (by decide) (by decide) (gl_of (by kernel_rfl)) T.n_isinstance (gl_of (by kernel_rfl)) T.n_list (by decide +kernel) (gl_of (by kernel_rfl)) T.n_tuple (by decide +kernel) (e_v 1 rfl (.inl (by kernel_rfl))))) (s_cons (s_if (MW.t (w_or (t_ne hr.units (e_isi .list (by decide) (gl_of (by kernel_rfl)) T.n_isinstance (gl_of (by kernel_rfl)) T.n_list (by decide +kernel) (e_v 0 rfl (.inl (by kernel_rfl)))) (e_isi .list (by decide) (gl_of (by kernel_rfl)) T.n_isinstance (gl_of (by kernel_rfl)) T.n_list (by decide +kernel) (e_v 1 rfl (.inl (by kernel_rfl))))) (w_or1 (t_ne hr.units (e_isi .tuple (by decide) (gl_of (by kernel_rfl)) T.n_isinstance (gl_of (by kernel_rfl)) T.n_tuple (by decide +kernel) (e_v 0 rfl (.inl (by kernel_rfl)))) (e_isi .tuple (by decide) (gl_of (by kernel_rfl)) T.n_isinstance (gl_of (by kernel_rfl)) T.n_tuple (by decide +kernel) (e_v 1 rfl (.inl (by kernel_rfl)))))))) ss_bad s_nil) (s_one (s_ret (e_and (e_eq hr.units (e_len (gl_of (by kernel_rfl)) T.n_len (a_cons (e_v 0 rfl (.inl (by kernel_rfl))) a_nil)) (e_len (gl_of (by kernel_rfl)) T.n_len (a_cons (e_v 1 rfl (.inl (by kernel_rfl))) a_nil))) (e_one (e_all rfl (gl_of (by kernel_rfl)) T.n_all (a_cons (e_lcv 100000 false [2, 3] rfl sc__law_same.nd (blkOk_by (own := [("mine", 2), ("own", 3)]) (N := ["got", "due", "mine", "own"]) (sc := defScope (topS 68)) (by decide +kernel)) (by decide) (i_zq (gl_of (by kernel_rfl)) T.n_zip (a_cons (e_v 0 rfl (.inl (by kernel_rfl))) (a_cons (e_v 1 rfl (.inl (by kernel_rfl))) a_nil))) (fun s H C cl fp => (g_tp (n := 2) rfl (g_c (g_nm (i := 2) sc__law_same.nd rfl (.inl (by kernel_rfl)) (.inr (by kernel_rfl))) (g_c (g_nm (i := 3) sc__law_same.nd rfl (.inl (by kernel_rfl)) (.inr (by kernel_rfl))) g_n0)))) (fun s H C cl fp => ts_nil) (fun s H C cl fp => (e_call IH hr takes0 (gl_of (by kernel_rfl)) T.d__law_same.m T.d__law_same.F.kp T.d__law_same.b (a_cons (e_v 2 rfl (.inl (by kernel_rfl))) (a_cons (e_v 3 rfl (.inl (by kernel_rfl))) a_nil))))) a_nil))))))) s_nil) (s_cons (s_if (t_is (e_v 1 rfl (.inl (by kernel_rfl))) e_non) (s_one (s_ret (e_is (e_v 0 rfl (.inl (by kernel_rfl))) e_non))) s_nil) (s_cons (s_if (t_val (e_isi .bool (by decide) (gl_of (by kernel_rfl)) T.n_isinstance (gl_of (by kernel_rfl)) T.n_bool (by decide +kernel) (e_v 1 rfl (.inl (by kernel_rfl))))) (s_one (s_ret (e_and (e_isi .bool (by decide) (gl_of (by kernel_rfl)) T.n_isinstance (gl_of (by kernel_rfl)) T.n_bool (by decide +kernel) (e_v 0 rfl (.inl (by kernel_rfl)))) (e_one (e_eq hr.units (e_v 0 rfl (.inl (by kernel_rfl))) (e_v 1 rfl (.inl (by kernel_rfl)))))))) s_nil) (s_cons (s_if (t_val (e_isi .str (by decide) (gl_of (by kernel_rfl)) T.n_isinstance (gl_of (by kernel_rfl)) T.n_str (by decide +kernel) (e_v 1 rfl (.inl (by kernel_rfl))))) (s_one (s_ret (e_and (e_isi .str (by decide) (gl_of (by kernel_rfl)) T.n_isinstance (gl_of (by kernel_rfl)) T.n_str (by decide +kernel) (e_v 0 rfl (.inl (by kernel_rfl)))) (e_one (e_eq hr.units (e_v 0 rfl (.inl (by kernel_rfl))) (e_v 1 rfl (.inl (by kernel_rfl)))))))) s_nil) (s_one (s_ret (e_and (e_isi .int (by decide) (gl_of (by kernel_rfl)) T.n_isinstance (gl_of (by kernel_rfl)) T.n_int (by decide +kernel) (e_v 0 rfl (.inl (by kernel_rfl)))) (e_and (e_not (e_isi .bool (by decide) (gl_of (by kernel_rfl)) T.n_isinstance (gl_of (by kernel_rfl)) T.n_bool (by decide +kernel) (e_v 0 rfl (.inl (by kernel_rfl))))) (e_one (e_eq hr.units (e_v 0 rfl (.inl (by kernel_rfl))) (e_v 1 rfl (.inl (by kernel_rfl)))))))))))))
/-! _law_lone -/
theorem sc__law_lone : FnScope ["slope", "one", "two", "legs"] [] (defScope (topS 69)) := ⟨rfl, rfl, rfl, by decide +kernel, rfl, by decide +kernel, by decide +kernel⟩
def b__law_lone : MS := (sSeq (sAsg (mTup (mCons (mTup (mCons (mTup (mCons (mC (.int 1)) (mCons (mC (.int 1)) mNil))) (mCons (mTup (mCons (mC (.int 1)) (mCons (mC (.int 1)) mNil))) mNil))) (mCons (mTup (mCons (mC (.int 1)) (mCons (mC (.int 1)) mNil))) (mCons (mTup (mCons (mC (.int 2)) (mCons (mC (.int 1)) mNil))) mNil)))) (gTp 3 (gC (gNm 0) (gC (gNm 1) (gC (gNm 2) gN0))))) (sSeq (sAsg (mTup (mCons (mTup (mCons (mVar 1) (mCons (mVar 2) mNil))) (mCons (mTup (mCons (mVar 1) (mCons (mVar 2) mNil))) (mCons (mTup (mCons (mVar 1) (mCons (mTup (mCons (mC (.int 3)) (mCons (mC (.int 1)) mNil))) mNil))) (mCons (mTup (mCons (mVar 1) (mCons (mC .non) mNil))) mNil))))) (gNm 3)) (sRet (mTup (mCons (mTup (mCons (mTup (mCons (mC (.int 0)) mNil)) mNil)) (mCons (mTup (mCons (mTup (mCons (mTup (mCons (mC (.int 8)) (mCons (mC (.int 1)) mNil))) (mCons (mC (.str "all")) (mCons (mTup (mCons (mC (.int 0)) (mCons (mC (.int 1)) mNil))) mNil)))) mNil)) (mCons (mTup (mCons (mVar 0) (mCons (mVar 0) mNil))) (mCons (mVar 3) (mCons (mTup (mCons (mTup (mCons (mC (.int 10)) (mCons (mC (.int 1)) mNil))) (mCons (mC (.str "sent")) (mCons (mTup (mCons (mC (.int 0)) (mCons (mC (.int 1)) mNil))) (mCons (mC (.str "once")) (mCons (mC (.bl false)) mNil)))))) (mCons (mTup (mCons (mTup (mCons (mC (.bl true)) (mCons (mC (.bl true)) mNil))) mNil)) (mCons (mTup mNil) mNil)))))))))))
def r__law_lone : GC := runB 4 b__law_lone
theorem ok__law_lone (T : Tx K mg base) : FOk P w K mg base 1 T.d__law_lone.f T.d__law_lone.fd [] r__law_lone := by
  refine fn_ok 4 T.d__law_lone.F sc__law_lone rfl fun cdv A outer s H E hr => ?_
  exact (s_cons (s_asg (e_tup (a_cons (e_tup (a_cons (e_tup (a_cons e_int (a_cons e_int a_nil))) (a_cons (e_tup (a_cons e_int (a_cons e_int a_nil))) a_nil))) (a_cons (e_tup (a_cons e_int (a_cons e_int a_nil))) (a_cons (e_tup (a_cons e_int (a_cons e_int a_nil))) a_nil)))) (g_tp (n := 3) rfl (g_c (g_nm (i := 0) sc__law_lone.nd rfl (.inl (by kernel_rfl)) (.inl rfl)) (g_c (g_nm (i := 1) sc__law_lone.nd rfl (.inl (by kernel_rfl)) (.inl rfl)) (g_c (g_nm (i := 2) sc__law_lone.nd rfl (.inl (by kernel_rfl)) (.inl rfl)) g_n0)))) (calm_tp (calm_c calm_nm (calm_c calm_nm (calm_c calm_nm calm_n0))))) (s_cons (s_asg (e_tup (a_cons (e_tup (a_cons (e_v 1 rfl (.inl (by kernel_rfl))) (a_cons (e_v 2 rfl (.inl (by kernel_rfl))) a_nil))) (a_cons (e_tup (a_cons (e_v 1 rfl (.inl (by kernel_rfl))) (a_cons (e_v 2 rfl (.inl (by kernel_rfl))) a_nil))) (a_cons (e_tup (a_cons (e_v 1 rfl (.inl (by kernel_rfl))) (a_cons (e_tup (a_cons e_int (a_cons e_int a_nil))) a_nil))) (a_cons (e_tup (a_cons (e_v 1 rfl (.inl (by kernel_rfl))) (a_cons e_non a_nil))) a_nil))))) (g_nm (i := 3) sc__law_lone.nd rfl (.inl (by kernel_rfl)) (.inl rfl)) calm_nm) (s_one (s_ret (e_tup (a_cons (e_tup (a_cons (e_tup (a_cons e_int a_nil)) a_nil)) (a_cons (e_tup (a_cons (e_tup (a_cons (e_tup (a_cons e_int (a_cons e_int a_nil))) (a_cons e_str (a_cons (e_tup (a_cons e_int (a_cons e_int a_nil))) a_nil)))) a_nil)) (a_cons (e_tup (a_cons (e_v 0 rfl (.inl (by kernel_rfl))) (a_cons (e_v 0 rfl (.inl (by kernel_rfl))) a_nil))) (a_cons (e_v 3 rfl (.inl (by kernel_rfl))) (a_cons (e_tup (a_cons (e_tup (a_cons e_int (a_cons e_int a_nil))) (a_cons e_str (a_cons (e_tup (a_cons e_int (a_cons e_int a_nil))) (a_cons e_str (a_cons e_bl a_nil)))))) (a_cons (e_tup (a_cons (e_tup (a_cons e_bl (a_cons e_bl a_nil))) a_nil)) (a_cons (e_tup a_nil) a_nil))))))))))))
/-! _law_put -/
theorem sc__law_put : FnScope ["whole", "path", "value", "k", "own"] ["whole", "path", "value"] (defScope (topS 70)) := ⟨rfl, rfl, rfl, by decide +kernel, rfl, by decide +kernel, by decide +kernel⟩
def b__law_put (self : GC) : MS := (sSeq (sIf (mT (mBin gEq (mCall gLen (mCons (mVar 1) mNil)) (mC (.int 0)))) (sRet (mVar 2)) sNil) (sRet (mCall gTuple (mCons (mLc 100000 false (iEnq (mCons (mVar 0) mNil)) [3, 4] (gTp 2 (gC (gNm 3) (gC (gNm 4) gN0))) mYes (mIf (mT (mBin gEq (mVar 3) (mBin gIx (mVar 1) (mC (.int 0))))) (mCall (ar 3 self) (mCons (mVar 4) (mCons (mSl false (mVar 1) (mPS (mC (.int 1))) mPN) (mCons (mVar 2) mNil)))) (mVar 4))) mNil))))
def r__law_put : Nat → GC
  | 0 => fun _ _ => .bad
  | l + 1 => runB 2 (b__law_put (r__law_put l))
theorem ok__law_put (T : Tx K mg base) : ∀ l : Nat, FOk P w K mg base (l + 0) T.d__law_put.f T.d__law_put.fd ["whole", "path", "value"] (r__law_put l)
  | 0 => fn_bad
  | l + 1 => by
    have IH := ok__law_put T l
    rw [show l + 1 + 0 = (l + 0) + 1 by omega]
    refine fn_ok 2 T.d__law_put.F sc__law_put rfl fun cdv A outer s H E hr => ?_
    exact (s_cons (s_if (t_eq hr.units (e_len (gl_of (by kernel_rfl)) T.n_len (a_cons (e_v 1 rfl (.inr (.inl (by kernel_rfl)))) a_nil)) e_int) (s_one (s_ret (e_v 2 rfl (.inr (.inl (by kernel_rfl)))))) s_nil) (s_one (s_ret (e_tuple (gl_of (by kernel_rfl)) T.n_tuple (a_cons (e_lcv 100000 false [3, 4] rfl sc__law_put.nd (blkOk_by (own := [("k", 3), ("own", 4)]) (N := ["whole", "path", "value", "k", "own"]) (sc := defScope (topS 70)) (by decide +kernel)) (by decide) (i_enq (gl_of (by kernel_rfl)) T.n_enumerate (a_cons (e_v 0 rfl (.inl (by kernel_rfl))) a_nil)) (fun s H C cl fp => (g_tp (n := 2) rfl (g_c (g_nm (i := 3) sc__law_put.nd rfl (.inl (by kernel_rfl)) (.inr (by kernel_rfl))) (g_c (g_nm (i := 4) sc__law_put.nd rfl (.inl (by kernel_rfl)) (.inr (by kernel_rfl))) g_n0)))) (fun s H C cl fp => ts_nil) (fun s H C cl fp => (e_ifx (t_eq hr.units (e_v 3 rfl (.inl (by kernel_rfl))) (e_ix (e_v 1 rfl (.inr (.inl (by kernel_rfl)))) e_int)) (e_call IH hr takes0 (gl_of (by kernel_rfl)) T.d__law_put.m T.d__law_put.F.kp T.d__law_put.b (a_cons (e_v 4 rfl (.inl (by kernel_rfl))) (a_cons (e_sl (fr := false) (e_v 1 rfl (.inr (.inl (by kernel_rfl)))) (p_some e_int) p_none) (a_cons (e_v 2 rfl (.inr (.inl (by kernel_rfl)))) a_nil)))) (e_v 4 rfl (.inl (by kernel_rfl)))))) a_nil)))))
/-! _law_pair -/
theorem sc__law_pair : FnScope ["keepers", "clocks", "legs"] [] (defScope (topS 71)) := ⟨rfl, rfl, rfl, by decide +kernel, rfl, by decide +kernel, by decide +kernel⟩
def b__law_pair : MS := (sSeq (sAsg (mTup (mCons (mTup (mCons (mTup (mCons (mC (.int 8)) (mCons (mC (.int 1)) mNil))) (mCons (mC (.str "all")) (mCons (mTup (mCons (mC (.int 0)) (mCons (mC (.int 1)) mNil))) mNil)))) (mCons (mTup (mCons (mC .non) (mCons (mC (.str "number")) (mCons (mTup (mCons (mC (.int 5)) (mCons (mC (.int 2)) mNil))) mNil)))) mNil))) (gNm 0)) (sSeq (sAsg (mTup (mCons (mTup (mCons (mTup (mCons (mC (.int 1)) (mCons (mC (.int 2)) mNil))) (mCons (mTup (mCons (mC (.int 3)) (mCons (mC (.int 2)) mNil))) mNil))) (mCons (mTup (mCons (mTup (mCons (mC (.int 2)) (mCons (mC (.int 3)) mNil))) (mCons (mTup (mCons (mC (.int 4)) (mCons (mC (.int 3)) mNil))) mNil))) mNil))) (gNm 1)) (sSeq (sAsg (mTup (mCons (mTup (mCons (mTup (mCons (mC (.int 1)) (mCons (mC (.int 1)) mNil))) (mCons (mTup (mCons (mC (.int 2)) (mCons (mC (.int 1)) mNil))) mNil))) (mCons (mTup (mCons (mTup (mCons (mC (.int 1)) (mCons (mC (.int 2)) mNil))) (mCons (mC .non) mNil))) (mCons (mTup (mCons (mTup (mCons (mC (.int 3)) (mCons (mC (.int 4)) mNil))) (mCons (mTup (mCons (mC (.int 3)) (mCons (mC (.int 4)) mNil))) mNil))) (mCons (mTup (mCons (mTup (mCons (mC (.int 5)) (mCons (mC (.int 3)) mNil))) (mCons (mTup (mCons (mC (.int 7)) (mCons (mC (.int 2)) mNil))) mNil))) mNil))))) (gNm 2)) (sRet (mTup (mCons (mTup (mCons (mTup (mCons (mC (.int 0)) mNil)) (mCons (mTup (mCons (mC (.int 0)) (mCons (mC (.int 1)) mNil))) (mCons (mTup (mCons (mC (.int 1)) mNil)) mNil)))) (mCons (mVar 0) (mCons (mVar 1) (mCons (mVar 2) (mCons (mTup (mCons (mTup (mCons (mC (.int 9)) (mCons (mC (.int 2)) mNil))) (mCons (mC (.str "taken")) (mCons (mC .non) (mCons (mC (.str "waits")) (mCons (mC (.bl false)) mNil)))))) (mCons (mTup (mCons (mTup (mCons (mC (.bl true)) (mCons (mC (.bl false)) mNil))) (mCons (mTup (mCons (mC (.bl false)) (mCons (mC (.bl true)) mNil))) mNil))) (mCons (mTup (mCons (mC (.str "forgets")) mNil)) mNil))))))))))))
def r__law_pair : GC := runB 3 b__law_pair
theorem ok__law_pair (T : Tx K mg base) : FOk P w K mg base 1 T.d__law_pair.f T.d__law_pair.fd [] r__law_pair := by
  refine fn_ok 3 T.d__law_pair.F sc__law_pair rfl fun cdv A outer s H E hr => ?_
  exact (s_cons (s_asg (e_tup (a_cons (e_tup (a_cons (e_tup (a_cons e_int (a_cons e_int a_nil))) (a_cons e_str (a_cons (e_tup (a_cons e_int (a_cons e_int a_nil))) a_nil)))) (a_cons (e_tup (a_cons e_non (a_cons e_str (a_cons (e_tup (a_cons e_int (a_cons e_int a_nil))) a_nil)))) a_nil))) (g_nm (i := 0) sc__law_pair.nd rfl (.inl (by kernel_rfl)) (.inl rfl)) calm_nm) (s_cons (s_asg (e_tup (a_cons (e_tup (a_cons (e_tup (a_cons e_int (a_cons e_int a_nil))) (a_cons (e_tup (a_cons e_int (a_cons e_int a_nil))) a_nil))) (a_cons (e_tup (a_cons (e_tup (a_cons e_int (a_cons e_int a_nil))) (a_cons (e_tup (a_cons e_int (a_cons e_int a_nil))) a_nil))) a_nil))) (g_nm (i := 1) sc__law_pair.nd rfl (.inl (by kernel_rfl)) (.inl rfl)) calm_nm) (s_cons (s_asg (e_tup (a_cons (e_tup (a_cons (e_tup (a_cons e_int (a_cons e_int a_nil))) (a_cons (e_tup (a_cons e_int (a_cons e_int a_nil))) a_nil))) (a_cons (e_tup (a_cons (e_tup (a_cons e_int (a_cons e_int a_nil))) (a_cons e_non a_nil))) (a_cons (e_tup (a_cons (e_tup (a_cons e_int (a_cons e_int a_nil))) (a_cons (e_tup (a_cons e_int (a_cons e_int a_nil))) a_nil))) (a_cons (e_tup (a_cons (e_tup (a_cons e_int (a_cons e_int a_nil))) (a_cons (e_tup (a_cons e_int (a_cons e_int a_nil))) a_nil))) a_nil))))) (g_nm (i := 2) sc__law_pair.nd rfl (.inl (by kernel_rfl)) (.inl rfl)) calm_nm) (s_one (s_ret (e_tup (a_cons (e_tup (a_cons (e_tup (a_cons e_int a_nil)) (a_cons (e_tup (a_cons e_int (a_cons e_int a_nil))) (a_cons (e_tup (a_cons e_int a_nil)) a_nil)))) (a_cons (e_v 0 rfl (.inl (by kernel_rfl))) (a_cons (e_v 1 rfl (.inl (by kernel_rfl))) (a_cons (e_v 2 rfl (.inl (by kernel_rfl))) (a_cons (e_tup (a_cons (e_tup (a_cons e_int (a_cons e_int a_nil))) (a_cons e_str (a_cons e_non (a_cons e_str (a_cons e_bl a_nil)))))) (a_cons (e_tup (a_cons (e_tup (a_cons e_bl (a_cons e_bl a_nil))) (a_cons (e_tup (a_cons e_bl (a_cons e_bl a_nil))) a_nil))) (a_cons (e_tup (a_cons e_str a_nil)) a_nil)))))))))))))
/-! _law_bent -/
theorem sc__law_bent : FnScope ["lone", "pair", "half", "whole", "ways", "found", "own", "side", "path"] [] (defScope (topS 72)) := ⟨rfl, rfl, rfl, by decide +kernel, rfl, by decide +kernel, by decide +kernel⟩
def b__law_bent : MS := (sSeq (sAsg (mTup (mCons (fun _ s => r__law_lone [] s) (mCons (fun _ s => r__law_pair [] s) (mCons (mTup (mCons (mC (.int 1)) (mCons (mC (.int 2)) mNil))) mNil)))) (gTp 3 (gC (gNm 0) (gC (gNm 1) (gC (gNm 2) gN0))))) (sSeq (sAsg (mLst (mCons (mC .non) (mCons (mTup mNil) (mCons (mC (.int 7)) (mCons (mC (.bl true)) (mCons (mC (.str "plan")) (mCons (mSl false (mVar 0) mPN (mPS (mC (.int 6)))) (mCons (mBin (gAdd false) (mVar 0) (mTup (mCons (mTup mNil) mNil))) (mCons (mCall (gList false) (mCons (mVar 0) mNil)) (mCons (mCall (ar 1 (r__law_lists 12)) (mCons (mVar 0) mNil)) (mCons (mTup (mCons (mVar 0) mNil)) mNil))))))))))) (gNm 3)) (sSeq (sAsg (mLc 100000 false (iTup (mTup (mCons (mTup mNil) (mCons (mTup (mCons (mTup mNil) mNil)) (mCons (mTup (mCons (mTup (mCons (mC (.int 1)) mNil)) mNil)) (mCons (mTup (mCons (mTup (mCons (mUn gNeg (mC (.int 1))) mNil)) mNil)) (mCons (mTup (mCons (mTup (mCons (mC (.int 0)) (mCons (mC (.int 0)) mNil))) mNil)) (mCons (mTup (mCons (mTup (mCons (mC (.int 0)) mNil)) (mCons (mTup (mCons (mC (.int 0)) mNil)) mNil))) (mCons (mLst (mCons (mTup (mCons (mC (.int 0)) mNil)) mNil)) (mCons (mTup (mCons (mLst (mCons (mC (.int 0)) mNil)) mNil)) (mCons (mTup (mCons (mTup (mCons (mC (.bl false)) mNil)) mNil)) (mCons (mTup (mCons (mC (.int 0)) mNil)) (mCons (mC (.str "0")) (mCons (mC .non) (mCons (mTup (mCons (mTup (mCons (mC (.str "0")) mNil)) mNil)) mNil))))))))))))))) [6] (gNm 6) mYes (mTup (mCons (mTup (mCons (mC (.int 0)) mNil)) (mCons (mVar 6) mNil)))) (gNm 4)) (sSeq (sAsg (mBin (gAdd false) (mVar 4) (mLc 100000 false (iTup (mTup (mCons (mTup mNil) (mCons (mLst (mCons (mBin gIx (mBin gIx (mVar 0) (mC (.int 1))) (mC (.int 0))) mNil)) (mCons (mBin gIx (mBin gIx (mVar 0) (mC (.int 1))) (mC (.int 0))) (mCons (mC .non) (mCons (mTup (mCons (mC .non) mNil)) (mCons (mTup (mCons (mTup (mCons (mVar 2) (mCons (mC (.str "all")) mNil))) mNil)) (mCons (mTup (mCons (mTup (mCons (mVar 2) (mCons (mC (.str "all")) (mCons (mVar 2) (mCons (mVar 2) mNil))))) mNil)) mNil))))))))) [6] (gNm 6) mYes (mTup (mCons (mTup (mCons (mC (.int 1)) mNil)) (mCons (mVar 6) mNil))))) (gNm 4)) (sSeq (sAsg (mBin (gAdd false) (mVar 4) (mLc 100000 false (iTup (mTup (mCons (mTup (mCons (mUn gNeg (mC (.int 1))) (mCons (mC (.int 1)) mNil))) (mCons (mTup (mCons (mC (.int 16)) (mCons (mC (.int 2)) mNil))) (mCons (mTup (mCons (mC (.int 8)) (mCons (mC (.int 0)) mNil))) (mCons (mTup (mCons (mC (.int 8)) (mCons (mUn gNeg (mC (.int 1))) mNil))) (mCons (mC (.int 8)) (mCons (mLst (mCons (mC (.int 8)) (mCons (mC (.int 1)) mNil))) (mCons (mTup (mCons (mC (.int 8)) (mCons (mC (.int 1)) (mCons (mC (.int 1)) mNil)))) (mCons (mTup (mCons (mC (.bl true)) (mCons (mC (.int 1)) mNil))) (mCons (mTup (mCons (mC (.int 8)) (mCons (mC (.bl true)) mNil))) (mCons (mC (.str "8")) (mCons (mTup mNil) mNil))))))))))))) [6] (gNm 6) mYes (mTup (mCons (mTup (mCons (mC (.int 1)) (mCons (mC (.int 0)) (mCons (mC (.int 0)) mNil)))) (mCons (mVar 6) mNil))))) (gNm 4)) (sSeq (sAsg (mBin (gAdd false) (mBin (gAdd false) (mVar 4) (mLc 100000 false (iTup (mTup (mCons (mC (.str "none")) (mCons (mC (.str "All")) (mCons (mC .non) (mCons (mC (.int 1)) (mCons (mTup (mCons (mC (.str "all")) mNil)) (mCons (mC (.str "")) mNil)))))))) [6] (gNm 6) mYes (mTup (mCons (mTup (mCons (mC (.int 1)) (mCons (mC (.int 0)) (mCons (mC (.int 1)) mNil)))) (mCons (mVar 6) mNil))))) (mLc 100000 false (iTup (mTup (mCons (mTup (mCons (mUn gNeg (mC (.int 1))) (mCons (mC (.int 3)) mNil))) (mCons (mC .non) (mCons (mTup (mCons (mC (.int 0)) (mCons (mC (.int 2)) mNil))) (mCons (mC (.int 0)) (mCons (mTup (mCons (mC (.int 2)) (mCons (mC (.int 4)) mNil))) mNil))))))) [6] (gNm 6) mYes (mTup (mCons (mTup (mCons (mC (.int 1)) (mCons (mC (.int 0)) (mCons (mC (.int 2)) mNil)))) (mCons (mVar 6) mNil))))) (gNm 4)) (sSeq (sAsg (mBin (gAdd false) (mVar 4) (mLc 100000 false (iTup (mTup (mCons (mSl false (mBin gIx (mVar 0) (mC (.int 2))) mPN (mPS (mC (.int 1)))) (mCons (mBin (gAdd false) (mBin gIx (mVar 0) (mC (.int 2))) (mSl false (mBin gIx (mVar 0) (mC (.int 2))) mPN (mPS (mC (.int 1))))) (mCons (mCall (gList false) (mCons (mBin gIx (mVar 0) (mC (.int 2))) mNil)) (mCons (mTup mNil) (mCons (mC .non) mNil))))))) [6] (gNm 6) mYes (mTup (mCons (mTup (mCons (mC (.int 2)) mNil)) (mCons (mVar 6) mNil))))) (gNm 4)) (sSeq (sAsg (mBin (gAdd false) (mBin (gAdd false) (mVar 4) (mLc 100000 false (iTup (mTup (mCons (mC (.int 0)) (mCons (mC (.int 1)) mNil)))) [7] (gNm 7) mYes (mTup (mCons (mTup (mCons (mC (.int 2)) (mCons (mVar 7) (mCons (mC (.int 0)) mNil)))) (mCons (mTup (mCons (mC (.int 0)) (mCons (mC (.int 1)) mNil))) mNil))))) (mLc 100000 false (iTup (mTup (mCons (mTup (mCons (mUn gNeg (mC (.int 1))) (mCons (mC (.int 1)) mNil))) (mCons (mTup (mCons (mC (.int 3)) (mCons (mC (.int 2)) mNil))) (mCons (mTup (mCons (mC (.int 2)) (mCons (mC (.int 2)) mNil))) (mCons (mC (.int 1)) (mCons (mC .non) mNil))))))) [6] (gNm 6) mYes (mTup (mCons (mTup (mCons (mC (.int 2)) (mCons (mC (.int 0)) (mCons (mC (.int 0)) mNil)))) (mCons (mVar 6) mNil))))) (gNm 4)) (sSeq (sAsg (mBin (gAdd false) (mBin (gAdd false) (mVar 4) (mLc 100000 false (iTup (mTup (mCons (mTup (mCons (mC (.int 1001)) (mCons (mC (.int 1000)) mNil))) (mCons (mTup (mCons (mC (.int 0)) (mCons (mC (.int 1)) mNil))) (mCons (mLst (mCons (mC (.int 1)) (mCons (mC (.int 1)) mNil))) mNil))))) [6] (gNm 6) mYes (mTup (mCons (mTup (mCons (mC (.int 2)) (mCons (mC (.int 1)) (mCons (mC (.int 0)) mNil)))) (mCons (mVar 6) mNil))))) (mLc 100000 false (iTup (mTup (mCons (mVar 2) (mCons (mTup (mCons (mC (.int 999)) (mCons (mC (.int 1000)) mNil))) (mCons (mTup (mCons (mC (.int 0)) (mCons (mC (.int 1)) mNil))) (mCons (mC .non) (mCons (mC (.int 1)) mNil))))))) [6] (gNm 6) mYes (mTup (mCons (mTup (mCons (mC (.int 2)) (mCons (mC (.int 0)) (mCons (mC (.int 1)) mNil)))) (mCons (mVar 6) mNil))))) (gNm 4)) (sSeq (sAsg (mBin (gAdd false) (mBin (gAdd false) (mVar 4) (mLc 100000 false (iTup (mTup (mCons (mVar 2) (mCons (mTup (mCons (mUn gNeg (mC (.int 1))) (mCons (mC (.int 1)) mNil))) (mCons (mTup (mCons (mC (.int 2)) (mCons (mC (.int 2)) mNil))) mNil))))) [6] (gNm 6) mYes (mTup (mCons (mTup (mCons (mC (.int 2)) (mCons (mC (.int 1)) (mCons (mC (.int 1)) mNil)))) (mCons (mVar 6) mNil))))) (mLst (mCons (mTup (mCons (mTup (mCons (mC (.int 2)) (mCons (mC (.int 0)) mNil))) (mCons (mTup (mCons (mVar 2) (mCons (mTup (mCons (mC (.int 1)) (mCons (mC (.int 1)) mNil))) (mCons (mTup (mCons (mC (.int 1)) (mCons (mC (.int 1)) mNil))) mNil)))) mNil))) (mCons (mTup (mCons (mTup (mCons (mC (.int 2)) (mCons (mC (.int 1)) mNil))) (mCons (mLst (mCons (mTup (mCons (mC (.int 1)) (mCons (mC (.int 1)) mNil))) (mCons (mTup (mCons (mC (.int 1)) (mCons (mC (.int 1)) mNil))) mNil))) mNil))) mNil)))) (gNm 4)) (sSeq (sAsg (mBin (gAdd false) (mVar 4) (mLc 100000 false (iTup (mTup (mCons (mSl false (mBin gIx (mVar 0) (mC (.int 3))) mPN (mPS (mC (.int 3)))) (mCons (mBin (gAdd false) (mBin gIx (mVar 0) (mC (.int 3))) (mSl false (mBin gIx (mVar 0) (mC (.int 3))) mPN (mPS (mC (.int 1))))) (mCons (mC .non) (mCons (mCall (gList false) (mCons (mBin gIx (mVar 0) (mC (.int 3))) mNil)) mNil)))))) [6] (gNm 6) mYes (mTup (mCons (mTup (mCons (mC (.int 3)) mNil)) (mCons (mVar 6) mNil))))) (gNm 4)) (sSeq (sAsg (mBin (gAdd false) (mBin (gAdd false) (mVar 4) (mLc 100000 false (iTup (mTup (mCons (mTup (mCons (mC (.int 0)) (mCons (mC (.int 1)) mNil))) (mCons (mTup (mCons (mUn gNeg (mC (.int 1))) (mCons (mC (.int 1)) mNil))) (mCons (mTup (mCons (mC (.int 3)) (mCons (mC (.int 1)) mNil))) (mCons (mC .non) (mCons (mC (.int 1)) (mCons (mTup (mCons (mC (.int 2)) (mCons (mC (.int 2)) mNil))) mNil)))))))) [6] (gNm 6) mYes (mTup (mCons (mTup (mCons (mC (.int 3)) (mCons (mC (.int 0)) (mCons (mC (.int 0)) mNil)))) (mCons (mVar 6) mNil))))) (mLc 100000 false (iTup (mTup (mCons (mVar 2) (mCons (mTup (mCons (mC (.int 0)) (mCons (mC (.int 1)) mNil))) (mCons (mTup (mCons (mUn gNeg (mC (.int 3))) (mCons (mC (.int 1)) mNil))) (mCons (mC (.int 3)) (mCons (mC (.str "3")) (mCons (mC (.bl false)) mNil)))))))) [6] (gNm 6) mYes (mTup (mCons (mTup (mCons (mC (.int 3)) (mCons (mC (.int 2)) (mCons (mC (.int 1)) mNil)))) (mCons (mVar 6) mNil))))) (gNm 4)) (sSeq (sAsg (mBin (gAdd false) (mVar 4) (mLc 100000 false (iTup (mTup (mCons (mTup (mCons (mVar 2) mNil)) (mCons (mTup (mCons (mVar 2) (mCons (mC .non) (mCons (mC .non) mNil)))) (mCons (mLst (mCons (mVar 2) (mCons (mC .non) mNil))) (mCons (mC .non) mNil)))))) [6] (gNm 6) mYes (mTup (mCons (mTup (mCons (mC (.int 3)) (mCons (mC (.int 3)) mNil))) (mCons (mVar 6) mNil))))) (gNm 4)) (sSeq (sAsg (mBin (gAdd false) (mVar 4) (mLc 100000 false (iTup (mTup (mCons (mSl false (mBin gIx (mVar 0) (mC (.int 4))) mPN (mPS (mC (.int 4)))) (mCons (mBin (gAdd false) (mBin gIx (mVar 0) (mC (.int 4))) (mTup (mCons (mC (.bl false)) mNil))) (mCons (mC .non) (mCons (mCall (gList false) (mCons (mBin gIx (mVar 0) (mC (.int 4))) mNil)) mNil)))))) [6] (gNm 6) mYes (mTup (mCons (mTup (mCons (mC (.int 4)) mNil)) (mCons (mVar 6) mNil))))) (gNm 4)) (sSeq (sAsg (mBin (gAdd false) (mBin (gAdd false) (mVar 4) (mLc 100000 false (iTup (mTup (mCons (mTup (mCons (mUn gNeg (mC (.int 1))) (mCons (mC (.int 1)) mNil))) (mCons (mC .non) (mCons (mC (.int 10)) (mCons (mTup (mCons (mC (.int 20)) (mCons (mC (.int 2)) mNil))) mNil)))))) [6] (gNm 6) mYes (mTup (mCons (mTup (mCons (mC (.int 4)) (mCons (mC (.int 0)) mNil))) (mCons (mVar 6) mNil))))) (mLc 100000 false (iTup (mTup (mCons (mC (.str "Sent")) (mCons (mC .non) (mCons (mC (.int 0)) (mCons (mC (.str "")) (mCons (mTup (mCons (mC (.str "sent")) mNil)) mNil))))))) [6] (gNm 6) mYes (mTup (mCons (mTup (mCons (mC (.int 4)) (mCons (mC (.int 1)) mNil))) (mCons (mVar 6) mNil))))) (gNm 4)) (sSeq (sAsg (mBin (gAdd false) (mBin (gAdd false) (mVar 4) (mLc 100000 false (iTup (mTup (mCons (mTup (mCons (mUn gNeg (mC (.int 1))) (mCons (mC (.int 1)) mNil))) (mCons (mC (.int 0)) (mCons (mTup (mCons (mC (.int 0)) (mCons (mC (.int 3)) mNil))) (mCons (mC (.str "0")) (mCons (mC (.bl false)) mNil))))))) [6] (gNm 6) mYes (mTup (mCons (mTup (mCons (mC (.int 4)) (mCons (mC (.int 2)) mNil))) (mCons (mVar 6) mNil))))) (mLc 100000 false (iTup (mTup (mCons (mC (.str "never")) (mCons (mC .non) (mCons (mC (.str "once ")) (mCons (mC (.int 1)) mNil)))))) [6] (gNm 6) mYes (mTup (mCons (mTup (mCons (mC (.int 4)) (mCons (mC (.int 3)) mNil))) (mCons (mVar 6) mNil))))) (gNm 4)) (sSeq (sAsg (mBin (gAdd false) (mBin (gAdd false) (mVar 4) (mLc 100000 false (iTup (mTup (mCons (mC (.int 1)) (mCons (mC (.int 0)) (mCons (mC .non) (mCons (mC (.str "False")) mNil)))))) [6] (gNm 6) mYes (mTup (mCons (mTup (mCons (mC (.int 4)) (mCons (mC (.int 4)) mNil))) (mCons (mVar 6) mNil))))) (mLc 100000 false (iTup (mTup (mCons (mTup mNil) (mCons (mLst (mCons (mTup (mCons (mC (.bl true)) (mCons (mC (.bl true)) mNil))) mNil)) (mCons (mTup (mCons (mC (.bl true)) (mCons (mC (.bl true)) mNil))) (mCons (mC .non) (mCons (mTup (mCons (mTup (mCons (mC (.bl true)) mNil)) mNil)) (mCons (mTup (mCons (mTup (mCons (mC (.bl true)) (mCons (mC (.bl true)) (mCons (mC (.bl true)) mNil)))) mNil)) mNil)))))))) [6] (gNm 6) mYes (mTup (mCons (mTup (mCons (mC (.int 5)) mNil)) (mCons (mVar 6) mNil))))) (gNm 4)) (sSeq (sAsg (mBin (gAdd false) (mBin (gAdd false) (mVar 4) (mLc 100000 false (iTup (mTup (mCons (mC (.int 1)) (mCons (mC .non) (mCons (mC (.str "True")) mNil))))) [6] (gNm 6) mYes (mTup (mCons (mTup (mCons (mC (.int 5)) (mCons (mC (.int 0)) (mCons (mC (.int 0)) mNil)))) (mCons (mVar 6) mNil))))) (mLc 100000 false (iTup (mTup (mCons (mC (.int 0)) (mCons (mC .non) (mCons (mC (.int 1)) mNil))))) [6] (gNm 6) mYes (mTup (mCons (mTup (mCons (mC (.int 5)) (mCons (mC (.int 0)) (mCons (mC (.int 1)) mNil)))) (mCons (mVar 6) mNil))))) (gNm 4)) (sSeq (sAsg (mBin (gAdd false) (mVar 4) (mLc 100000 false (iTup (mTup (mCons (mC .non) (mCons (mLst (mCons (mC (.str "forgets")) mNil)) (mCons (mC (.str "forgets")) (mCons (mTup (mCons (mC (.str "falls")) mNil)) (mCons (mTup (mCons (mC (.str "forgets")) (mCons (mC (.str "forgets")) mNil))) (mCons (mTup (mCons (mC (.str "revives")) (mCons (mC (.str "forgets")) mNil))) (mCons (mTup (mCons (mC (.str "Forgets")) mNil)) (mCons (mTup (mCons (mC (.int 1)) mNil)) (mCons (mTup (mCons (mTup mNil) mNil)) mNil))))))))))) [6] (gNm 6) mYes (mTup (mCons (mTup (mCons (mC (.int 6)) mNil)) (mCons (mVar 6) mNil))))) (gNm 4)) (sSeq (sAsg (mBin (gAdd false) (mVar 3) (mLc 100000 false (iLst (mVar 4)) [8, 6] (gTp 2 (gC (gNm 8) (gC (gNm 6) gN0))) mYes (mCall (ar 3 (r__law_put 12)) (mCons (mVar 0) (mCons (mVar 8) (mCons (mVar 6) mNil)))))) (gNm 5)) (sSeq (sAsg (mBin (gAdd false) (mVar 5) (mLc 100000 false (iTup (mTup (mCons (mTup (mCons (mTup (mCons (mC (.int 0)) mNil)) (mCons (mTup (mCons (mTup (mCons (mC (.int 1)) mNil)) (mCons (mTup (mCons (mC (.int 0)) mNil)) mNil))) mNil))) (mCons (mTup (mCons (mTup (mCons (mC (.int 0)) mNil)) (mCons (mTup (mCons (mTup (mCons (mC (.int 0)) (mCons (mC (.int 1)) mNil))) (mCons (mTup (mCons (mC (.int 0)) mNil)) mNil))) mNil))) (mCons (mTup (mCons (mTup (mCons (mC (.int 0)) mNil)) (mCons (mTup (mCons (mTup (mCons (mC (.int 1)) (mCons (mC (.int 0)) mNil))) mNil)) mNil))) (mCons (mTup (mCons (mTup (mCons (mC (.int 0)) mNil)) (mCons (mTup (mCons (mTup (mCons (mC (.int 0)) (mCons (mC (.int 2)) mNil))) mNil)) mNil))) (mCons (mTup (mCons (mTup (mCons (mC (.int 1)) (mCons (mC (.int 1)) (mCons (mC (.int 2)) mNil)))) (mCons (mC .non) mNil))) (mCons (mTup (mCons (mTup (mCons (mC (.int 5)) (mCons (mC (.int 1)) mNil))) (mCons (mTup (mCons (mC (.int 1)) (mCons (mC (.int 0)) mNil))) mNil))) mNil)))))))) [8, 6] (gTp 2 (gC (gNm 8) (gC (gNm 6) gN0))) mYes (mCall (ar 3 (r__law_put 12)) (mCons (mVar 1) (mCons (mVar 8) (mCons (mVar 6) mNil)))))) (gNm 5)) (sRet (mBin (gAdd false) (mVar 5) (mLc 100000 false (iTup (mTup (mCons (mC (.str "bare grant")) (mCons (mC (.str "bare release")) (mCons (mC (.str "forgets")) (mCons (mC (.str "revives")) mNil)))))) [6] (gNm 6) mYes (mCall (ar 3 (r__law_put 12)) (mCons (mCall (ar 3 (r__law_put 12)) (mCons (mVar 0) (mCons (mTup (mCons (mC (.int 4)) (mCons (mC (.int 4)) mNil))) (mCons (mC (.bl true)) mNil)))) (mCons (mTup (mCons (mC (.int 6)) mNil)) (mCons (mTup (mCons (mVar 6) mNil)) mNil))))))))))))))))))))))))))))
def r__law_bent : GC := runB 9 b__law_bent
theorem ok__law_bent (T : Tx K mg base) : FOk P w K mg base 13 T.d__law_bent.f T.d__law_bent.fd [] r__law_bent := by
  refine fn_ok 9 T.d__law_bent.F sc__law_bent rfl fun cdv A outer s H E hr => ?_
  exact (s_cons (s_asg (e_tup (a_cons (e_call0 (ok__law_lone (P := P) (w := w) (base := base) T) (hr.mono (by first | decide | omega)) (takes_of rfl rfl rfl rfl) (gl_of (by kernel_rfl)) T.d__law_lone.m T.d__law_lone.F.kp T.d__law_lone.b) (a_cons (e_call0 (ok__law_pair (P := P) (w := w) (base := base) T) (hr.mono (by first | decide | omega)) (takes_of rfl rfl rfl rfl) (gl_of (by kernel_rfl)) T.d__law_pair.m T.d__law_pair.F.kp T.d__law_pair.b) (a_cons (e_tup (a_cons e_int (a_cons e_int a_nil))) a_nil)))) (g_tp (n := 3) rfl (g_c (g_nm (i := 0) sc__law_bent.nd rfl (.inr (by kernel_rfl)) (.inl rfl)) (g_c (g_nm (i := 1) sc__law_bent.nd rfl (.inr (by kernel_rfl)) (.inl rfl)) (g_c (g_nm (i := 2) sc__law_bent.nd rfl (.inl (by kernel_rfl)) (.inl rfl)) g_n0)))) (calm_tp (calm_c calm_nm (calm_c calm_nm (calm_c calm_nm calm_n0))))) (s_cons (s_asg (e_lst (a_cons e_non (a_cons (e_tup a_nil) (a_cons e_int (a_cons e_bl (a_cons e_str (a_cons (e_sl (fr := false) (e_v 0 rfl (.inr (.inl (by kernel_rfl)))) p_none (p_some e_int)) (a_cons (e_add (fr := false) (e_v 0 rfl (.inr (.inl (by kernel_rfl)))) (e_tup (a_cons (e_tup a_nil) a_nil))) (a_cons (e_list (fr := false) (gl_of (by kernel_rfl)) T.n_list (a_cons (e_v 0 rfl (.inr (.inl (by kernel_rfl)))) a_nil)) (a_cons (e_call (ok__law_lists (P := P) (w := w) (base := base) T 12) (hr.mono (by first | decide | omega)) (takes_of rfl rfl rfl rfl) (gl_of (by kernel_rfl)) T.d__law_lists.m T.d__law_lists.F.kp T.d__law_lists.b (a_cons (e_v 0 rfl (.inr (.inl (by kernel_rfl)))) a_nil)) (a_cons (e_tup (a_cons (e_v 0 rfl (.inr (.inl (by kernel_rfl)))) a_nil)) a_nil))))))))))) (g_nm (i := 3) sc__law_bent.nd rfl (.inl (by kernel_rfl)) (.inl rfl)) calm_nm) (s_cons (s_lcv (i := 4) 100000 false [6] rfl sc__law_bent.nd rfl rfl (sw_true rfl rfl rfl (by decide +kernel)) (blkOk_by (own := [("own", 6)]) (N := ["lone", "pair", "half", "whole", "ways", "found", "own", "side", "path"]) (sc := defScope (topS 72)) (by decide +kernel)) (by decide) (i_tup (e_tup (a_cons (e_tup a_nil) (a_cons (e_tup (a_cons (e_tup a_nil) a_nil)) (a_cons (e_tup (a_cons (e_tup (a_cons e_int a_nil)) a_nil)) (a_cons (e_tup (a_cons (e_tup (a_cons (e_neg e_int) a_nil)) a_nil)) (a_cons (e_tup (a_cons (e_tup (a_cons e_int (a_cons e_int a_nil))) a_nil)) (a_cons (e_tup (a_cons (e_tup (a_cons e_int a_nil)) (a_cons (e_tup (a_cons e_int a_nil)) a_nil))) (a_cons (e_lst (a_cons (e_tup (a_cons e_int a_nil)) a_nil)) (a_cons (e_tup (a_cons (e_lst (a_cons e_int a_nil)) a_nil)) (a_cons (e_tup (a_cons (e_tup (a_cons e_bl a_nil)) a_nil)) (a_cons (e_tup (a_cons e_int a_nil)) (a_cons e_str (a_cons e_non (a_cons (e_tup (a_cons (e_tup (a_cons e_str a_nil)) a_nil)) a_nil))))))))))))))) (fun s H C cl fp => (g_nm (i := 6) sc__law_bent.nd rfl (.inl (by kernel_rfl)) (.inr (by kernel_rfl)))) (fun s H C cl fp => ts_nil) (fun s H C cl fp => (e_tup (a_cons (e_tup (a_cons e_int a_nil)) (a_cons (e_v 6 rfl (.inl (by kernel_rfl))) a_nil))))) (s_cons (s_asg (e_add (fr := false) (e_v 4 rfl (.inl (by kernel_rfl))) (e_lcv 100000 false [6] rfl sc__law_bent.nd (blkOk_by (own := [("own", 6)]) (N := ["lone", "pair", "half", "whole", "ways", "found", "own", "side", "path"]) (sc := defScope (topS 72)) (by decide +kernel)) (by decide) (i_tup (e_tup (a_cons (e_tup a_nil) (a_cons (e_lst (a_cons (e_ix (e_ix (e_v 0 rfl (.inr (.inl (by kernel_rfl)))) e_int) e_int) a_nil)) (a_cons (e_ix (e_ix (e_v 0 rfl (.inr (.inl (by kernel_rfl)))) e_int) e_int) (a_cons e_non (a_cons (e_tup (a_cons e_non a_nil)) (a_cons (e_tup (a_cons (e_tup (a_cons (e_v 2 rfl (.inl (by kernel_rfl))) (a_cons e_str a_nil))) a_nil)) (a_cons (e_tup (a_cons (e_tup (a_cons (e_v 2 rfl (.inl (by kernel_rfl))) (a_cons e_str (a_cons (e_v 2 rfl (.inl (by kernel_rfl))) (a_cons (e_v 2 rfl (.inl (by kernel_rfl))) a_nil))))) a_nil)) a_nil))))))))) (fun s H C cl fp => (g_nm (i := 6) sc__law_bent.nd rfl (.inl (by kernel_rfl)) (.inr (by kernel_rfl)))) (fun s H C cl fp => ts_nil) (fun s H C cl fp => (e_tup (a_cons (e_tup (a_cons e_int a_nil)) (a_cons (e_v 6 rfl (.inl (by kernel_rfl))) a_nil)))))) (g_nm (i := 4) sc__law_bent.nd rfl (.inl (by kernel_rfl)) (.inl rfl)) calm_nm) (s_cons (s_asg (e_add (fr := false) (e_v 4 rfl (.inl (by kernel_rfl))) (e_lcv 100000 false [6] rfl sc__law_bent.nd (blkOk_by (own := [("own", 6)]) (N := ["lone", "pair", "half", "whole", "ways", "found", "own", "side", "path"]) (sc := defScope (topS 72)) (by decide +kernel)) (by decide) (i_tup (e_tup (a_cons (e_tup (a_cons (e_neg e_int) (a_cons e_int a_nil))) (a_cons (e_tup (a_cons e_int (a_cons e_int a_nil))) (a_cons (e_tup (a_cons e_int (a_cons e_int a_nil))) (a_cons (e_tup (a_cons e_int (a_cons (e_neg e_int) a_nil))) (a_cons e_int (a_cons (e_lst (a_cons e_int (a_cons e_int a_nil))) (a_cons (e_tup (a_cons e_int (a_cons e_int (a_cons e_int a_nil)))) (a_cons (e_tup (a_cons e_bl (a_cons e_int a_nil))) (a_cons (e_tup (a_cons e_int (a_cons e_bl a_nil))) (a_cons e_str (a_cons (e_tup a_nil) a_nil))))))))))))) (fun s H C cl fp => (g_nm (i := 6) sc__law_bent.nd rfl (.inl (by kernel_rfl)) (.inr (by kernel_rfl)))) (fun s H C cl fp => ts_nil) (fun s H C cl fp => (e_tup (a_cons (e_tup (a_cons e_int (a_cons e_int (a_cons e_int a_nil)))) (a_cons (e_v 6 rfl (.inl (by kernel_rfl))) a_nil)))))) (g_nm (i := 4) sc__law_bent.nd rfl (.inl (by kernel_rfl)) (.inl rfl)) calm_nm) (s_cons (s_asg (e_add (fr := false) (e_add (fr := false) (e_v 4 rfl (.inl (by kernel_rfl))) (e_lcv 100000 false [6] rfl sc__law_bent.nd (blkOk_by (own := [("own", 6)]) (N := ["lone", "pair", "half", "whole", "ways", "found", "own", "side", "path"]) (sc := defScope (topS 72)) (by decide +kernel)) (by decide) (i_tup (e_tup (a_cons e_str (a_cons e_str (a_cons e_non (a_cons e_int (a_cons (e_tup (a_cons e_str a_nil)) (a_cons e_str a_nil)))))))) (fun s H C cl fp => (g_nm (i := 6) sc__law_bent.nd rfl (.inl (by kernel_rfl)) (.inr (by kernel_rfl)))) (fun s H C cl fp => ts_nil) (fun s H C cl fp => (e_tup (a_cons (e_tup (a_cons e_int (a_cons e_int (a_cons e_int a_nil)))) (a_cons (e_v 6 rfl (.inl (by kernel_rfl))) a_nil)))))) (e_lcv 100000 false [6] rfl sc__law_bent.nd (blkOk_by (own := [("own", 6)]) (N := ["lone", "pair", "half", "whole", "ways", "found", "own", "side", "path"]) (sc := defScope (topS 72)) (by decide +kernel)) (by decide) (i_tup (e_tup (a_cons (e_tup (a_cons (e_neg e_int) (a_cons e_int a_nil))) (a_cons e_non (a_cons (e_tup (a_cons e_int (a_cons e_int a_nil))) (a_cons e_int (a_cons (e_tup (a_cons e_int (a_cons e_int a_nil))) a_nil))))))) (fun s H C cl fp => (g_nm (i := 6) sc__law_bent.nd rfl (.inl (by kernel_rfl)) (.inr (by kernel_rfl)))) (fun s H C cl fp => ts_nil) (fun s H C cl fp => (e_tup (a_cons (e_tup (a_cons e_int (a_cons e_int (a_cons e_int a_nil)))) (a_cons (e_v 6 rfl (.inl (by kernel_rfl))) a_nil)))))) (g_nm (i := 4) sc__law_bent.nd rfl (.inl (by kernel_rfl)) (.inl rfl)) calm_nm) (s_cons (s_asg (e_add (fr := false) (e_v 4 rfl (.inl (by kernel_rfl))) (e_lcv 100000 false [6] rfl sc__law_bent.nd (blkOk_by (own := [("own", 6)]) (N := ["lone", "pair", "half", "whole", "ways", "found", "own", "side", "path"]) (sc := defScope (topS 72)) (by decide +kernel)) (by decide) (i_tup (e_tup (a_cons (e_sl (fr := false) (e_ix (e_v 0 rfl (.inr (.inl (by kernel_rfl)))) e_int) p_none (p_some e_int)) (a_cons (e_add (fr := false) (e_ix (e_v 0 rfl (.inr (.inl (by kernel_rfl)))) e_int) (e_sl (fr := false) (e_ix (e_v 0 rfl (.inr (.inl (by kernel_rfl)))) e_int) p_none (p_some e_int))) (a_cons (e_list (fr := false) (gl_of (by kernel_rfl)) T.n_list (a_cons (e_ix (e_v 0 rfl (.inr (.inl (by kernel_rfl)))) e_int) a_nil)) (a_cons (e_tup a_nil) (a_cons e_non a_nil))))))) (fun s H C cl fp => (g_nm (i := 6) sc__law_bent.nd rfl (.inl (by kernel_rfl)) (.inr (by kernel_rfl)))) (fun s H C cl fp => ts_nil) (fun s H C cl fp => (e_tup (a_cons (e_tup (a_cons e_int a_nil)) (a_cons (e_v 6 rfl (.inl (by kernel_rfl))) a_nil)))))) (g_nm (i := 4) sc__law_bent.nd rfl (.inl (by kernel_rfl)) (.inl rfl)) calm_nm) (s_cons (s_asg (e_add (fr := false) (e_add (fr := false) (e_v 4 rfl (.inl (by kernel_rfl))) (e_lcv 100000 false [7] rfl sc__law_bent.nd (blkOk_by (own := [("side", 7)]) (N := ["lone", "pair", "half", "whole", "ways", "found", "own", "side", "path"]) (sc := defScope (topS 72)) (by decide +kernel)) (by decide) (i_tup (e_tup (a_cons e_int (a_cons e_int a_nil)))) (fun s H C cl fp => (g_nm (i := 7) sc__law_bent.nd rfl (.inl (by kernel_rfl)) (.inr (by kernel_rfl)))) (fun s H C cl fp => ts_nil) (fun s H C cl fp => (e_tup (a_cons (e_tup (a_cons e_int (a_cons (e_v 7 rfl (.inl (by kernel_rfl))) (a_cons e_int a_nil)))) (a_cons (e_tup (a_cons e_int (a_cons e_int a_nil))) a_nil)))))) (e_lcv 100000 false [6] rfl sc__law_bent.nd (blkOk_by (own := [("own", 6)]) (N := ["lone", "pair", "half", "whole", "ways", "found", "own", "side", "path"]) (sc := defScope (topS 72)) (by decide +kernel)) (by decide) (i_tup (e_tup (a_cons (e_tup (a_cons (e_neg e_int) (a_cons e_int a_nil))) (a_cons (e_tup (a_cons e_int (a_cons e_int a_nil))) (a_cons (e_tup (a_cons e_int (a_cons e_int a_nil))) (a_cons e_int (a_cons e_non a_nil))))))) (fun s H C cl fp => (g_nm (i := 6) sc__law_bent.nd rfl (.inl (by kernel_rfl)) (.inr (by kernel_rfl)))) (fun s H C cl fp => ts_nil) (fun s H C cl fp => (e_tup (a_cons (e_tup (a_cons e_int (a_cons e_int (a_cons e_int a_nil)))) (a_cons (e_v 6 rfl (.inl (by kernel_rfl))) a_nil)))))) (g_nm (i := 4) sc__law_bent.nd rfl (.inl (by kernel_rfl)) (.inl rfl)) calm_nm) (s_cons (s_asg (e_add (fr := false) (e_add (fr := false) (e_v 4 rfl (.inl (by kernel_rfl))) (e_lcv 100000 false [6] rfl sc__law_bent.nd (blkOk_by (own := [("own", 6)]) (N := ["lone", "pair", "half", "whole", "ways", "found", "own", "side", "path"]) (sc := defScope (topS 72)) (by decide +kernel)) (by decide) (i_tup (e_tup (a_cons (e_tup (a_cons e_int (a_cons e_int a_nil))) (a_cons (e_tup (a_cons e_int (a_cons e_int a_nil))) (a_cons (e_lst (a_cons e_int (a_cons e_int a_nil))) a_nil))))) (fun s H C cl fp => (g_nm (i := 6) sc__law_bent.nd rfl (.inl (by kernel_rfl)) (.inr (by kernel_rfl)))) (fun s H C cl fp => ts_nil) (fun s H C cl fp => (e_tup (a_cons (e_tup (a_cons e_int (a_cons e_int (a_cons e_int a_nil)))) (a_cons (e_v 6 rfl (.inl (by kernel_rfl))) a_nil)))))) (e_lcv 100000 false [6] rfl sc__law_bent.nd (blkOk_by (own := [("own", 6)]) (N := ["lone", "pair", "half", "whole", "ways", "found", "own", "side", "path"]) (sc := defScope (topS 72)) (by decide +kernel)) (by decide) (i_tup (e_tup (a_cons (e_v 2 rfl (.inl (by kernel_rfl))) (a_cons (e_tup (a_cons e_int (a_cons e_int a_nil))) (a_cons (e_tup (a_cons e_int (a_cons e_int a_nil))) (a_cons e_non (a_cons e_int a_nil))))))) (fun s H C cl fp => (g_nm (i := 6) sc__law_bent.nd rfl (.inl (by kernel_rfl)) (.inr (by kernel_rfl)))) (fun s H C cl fp => ts_nil) (fun s H C cl fp => (e_tup (a_cons (e_tup (a_cons e_int (a_cons e_int (a_cons e_int a_nil)))) (a_cons (e_v 6 rfl (.inl (by kernel_rfl))) a_nil)))))) (g_nm (i := 4) sc__law_bent.nd rfl (.inl (by kernel_rfl)) (.inl rfl)) calm_nm) (s_cons (s_asg (e_add (fr := false) (e_add (fr := false) (e_v 4 rfl (.inl (by kernel_rfl))) (e_lcv 100000 false [6] rfl sc__law_bent.nd (blkOk_by (own := [("own", 6)]) (N := ["lone", "pair", "half", "whole", "ways", "found", "own", "side", "path"]) (sc := defScope (topS 72)) (by decide +kernel)) (by decide) (i_tup (e_tup (a_cons (e_v 2 rfl (.inl (by kernel_rfl))) (a_cons (e_tup (a_cons (e_neg e_int) (a_cons e_int a_nil))) (a_cons (e_tup (a_cons e_int (a_cons e_int a_nil))) a_nil))))) (fun s H C cl fp => (g_nm (i := 6) sc__law_bent.nd rfl (.inl (by kernel_rfl)) (.inr (by kernel_rfl)))) (fun s H C cl fp => ts_nil) (fun s H C cl fp => (e_tup (a_cons (e_tup (a_cons e_int (a_cons e_int (a_cons e_int a_nil)))) (a_cons (e_v 6 rfl (.inl (by kernel_rfl))) a_nil)))))) (e_lst (a_cons (e_tup (a_cons (e_tup (a_cons e_int (a_cons e_int a_nil))) (a_cons (e_tup (a_cons (e_v 2 rfl (.inl (by kernel_rfl))) (a_cons (e_tup (a_cons e_int (a_cons e_int a_nil))) (a_cons (e_tup (a_cons e_int (a_cons e_int a_nil))) a_nil)))) a_nil))) (a_cons (e_tup (a_cons (e_tup (a_cons e_int (a_cons e_int a_nil))) (a_cons (e_lst (a_cons (e_tup (a_cons e_int (a_cons e_int a_nil))) (a_cons (e_tup (a_cons e_int (a_cons e_int a_nil))) a_nil))) a_nil))) a_nil)))) (g_nm (i := 4) sc__law_bent.nd rfl (.inl (by kernel_rfl)) (.inl rfl)) calm_nm) (s_cons (s_asg (e_add (fr := false) (e_v 4 rfl (.inl (by kernel_rfl))) (e_lcv 100000 false [6] rfl sc__law_bent.nd (blkOk_by (own := [("own", 6)]) (N := ["lone", "pair", "half", "whole", "ways", "found", "own", "side", "path"]) (sc := defScope (topS 72)) (by decide +kernel)) (by decide) (i_tup (e_tup (a_cons (e_sl (fr := false) (e_ix (e_v 0 rfl (.inr (.inl (by kernel_rfl)))) e_int) p_none (p_some e_int)) (a_cons (e_add (fr := false) (e_ix (e_v 0 rfl (.inr (.inl (by kernel_rfl)))) e_int) (e_sl (fr := false) (e_ix (e_v 0 rfl (.inr (.inl (by kernel_rfl)))) e_int) p_none (p_some e_int))) (a_cons e_non (a_cons (e_list (fr := false) (gl_of (by kernel_rfl)) T.n_list (a_cons (e_ix (e_v 0 rfl (.inr (.inl (by kernel_rfl)))) e_int) a_nil)) a_nil)))))) (fun s H C cl fp => (g_nm (i := 6) sc__law_bent.nd rfl (.inl (by kernel_rfl)) (.inr (by kernel_rfl)))) (fun s H C cl fp => ts_nil) (fun s H C cl fp => (e_tup (a_cons (e_tup (a_cons e_int a_nil)) (a_cons (e_v 6 rfl (.inl (by kernel_rfl))) a_nil)))))) (g_nm (i := 4) sc__law_bent.nd rfl (.inl (by kernel_rfl)) (.inl rfl)) calm_nm) (s_cons (s_asg (e_add (fr := false) (e_add (fr := false) (e_v 4 rfl (.inl (by kernel_rfl))) (e_lcv 100000 false [6] rfl sc__law_bent.nd (blkOk_by (own := [("own", 6)]) (N := ["lone", "pair", "half", "whole", "ways", "found", "own", "side", "path"]) (sc := defScope (topS 72)) (by decide +kernel)) (by decide) (i_tup (e_tup (a_cons (e_tup (a_cons e_int (a_cons e_int a_nil))) (a_cons (e_tup (a_cons (e_neg e_int) (a_cons e_int a_nil))) (a_cons (e_tup (a_cons e_int (a_cons e_int a_nil))) (a_cons e_non (a_cons e_int (a_cons (e_tup (a_cons e_int (a_cons e_int a_nil))) a_nil)))))))) (fun s H C cl fp => (g_nm (i := 6) sc__law_bent.nd rfl (.inl (by kernel_rfl)) (.inr (by kernel_rfl)))) (fun s H C cl fp => ts_nil) (fun s H C cl fp => (e_tup (a_cons (e_tup (a_cons e_int (a_cons e_int (a_cons e_int a_nil)))) (a_cons (e_v 6 rfl (.inl (by kernel_rfl))) a_nil)))))) (e_lcv 100000 false [6] rfl sc__law_bent.nd (blkOk_by (own := [("own", 6)]) (N := ["lone", "pair", "half", "whole", "ways", "found", "own", "side", "path"]) (sc := defScope (topS 72)) (by decide +kernel)) (by decide) (i_tup (e_tup (a_cons (e_v 2 rfl (.inl (by kernel_rfl))) (a_cons (e_tup (a_cons e_int (a_cons e_int a_nil))) (a_cons (e_tup (a_cons (e_neg e_int) (a_cons e_int a_nil))) (a_cons e_int (a_cons e_str (a_cons e_bl a_nil)))))))) (fun s H C cl fp => (g_nm (i := 6) sc__law_bent.nd rfl (.inl (by kernel_rfl)) (.inr (by kernel_rfl)))) (fun s H C cl fp => ts_nil) (fun s H C cl fp => (e_tup (a_cons (e_tup (a_cons e_int (a_cons e_int (a_cons e_int a_nil)))) (a_cons (e_v 6 rfl (.inl (by kernel_rfl))) a_nil)))))) (g_nm (i := 4) sc__law_bent.nd rfl (.inl (by kernel_rfl)) (.inl rfl)) calm_nm) (s_cons (s_asg (e_add (fr := false) (e_v 4 rfl (.inl (by kernel_rfl))) (e_lcv 100000 false [6] rfl sc__law_bent.nd (blkOk_by (own := [("own", 6)]) (N := ["lone", "pair", "half", "whole", "ways", "found", "own", "side", "path"]) (sc := defScope (topS 72)) (by decide +kernel)) (by decide) (i_tup (e_tup (a_cons (e_tup (a_cons (e_v 2 rfl (.inl (by kernel_rfl))) a_nil)) (a_cons (e_tup (a_cons (e_v 2 rfl (.inl (by kernel_rfl))) (a_cons e_non (a_cons e_non a_nil)))) (a_cons (e_lst (a_cons (e_v 2 rfl (.inl (by kernel_rfl))) (a_cons e_non a_nil))) (a_cons e_non a_nil)))))) (fun s H C cl fp => (g_nm (i := 6) sc__law_bent.nd rfl (.inl (by kernel_rfl)) (.inr (by kernel_rfl)))) (fun s H C cl fp => ts_nil) (fun s H C cl fp => (e_tup (a_cons (e_tup (a_cons e_int (a_cons e_int a_nil))) (a_cons (e_v 6 rfl (.inl (by kernel_rfl))) a_nil)))))) (g_nm (i := 4) sc__law_bent.nd rfl (.inl (by kernel_rfl)) (.inl rfl)) calm_nm) (s_cons (s_asg (e_add (fr := false) (e_v 4 rfl (.inl (by kernel_rfl))) (e_lcv 100000 false [6] rfl sc__law_bent.nd (blkOk_by (own := [("own", 6)]) (N := ["lone", "pair", "half", "whole", "ways", "found", "own", "side", "path"]) (sc := defScope (topS 72)) (by decide +kernel)) (by decide) (i_tup (e_tup (a_cons (e_sl (fr := false) (e_ix (e_v 0 rfl (.inr (.inl (by kernel_rfl)))) e_int) p_none (p_some e_int)) (a_cons (e_add (fr := false) (e_ix (e_v 0 rfl (.inr (.inl (by kernel_rfl)))) e_int) (e_tup (a_cons e_bl a_nil))) (a_cons e_non (a_cons (e_list (fr := false) (gl_of (by kernel_rfl)) T.n_list (a_cons (e_ix (e_v 0 rfl (.inr (.inl (by kernel_rfl)))) e_int) a_nil)) a_nil)))))) (fun s H C cl fp => (g_nm (i := 6) sc__law_bent.nd rfl (.inl (by kernel_rfl)) (.inr (by kernel_rfl)))) (fun s H C cl fp => ts_nil) (fun s H C cl fp => (e_tup (a_cons (e_tup (a_cons e_int a_nil)) (a_cons (e_v 6 rfl (.inl (by kernel_rfl))) a_nil)))))) (g_nm (i := 4) sc__law_bent.nd rfl (.inl (by kernel_rfl)) (.inl rfl)) calm_nm) (s_cons (s_asg (e_add (fr := false) (e_add (fr := false) (e_v 4 rfl (.inl (by kernel_rfl))) (e_lcv 100000 false [6] rfl sc__law_bent.nd (blkOk_by (own := [("own", 6)]) (N := ["lone", "pair", "half", "whole", "ways", "found", "own", "side", "path"]) (sc := defScope (topS 72)) (by decide +kernel)) (by decide) (i_tup (e_tup (a_cons (e_tup (a_cons (e_neg e_int) (a_cons e_int a_nil))) (a_cons e_non (a_cons e_int (a_cons (e_tup (a_cons e_int (a_cons e_int a_nil))) a_nil)))))) (fun s H C cl fp => (g_nm (i := 6) sc__law_bent.nd rfl (.inl (by kernel_rfl)) (.inr (by kernel_rfl)))) (fun s H C cl fp => ts_nil) (fun s H C cl fp => (e_tup (a_cons (e_tup (a_cons e_int (a_cons e_int a_nil))) (a_cons (e_v 6 rfl (.inl (by kernel_rfl))) a_nil)))))) (e_lcv 100000 false [6] rfl sc__law_bent.nd (blkOk_by (own := [("own", 6)]) (N := ["lone", "pair", "half", "whole", "ways", "found", "own", "side", "path"]) (sc := defScope (topS 72)) (by decide +kernel)) (by decide) (i_tup (e_tup (a_cons e_str (a_cons e_non (a_cons e_int (a_cons e_str (a_cons (e_tup (a_cons e_str a_nil)) a_nil))))))) (fun s H C cl fp => (g_nm (i := 6) sc__law_bent.nd rfl (.inl (by kernel_rfl)) (.inr (by kernel_rfl)))) (fun s H C cl fp => ts_nil) (fun s H C cl fp => (e_tup (a_cons (e_tup (a_cons e_int (a_cons e_int a_nil))) (a_cons (e_v 6 rfl (.inl (by kernel_rfl))) a_nil)))))) (g_nm (i := 4) sc__law_bent.nd rfl (.inl (by kernel_rfl)) (.inl rfl)) calm_nm) (s_cons (s_asg (e_add (fr := false) (e_add (fr := false) (e_v 4 rfl (.inl (by kernel_rfl))) (e_lcv 100000 false [6] rfl sc__law_bent.nd (blkOk_by (own := [("own", 6)]) (N := ["lone", "pair", "half", "whole", "ways", "found", "own", "side", "path"]) (sc := defScope (topS 72)) (by decide +kernel)) (by decide) (i_tup (e_tup (a_cons (e_tup (a_cons (e_neg e_int) (a_cons e_int a_nil))) (a_cons e_int (a_cons (e_tup (a_cons e_int (a_cons e_int a_nil))) (a_cons e_str (a_cons e_bl a_nil))))))) (fun s H C cl fp => (g_nm (i := 6) sc__law_bent.nd rfl (.inl (by kernel_rfl)) (.inr (by kernel_rfl)))) (fun s H C cl fp => ts_nil) (fun s H C cl fp => (e_tup (a_cons (e_tup (a_cons e_int (a_cons e_int a_nil))) (a_cons (e_v 6 rfl (.inl (by kernel_rfl))) a_nil)))))) (e_lcv 100000 false [6] rfl sc__law_bent.nd (blkOk_by (own := [("own", 6)]) (N := ["lone", "pair", "half", "whole", "ways", "found", "own", "side", "path"]) (sc := defScope (topS 72)) (by decide +kernel)) (by decide) (i_tup (e_tup (a_cons e_str (a_cons e_non (a_cons e_str (a_cons e_int a_nil)))))) (fun s H C cl fp => (g_nm (i := 6) sc__law_bent.nd rfl (.inl (by kernel_rfl)) (.inr (by kernel_rfl)))) (fun s H C cl fp => ts_nil) (fun s H C cl fp => (e_tup (a_cons (e_tup (a_cons e_int (a_cons e_int a_nil))) (a_cons (e_v 6 rfl (.inl (by kernel_rfl))) a_nil)))))) (g_nm (i := 4) sc__law_bent.nd rfl (.inl (by kernel_rfl)) (.inl rfl)) calm_nm) (s_cons (s_asg (e_add (fr := false) (e_add (fr := false) (e_v 4 rfl (.inl (by kernel_rfl))) (e_lcv 100000 false [6] rfl sc__law_bent.nd (blkOk_by (own := [("own", 6)]) (N := ["lone", "pair", "half", "whole", "ways", "found", "own", "side", "path"]) (sc := defScope (topS 72)) (by decide +kernel)) (by decide) (i_tup (e_tup (a_cons e_int (a_cons e_int (a_cons e_non (a_cons e_str a_nil)))))) (fun s H C cl fp => (g_nm (i := 6) sc__law_bent.nd rfl (.inl (by kernel_rfl)) (.inr (by kernel_rfl)))) (fun s H C cl fp => ts_nil) (fun s H C cl fp => (e_tup (a_cons (e_tup (a_cons e_int (a_cons e_int a_nil))) (a_cons (e_v 6 rfl (.inl (by kernel_rfl))) a_nil)))))) (e_lcv 100000 false [6] rfl sc__law_bent.nd (blkOk_by (own := [("own", 6)]) (N := ["lone", "pair", "half", "whole", "ways", "found", "own", "side", "path"]) (sc := defScope (topS 72)) (by decide +kernel)) (by decide) (i_tup (e_tup (a_cons (e_tup a_nil) (a_cons (e_lst (a_cons (e_tup (a_cons e_bl (a_cons e_bl a_nil))) a_nil)) (a_cons (e_tup (a_cons e_bl (a_cons e_bl a_nil))) (a_cons e_non (a_cons (e_tup (a_cons (e_tup (a_cons e_bl a_nil)) a_nil)) (a_cons (e_tup (a_cons (e_tup (a_cons e_bl (a_cons e_bl (a_cons e_bl a_nil)))) a_nil)) a_nil)))))))) (fun s H C cl fp => (g_nm (i := 6) sc__law_bent.nd rfl (.inl (by kernel_rfl)) (.inr (by kernel_rfl)))) (fun s H C cl fp => ts_nil) (fun s H C cl fp => (e_tup (a_cons (e_tup (a_cons e_int a_nil)) (a_cons (e_v 6 rfl (.inl (by kernel_rfl))) a_nil)))))) (g_nm (i := 4) sc__law_bent.nd rfl (.inl (by kernel_rfl)) (.inl rfl)) calm_nm) (s_cons (s_asg (e_add (fr := false) (e_add (fr := false) (e_v 4 rfl (.inl (by kernel_rfl))) (e_lcv 100000 false [6] rfl sc__law_bent.nd (blkOk_by (own := [("own", 6)]) (N := ["lone", "pair", "half", "whole", "ways", "found", "own", "side", "path"]) (sc := defScope (topS 72)) (by decide +kernel)) (by decide) (i_tup (e_tup (a_cons e_int (a_cons e_non (a_cons e_str a_nil))))) (fun s H C cl fp => (g_nm (i := 6) sc__law_bent.nd rfl (.inl (by kernel_rfl)) (.inr (by kernel_rfl)))) (fun s H C cl fp => ts_nil) (fun s H C cl fp => (e_tup (a_cons (e_tup (a_cons e_int (a_cons e_int (a_cons e_int a_nil)))) (a_cons (e_v 6 rfl (.inl (by kernel_rfl))) a_nil)))))) (e_lcv 100000 false [6] rfl sc__law_bent.nd (blkOk_by (own := [("own", 6)]) (N := ["lone", "pair", "half", "whole", "ways", "found", "own", "side", "path"]) (sc := defScope (topS 72)) (by decide +kernel)) (by decide) (i_tup (e_tup (a_cons e_int (a_cons e_non (a_cons e_int a_nil))))) (fun s H C cl fp => (g_nm (i := 6) sc__law_bent.nd rfl (.inl (by kernel_rfl)) (.inr (by kernel_rfl)))) (fun s H C cl fp => ts_nil) (fun s H C cl fp => (e_tup (a_cons (e_tup (a_cons e_int (a_cons e_int (a_cons e_int a_nil)))) (a_cons (e_v 6 rfl (.inl (by kernel_rfl))) a_nil)))))) (g_nm (i := 4) sc__law_bent.nd rfl (.inl (by kernel_rfl)) (.inl rfl)) calm_nm) (s_cons (s_asg (e_add (fr := false) (e_v 4 rfl (.inl (by kernel_rfl))) (e_lcv 100000 false [6] rfl sc__law_bent.nd (blkOk_by (own := [("own", 6)]) (N := ["lone", "pair", "half", "whole", "ways", "found", "own", "side", "path"]) (sc := defScope (topS 72)) (by decide +kernel)) (by decide) (i_tup (e_tup (a_cons e_non (a_cons (e_lst (a_cons e_str a_nil)) (a_cons e_str (a_cons (e_tup (a_cons e_str a_nil)) (a_cons (e_tup (a_cons e_str (a_cons e_str a_nil))) (a_cons (e_tup (a_cons e_str (a_cons e_str a_nil))) (a_cons (e_tup (a_cons e_str a_nil)) (a_cons (e_tup (a_cons e_int a_nil)) (a_cons (e_tup (a_cons (e_tup a_nil) a_nil)) a_nil))))))))))) (fun s H C cl fp => (g_nm (i := 6) sc__law_bent.nd rfl (.inl (by kernel_rfl)) (.inr (by kernel_rfl)))) (fun s H C cl fp => ts_nil) (fun s H C cl fp => (e_tup (a_cons (e_tup (a_cons e_int a_nil)) (a_cons (e_v 6 rfl (.inl (by kernel_rfl))) a_nil)))))) (g_nm (i := 4) sc__law_bent.nd rfl (.inl (by kernel_rfl)) (.inl rfl)) calm_nm) (s_cons (s_asg (e_add (fr := false) (e_v 3 rfl (.inl (by kernel_rfl))) (e_lcv 100000 false [8, 6] rfl sc__law_bent.nd (blkOk_by (own := [("path", 8), ("own", 6)]) (N := ["lone", "pair", "half", "whole", "ways", "found", "own", "side", "path"]) (sc := defScope (topS 72)) (by decide +kernel)) (by decide) (i_lst (e_v 4 rfl (.inl (by kernel_rfl)))) (fun s H C cl fp => (g_tp (n := 2) rfl (g_c (g_nm (i := 8) sc__law_bent.nd rfl (.inl (by kernel_rfl)) (.inr (by kernel_rfl))) (g_c (g_nm (i := 6) sc__law_bent.nd rfl (.inl (by kernel_rfl)) (.inr (by kernel_rfl))) g_n0)))) (fun s H C cl fp => ts_nil) (fun s H C cl fp => (e_call (ok__law_put (P := P) (w := w) (base := base) T 12) (hr.mono (by first | decide | omega)) takes0 (gl_of (by kernel_rfl)) T.d__law_put.m T.d__law_put.F.kp T.d__law_put.b (a_cons (e_v 0 rfl (.inr (.inl (by kernel_rfl)))) (a_cons (e_v 8 rfl (.inl (by kernel_rfl))) (a_cons (e_v 6 rfl (.inl (by kernel_rfl))) a_nil))))))) (g_nm (i := 5) sc__law_bent.nd rfl (.inl (by kernel_rfl)) (.inl rfl)) calm_nm) (s_cons (s_asg (e_add (fr := false) (e_v 5 rfl (.inl (by kernel_rfl))) (e_lcv 100000 false [8, 6] rfl sc__law_bent.nd (blkOk_by (own := [("path", 8), ("own", 6)]) (N := ["lone", "pair", "half", "whole", "ways", "found", "own", "side", "path"]) (sc := defScope (topS 72)) (by decide +kernel)) (by decide) (i_tup (e_tup (a_cons (e_tup (a_cons (e_tup (a_cons e_int a_nil)) (a_cons (e_tup (a_cons (e_tup (a_cons e_int a_nil)) (a_cons (e_tup (a_cons e_int a_nil)) a_nil))) a_nil))) (a_cons (e_tup (a_cons (e_tup (a_cons e_int a_nil)) (a_cons (e_tup (a_cons (e_tup (a_cons e_int (a_cons e_int a_nil))) (a_cons (e_tup (a_cons e_int a_nil)) a_nil))) a_nil))) (a_cons (e_tup (a_cons (e_tup (a_cons e_int a_nil)) (a_cons (e_tup (a_cons (e_tup (a_cons e_int (a_cons e_int a_nil))) a_nil)) a_nil))) (a_cons (e_tup (a_cons (e_tup (a_cons e_int a_nil)) (a_cons (e_tup (a_cons (e_tup (a_cons e_int (a_cons e_int a_nil))) a_nil)) a_nil))) (a_cons (e_tup (a_cons (e_tup (a_cons e_int (a_cons e_int (a_cons e_int a_nil)))) (a_cons e_non a_nil))) (a_cons (e_tup (a_cons (e_tup (a_cons e_int (a_cons e_int a_nil))) (a_cons (e_tup (a_cons e_int (a_cons e_int a_nil))) a_nil))) a_nil)))))))) (fun s H C cl fp => (g_tp (n := 2) rfl (g_c (g_nm (i := 8) sc__law_bent.nd rfl (.inl (by kernel_rfl)) (.inr (by kernel_rfl))) (g_c (g_nm (i := 6) sc__law_bent.nd rfl (.inl (by kernel_rfl)) (.inr (by kernel_rfl))) g_n0)))) (fun s H C cl fp => ts_nil) (fun s H C cl fp => (e_call (ok__law_put (P := P) (w := w) (base := base) T 12) (hr.mono (by first | decide | omega)) takes0 (gl_of (by kernel_rfl)) T.d__law_put.m T.d__law_put.F.kp T.d__law_put.b (a_cons (e_v 1 rfl (.inr (.inl (by kernel_rfl)))) (a_cons (e_v 8 rfl (.inl (by kernel_rfl))) (a_cons (e_v 6 rfl (.inl (by kernel_rfl))) a_nil))))))) (g_nm (i := 5) sc__law_bent.nd rfl (.inl (by kernel_rfl)) (.inl rfl)) calm_nm) (s_one (s_ret (e_add (fr := false) (e_v 5 rfl (.inl (by kernel_rfl))) (e_lcv 100000 false [6] rfl sc__law_bent.nd (blkOk_by (own := [("own", 6)]) (N := ["lone", "pair", "half", "whole", "ways", "found", "own", "side", "path"]) (sc := defScope (topS 72)) (by decide +kernel)) (by decide) (i_tup (e_tup (a_cons e_str (a_cons e_str (a_cons e_str (a_cons e_str a_nil)))))) (fun s H C cl fp => (g_nm (i := 6) sc__law_bent.nd rfl (.inl (by kernel_rfl)) (.inr (by kernel_rfl)))) (fun s H C cl fp => ts_nil) (fun s H C cl fp => (e_call (ok__law_put (P := P) (w := w) (base := base) T 12) (hr.mono (by first | decide | omega)) takes0 (gl_of (by kernel_rfl)) T.d__law_put.m T.d__law_put.F.kp T.d__law_put.b (a_cons (e_call (ok__law_put (P := P) (w := w) (base := base) T 12) (hr.mono (by first | decide | omega)) takes0 (gl_of (by kernel_rfl)) T.d__law_put.m T.d__law_put.F.kp T.d__law_put.b (a_cons (e_v 0 rfl (.inr (.inl (by kernel_rfl)))) (a_cons (e_tup (a_cons e_int (a_cons e_int a_nil))) (a_cons e_bl a_nil)))) (a_cons (e_tup (a_cons e_int a_nil)) (a_cons (e_tup (a_cons (e_v 6 rfl (.inl (by kernel_rfl))) a_nil)) a_nil))))))))))))))))))))))))))))))
/-! _law_judged_right -/
theorem sc__law_judged_right : FnScope ["lone", "pair", "great", "ways", "good", "got", "own", "path"] [] (defScope (topS 73)) := ⟨rfl, rfl, rfl, by decide +kernel, rfl, by decide +kernel, by decide +kernel⟩
def b__law_judged_right : MS := (sSeq (sAsg (mTup (mCons (fun _ s => r__law_lone [] s) (mCons (fun _ s => r__law_pair [] s) (mCons (mBin gPowB (mBin gPow (mC (.int 10)) (mC (.int 60))) (mC (.int 17))) mNil)))) (gTp 3 (gC (gNm 0) (gC (gNm 1) (gC (gNm 2) gN0))))) (sSeq (sAsg (mLst (mCons (mTup (mCons (mTup (mCons (mC (.int 4)) (mCons (mC (.int 2)) mNil))) (mCons (mC .non) mNil))) (mCons (mTup (mCons (mTup (mCons (mC (.int 1)) (mCons (mC (.int 0)) (mCons (mC (.int 0)) mNil)))) (mCons (mC .non) mNil))) (mCons (mTup (mCons (mTup (mCons (mC (.int 1)) (mCons (mC (.int 0)) (mCons (mC (.int 0)) mNil)))) (mCons (mTup (mCons (mC (.int 0)) (mCons (mC (.int 1)) mNil))) mNil))) (mCons (mTup (mCons (mTup (mCons (mC (.int 1)) (mCons (mC (.int 0)) (mCons (mC (.int 1)) mNil)))) (mCons (mC (.str "number")) mNil))) (mCons (mTup (mCons (mTup (mCons (mC (.int 1)) (mCons (mC (.int 0)) (mCons (mC (.int 2)) mNil)))) (mCons (mTup (mCons (mC (.int 7)) (mCons (mC (.int 3)) mNil))) mNil))) (mCons (mTup (mCons (mTup (mCons (mC (.int 2)) (mCons (mC (.int 0)) (mCons (mC (.int 0)) mNil)))) (mCons (mTup (mCons (mC (.int 1)) (mCons (mVar 2) mNil))) mNil))) (mCons (mTup (mCons (mTup (mCons (mC (.int 2)) (mCons (mC (.int 1)) (mCons (mC (.int 1)) mNil)))) (mCons (mTup (mCons (mVar 2) (mCons (mC (.int 1)) mNil))) mNil))) mNil)))))))) (gNm 3)) (sSeq (sAsg (mBin (gAdd false) (mVar 3) (mLst (mCons (mTup (mCons (mTup (mCons (mC (.int 3)) (mCons (mC (.int 0)) mNil))) (mCons (mTup (mCons (mTup (mCons (mC (.int 2)) (mCons (mC (.int 1)) mNil))) (mCons (mTup (mCons (mC (.int 2)) (mCons (mC (.int 1)) mNil))) mNil))) mNil))) (mCons (mTup (mCons (mTup (mCons (mC (.int 3)) (mCons (mC (.int 1)) (mCons (mC (.int 1)) mNil)))) (mCons (mC .non) mNil))) (mCons (mTup (mCons (mTup (mCons (mC (.int 4)) (mCons (mC (.int 0)) mNil))) (mCons (mTup (mCons (mC (.int 0)) (mCons (mC (.int 1)) mNil))) mNil))) (mCons (mTup (mCons (mTup (mCons (mC (.int 4)) (mCons (mC (.int 1)) mNil))) (mCons (mC (.str "taken")) mNil))) mNil)))))) (gNm 3)) (sSeq (sAsg (mBin (gAdd false) (mVar 3) (mLst (mCons (mTup (mCons (mTup (mCons (mC (.int 4)) (mCons (mC (.int 3)) mNil))) (mCons (mC (.str "waits")) mNil))) (mCons (mTup (mCons (mTup (mCons (mC (.int 4)) (mCons (mC (.int 4)) mNil))) (mCons (mC (.bl true)) mNil))) (mCons (mTup (mCons (mTup (mCons (mC (.int 5)) (mCons (mC (.int 0)) (mCons (mC (.int 0)) mNil)))) (mCons (mC (.bl false)) mNil))) (mCons (mTup (mCons (mTup (mCons (mC (.int 5)) (mCons (mC (.int 0)) (mCons (mC (.int 1)) mNil)))) (mCons (mC (.bl false)) mNil))) mNil)))))) (gNm 3)) (sSeq (sAsg (mBin (gAdd false) (mVar 3) (mLc 100000 false (iTup (mTup (mCons (mTup (mCons (mC (.str "bare grant")) (mCons (mC (.str "bare release")) (mCons (mC (.str "forgets")) (mCons (mC (.str "revives")) mNil))))) (mCons (mTup (mCons (mC (.str "bare release")) (mCons (mC (.str "revives")) mNil))) (mCons (mTup (mCons (mC (.str "revives")) mNil)) mNil))))) [6] (gNm 6) mYes (mTup (mCons (mTup (mCons (mC (.int 6)) mNil)) (mCons (mVar 6) mNil))))) (gNm 3)) (sSeq (sAsg (mBin (gAdd false) (mBin (gAdd false) (mLst (mCons (mVar 0) (mCons (mVar 1) mNil))) (mLc 100000 false (iLst (mVar 3)) [7, 6] (gTp 2 (gC (gNm 7) (gC (gNm 6) gN0))) mYes (mCall (ar 3 (r__law_put 12)) (mCons (mVar 0) (mCons (mVar 7) (mCons (mVar 6) mNil)))))) (mLst (mCons (mCall (ar 3 (r__law_put 12)) (mCons (mVar 1) (mCons (mTup (mCons (mC (.int 0)) mNil)) (mCons (mTup (mCons (mTup (mCons (mC (.int 1)) mNil)) mNil)) mNil)))) (mCons (mCall (ar 3 (r__law_put 12)) (mCons (mVar 1) (mCons (mTup (mCons (mC (.int 5)) mNil)) (mCons (mBin (gMul false) (mTup (mCons (mTup (mCons (mC (.bl true)) (mCons (mC (.bl true)) mNil))) mNil)) (mC (.int 9))) mNil)))) mNil)))) (gNm 4)) (sSeq (sAsg (mBin (gAdd false) (mBin (gAdd false) (mLc 100000 false (iLst (mVar 4)) [6] (gNm 6) mYes (mCall (ar 1 r_is_plan) (mCons (mVar 6) mNil))) (mLst (mCons (mCall (ar 1 r_is_plan) (mCons (mVar 0) mNil)) mNil))) (mLc 100000 false (iLst (fun _ s => r__law_bent [] s)) [6] (gNm 6) mYes (mCall (ar 1 r_is_plan) (mCons (mVar 6) mNil)))) (gNm 5)) (sRet (mCall (ar 2 (r__law_same 12)) (mCons (mVar 5) (mCons (mBin (gAdd false) (mBin (gMul false) (mLst (mCons (mC (.bl true)) mNil)) (mBin (gAdd false) (mCall gLen (mCons (mVar 4) mNil)) (mC (.int 1)))) (mBin (gMul false) (mLst (mCons (mC (.bl false)) mNil)) (mCall gLen (mCons (fun _ s => r__law_bent [] s) mNil)))) mNil)))))))))))
def r__law_judged_right : GC := runB 8 b__law_judged_right
theorem ok__law_judged_right (T : Tx K mg base) : FOk P w K mg base 14 T.d__law_judged_right.f T.d__law_judged_right.fd [] r__law_judged_right := by
  refine fn_ok 8 T.d__law_judged_right.F sc__law_judged_right rfl fun cdv A outer s H E hr => ?_
  exact (s_cons (s_asg (e_tup (a_cons (e_call0 (ok__law_lone (P := P) (w := w) (base := base) T) (hr.mono (by first | decide | omega)) (takes_of rfl rfl rfl rfl) (gl_of (by kernel_rfl)) T.d__law_lone.m T.d__law_lone.F.kp T.d__law_lone.b) (a_cons (e_call0 (ok__law_pair (P := P) (w := w) (base := base) T) (hr.mono (by first | decide | omega)) (takes_of rfl rfl rfl rfl) (gl_of (by kernel_rfl)) T.d__law_pair.m T.d__law_pair.F.kp T.d__law_pair.b) (a_cons (e_powB (e_pow e_int e_int) e_int) a_nil)))) (g_tp (n := 3) rfl (g_c (g_nm (i := 0) sc__law_judged_right.nd rfl (.inr (by kernel_rfl)) (.inl rfl)) (g_c (g_nm (i := 1) sc__law_judged_right.nd rfl (.inl (by kernel_rfl)) (.inl rfl)) (g_c (g_nm (i := 2) sc__law_judged_right.nd rfl (.inl (by kernel_rfl)) (.inl rfl)) g_n0)))) (calm_tp (calm_c calm_nm (calm_c calm_nm (calm_c calm_nm calm_n0))))) (s_cons (s_asg (e_lst (a_cons (e_tup (a_cons (e_tup (a_cons e_int (a_cons e_int a_nil))) (a_cons e_non a_nil))) (a_cons (e_tup (a_cons (e_tup (a_cons e_int (a_cons e_int (a_cons e_int a_nil)))) (a_cons e_non a_nil))) (a_cons (e_tup (a_cons (e_tup (a_cons e_int (a_cons e_int (a_cons e_int a_nil)))) (a_cons (e_tup (a_cons e_int (a_cons e_int a_nil))) a_nil))) (a_cons (e_tup (a_cons (e_tup (a_cons e_int (a_cons e_int (a_cons e_int a_nil)))) (a_cons e_str a_nil))) (a_cons (e_tup (a_cons (e_tup (a_cons e_int (a_cons e_int (a_cons e_int a_nil)))) (a_cons (e_tup (a_cons e_int (a_cons e_int a_nil))) a_nil))) (a_cons (e_tup (a_cons (e_tup (a_cons e_int (a_cons e_int (a_cons e_int a_nil)))) (a_cons (e_tup (a_cons e_int (a_cons (e_v 2 rfl (.inl (by kernel_rfl))) a_nil))) a_nil))) (a_cons (e_tup (a_cons (e_tup (a_cons e_int (a_cons e_int (a_cons e_int a_nil)))) (a_cons (e_tup (a_cons (e_v 2 rfl (.inl (by kernel_rfl))) (a_cons e_int a_nil))) a_nil))) a_nil)))))))) (g_nm (i := 3) sc__law_judged_right.nd rfl (.inl (by kernel_rfl)) (.inl rfl)) calm_nm) (s_cons (s_asg (e_add (fr := false) (e_v 3 rfl (.inl (by kernel_rfl))) (e_lst (a_cons (e_tup (a_cons (e_tup (a_cons e_int (a_cons e_int a_nil))) (a_cons (e_tup (a_cons (e_tup (a_cons e_int (a_cons e_int a_nil))) (a_cons (e_tup (a_cons e_int (a_cons e_int a_nil))) a_nil))) a_nil))) (a_cons (e_tup (a_cons (e_tup (a_cons e_int (a_cons e_int (a_cons e_int a_nil)))) (a_cons e_non a_nil))) (a_cons (e_tup (a_cons (e_tup (a_cons e_int (a_cons e_int a_nil))) (a_cons (e_tup (a_cons e_int (a_cons e_int a_nil))) a_nil))) (a_cons (e_tup (a_cons (e_tup (a_cons e_int (a_cons e_int a_nil))) (a_cons e_str a_nil))) a_nil)))))) (g_nm (i := 3) sc__law_judged_right.nd rfl (.inl (by kernel_rfl)) (.inl rfl)) calm_nm) (s_cons (s_asg (e_add (fr := false) (e_v 3 rfl (.inl (by kernel_rfl))) (e_lst (a_cons (e_tup (a_cons (e_tup (a_cons e_int (a_cons e_int a_nil))) (a_cons e_str a_nil))) (a_cons (e_tup (a_cons (e_tup (a_cons e_int (a_cons e_int a_nil))) (a_cons e_bl a_nil))) (a_cons (e_tup (a_cons (e_tup (a_cons e_int (a_cons e_int (a_cons e_int a_nil)))) (a_cons e_bl a_nil))) (a_cons (e_tup (a_cons (e_tup (a_cons e_int (a_cons e_int (a_cons e_int a_nil)))) (a_cons e_bl a_nil))) a_nil)))))) (g_nm (i := 3) sc__law_judged_right.nd rfl (.inl (by kernel_rfl)) (.inl rfl)) calm_nm) (s_cons (s_asg (e_add (fr := false) (e_v 3 rfl (.inl (by kernel_rfl))) (e_lcv 100000 false [6] rfl sc__law_judged_right.nd (blkOk_by (own := [("own", 6)]) (N := ["lone", "pair", "great", "ways", "good", "got", "own", "path"]) (sc := defScope (topS 73)) (by decide +kernel)) (by decide) (i_tup (e_tup (a_cons (e_tup (a_cons e_str (a_cons e_str (a_cons e_str (a_cons e_str a_nil))))) (a_cons (e_tup (a_cons e_str (a_cons e_str a_nil))) (a_cons (e_tup (a_cons e_str a_nil)) a_nil))))) (fun s H C cl fp => (g_nm (i := 6) sc__law_judged_right.nd rfl (.inl (by kernel_rfl)) (.inr (by kernel_rfl)))) (fun s H C cl fp => ts_nil) (fun s H C cl fp => (e_tup (a_cons (e_tup (a_cons e_int a_nil)) (a_cons (e_v 6 rfl (.inl (by kernel_rfl))) a_nil)))))) (g_nm (i := 3) sc__law_judged_right.nd rfl (.inl (by kernel_rfl)) (.inl rfl)) calm_nm) (s_cons (s_asg (e_add (fr := false) (e_add (fr := false) (e_lst (a_cons (e_v 0 rfl (.inr (.inl (by kernel_rfl)))) (a_cons (e_v 1 rfl (.inl (by kernel_rfl))) a_nil))) (e_lcv 100000 false [7, 6] rfl sc__law_judged_right.nd (blkOk_by (own := [("path", 7), ("own", 6)]) (N := ["lone", "pair", "great", "ways", "good", "got", "own", "path"]) (sc := defScope (topS 73)) (by decide +kernel)) (by decide) (i_lst (e_v 3 rfl (.inl (by kernel_rfl)))) (fun s H C cl fp => (g_tp (n := 2) rfl (g_c (g_nm (i := 7) sc__law_judged_right.nd rfl (.inl (by kernel_rfl)) (.inr (by kernel_rfl))) (g_c (g_nm (i := 6) sc__law_judged_right.nd rfl (.inl (by kernel_rfl)) (.inr (by kernel_rfl))) g_n0)))) (fun s H C cl fp => ts_nil) (fun s H C cl fp => (e_call (ok__law_put (P := P) (w := w) (base := base) T 12) (hr.mono (by first | decide | omega)) takes0 (gl_of (by kernel_rfl)) T.d__law_put.m T.d__law_put.F.kp T.d__law_put.b (a_cons (e_v 0 rfl (.inr (.inl (by kernel_rfl)))) (a_cons (e_v 7 rfl (.inl (by kernel_rfl))) (a_cons (e_v 6 rfl (.inl (by kernel_rfl))) a_nil))))))) (e_lst (a_cons (e_call (ok__law_put (P := P) (w := w) (base := base) T 12) (hr.mono (by first | decide | omega)) (takes_of rfl rfl rfl rfl) (gl_of (by kernel_rfl)) T.d__law_put.m T.d__law_put.F.kp T.d__law_put.b (a_cons (e_v 1 rfl (.inl (by kernel_rfl))) (a_cons (e_tup (a_cons e_int a_nil)) (a_cons (e_tup (a_cons (e_tup (a_cons e_int a_nil)) a_nil)) a_nil)))) (a_cons (e_call (ok__law_put (P := P) (w := w) (base := base) T 12) (hr.mono (by first | decide | omega)) (takes_of rfl rfl rfl rfl) (gl_of (by kernel_rfl)) T.d__law_put.m T.d__law_put.F.kp T.d__law_put.b (a_cons (e_v 1 rfl (.inl (by kernel_rfl))) (a_cons (e_tup (a_cons e_int a_nil)) (a_cons (e_mul (fr := false) (e_tup (a_cons (e_tup (a_cons e_bl (a_cons e_bl a_nil))) a_nil)) e_int) a_nil)))) a_nil)))) (g_nm (i := 4) sc__law_judged_right.nd rfl (.inl (by kernel_rfl)) (.inl rfl)) calm_nm) (s_cons (s_asg (e_add (fr := false) (e_add (fr := false) (e_lcv 100000 false [6] rfl sc__law_judged_right.nd (blkOk_by (own := [("own", 6)]) (N := ["lone", "pair", "great", "ways", "good", "got", "own", "path"]) (sc := defScope (topS 73)) (by decide +kernel)) (by decide) (i_lst (e_v 4 rfl (.inl (by kernel_rfl)))) (fun s H C cl fp => (g_nm (i := 6) sc__law_judged_right.nd rfl (.inl (by kernel_rfl)) (.inr (by kernel_rfl)))) (fun s H C cl fp => ts_nil) (fun s H C cl fp => (e_call (ok_is_plan (P := P) (w := w) (base := base) T) (hr.mono (by first | decide | omega)) takes0 (gl_of (by kernel_rfl)) T.d_is_plan.m T.d_is_plan.F.kp T.d_is_plan.b (a_cons (e_v 6 rfl (.inl (by kernel_rfl))) a_nil)))) (e_lst (a_cons (e_callW (ok_is_plan (P := P) (w := w) (base := base) T) (hr.mono (by first | decide | omega)) (takes_of rfl rfl rfl rfl) (gl_of (by kernel_rfl)) T.d_is_plan.m T.d_is_plan.F.kp T.w_is_plan (k_cons (e_v 0 rfl (.inr (.inl (by kernel_rfl)))) k_nil)) a_nil))) (e_lcv 100000 false [6] rfl sc__law_judged_right.nd (blkOk_by (own := [("own", 6)]) (N := ["lone", "pair", "great", "ways", "good", "got", "own", "path"]) (sc := defScope (topS 73)) (by decide +kernel)) (by decide) (i_lst (e_call0 (ok__law_bent (P := P) (w := w) (base := base) T) (hr.mono (by first | decide | omega)) (takes_of rfl rfl rfl rfl) (gl_of (by kernel_rfl)) T.d__law_bent.m T.d__law_bent.F.kp T.d__law_bent.b)) (fun s H C cl fp => (g_nm (i := 6) sc__law_judged_right.nd rfl (.inl (by kernel_rfl)) (.inr (by kernel_rfl)))) (fun s H C cl fp => ts_nil) (fun s H C cl fp => (e_call (ok_is_plan (P := P) (w := w) (base := base) T) (hr.mono (by first | decide | omega)) takes0 (gl_of (by kernel_rfl)) T.d_is_plan.m T.d_is_plan.F.kp T.d_is_plan.b (a_cons (e_v 6 rfl (.inl (by kernel_rfl))) a_nil))))) (g_nm (i := 5) sc__law_judged_right.nd rfl (.inl (by kernel_rfl)) (.inl rfl)) calm_nm) (s_one (s_ret (e_call (ok__law_same (P := P) (w := w) (base := base) T 12) (hr.mono (by first | decide | omega)) (takes_of rfl rfl rfl rfl) (gl_of (by kernel_rfl)) T.d__law_same.m T.d__law_same.F.kp T.d__law_same.b (a_cons (e_v 5 rfl (.inl (by kernel_rfl))) (a_cons (e_add (fr := false) (e_mul (fr := false) (e_lst (a_cons e_bl a_nil)) (e_add (fr := false) (e_len (gl_of (by kernel_rfl)) T.n_len (a_cons (e_v 4 rfl (.inl (by kernel_rfl))) a_nil)) e_int)) (e_mul (fr := false) (e_lst (a_cons e_bl a_nil)) (e_len (gl_of (by kernel_rfl)) T.n_len (a_cons (e_call0 (ok__law_bent (P := P) (w := w) (base := base) T) (hr.mono (by first | decide | omega)) (takes_of rfl rfl rfl rfl) (gl_of (by kernel_rfl)) T.d__law_bent.m T.d__law_bent.F.kp T.d__law_bent.b) a_nil)))) a_nil))))))))))))
/-! _law_names -/
theorem sc__law_names : FnScope ["names", "leg", "word"] [] (defScope (topS 74)) := ⟨rfl, rfl, rfl, by decide +kernel, rfl, by decide +kernel, by decide +kernel⟩
def b__law_names : MS := (sSeq (sAsg (mLc 100000 false (iTup (mTup (mCons (mC (.str "lots")) (mCons (mC (.str "faults")) (mCons (mC (.str "term")) (mCons (mC (.str "counts")) (mCons (mC (.str "stop")) (mCons (mC (.str "releases")) (mCons (mC (.str "sealed")) mNil))))))))) [2] (gNm 2) mYes (mTup (mCons (mVar 2) mNil))) (gNm 0)) (sSeq (sAsg (mBin (gAdd false) (mVar 0) (mLc 100000 false (iTup (mTup (mCons (mC (.str "length")) (mCons (mC (.str "record")) (mCons (mC (.str "grace")) (mCons (mC (.str "asks")) (mCons (mC (.str "keeps")) mNil))))))) [2] (gNm 2) mYes (mTup (mCons (mVar 2) (mCons (mC (.int 0)) mNil))))) (gNm 0)) (sSeq (sAsg (mBin (gAdd false) (mVar 0) (mLst (mCons (mTup (mCons (mC (.str "slow")) (mCons (mC (.str "client")) mNil))) (mCons (mTup (mCons (mC (.str "slow")) (mCons (mC (.str "keeper")) mNil))) (mCons (mTup (mCons (mC (.str "fast")) (mCons (mC (.str "client")) mNil))) (mCons (mTup (mCons (mC (.str "fast")) (mCons (mC (.str "keeper")) mNil))) mNil)))))) (gNm 0)) (sSeq (sFor 100000 (iTup (mTup (mCons (mC (.str "ask")) (mCons (mC (.str "grant")) (mCons (mC (.str "deed")) (mCons (mC (.str "back")) mNil)))))) (gNm 1) (sAsg (mBin (gAdd false) (mVar 0) (mLst (mCons (mTup (mCons (mC (.str "least")) (mCons (mVar 1) mNil))) (mCons (mTup (mCons (mC (.str "most")) (mCons (mVar 1) mNil))) mNil)))) (gNm 0))) (sRet (mCall gTuple (mCons (mCall (gSortD false) (mCons (mVar 0) mNil)) mNil)))))))
def r__law_names : GC := runB 3 b__law_names
theorem ok__law_names (T : Tx K mg base) : FOk P w K mg base 1 T.d__law_names.f T.d__law_names.fd [] r__law_names := by
  refine fn_ok 3 T.d__law_names.F sc__law_names rfl fun cdv A outer s H E hr => ?_
  exact (s_cons (s_lcv (i := 0) 100000 false [2] rfl sc__law_names.nd rfl rfl (sw_true rfl rfl rfl (by decide +kernel)) (blkOk_by (own := [("word", 2)]) (N := ["names", "leg", "word"]) (sc := defScope (topS 74)) (by decide +kernel)) (by decide) (i_tup (e_tup (a_cons e_str (a_cons e_str (a_cons e_str (a_cons e_str (a_cons e_str (a_cons e_str (a_cons e_str a_nil))))))))) (fun s H C cl fp => (g_nm (i := 2) sc__law_names.nd rfl (.inl (by kernel_rfl)) (.inr (by kernel_rfl)))) (fun s H C cl fp => ts_nil) (fun s H C cl fp => (e_tup (a_cons (e_v 2 rfl (.inl (by kernel_rfl))) a_nil)))) (s_cons (s_asg (e_add (fr := false) (e_v 0 rfl (.inl (by kernel_rfl))) (e_lcv 100000 false [2] rfl sc__law_names.nd (blkOk_by (own := [("word", 2)]) (N := ["names", "leg", "word"]) (sc := defScope (topS 74)) (by decide +kernel)) (by decide) (i_tup (e_tup (a_cons e_str (a_cons e_str (a_cons e_str (a_cons e_str (a_cons e_str a_nil))))))) (fun s H C cl fp => (g_nm (i := 2) sc__law_names.nd rfl (.inl (by kernel_rfl)) (.inr (by kernel_rfl)))) (fun s H C cl fp => ts_nil) (fun s H C cl fp => (e_tup (a_cons (e_v 2 rfl (.inl (by kernel_rfl))) (a_cons e_int a_nil)))))) (g_nm (i := 0) sc__law_names.nd rfl (.inl (by kernel_rfl)) (.inl rfl)) calm_nm) (s_cons (s_asg (e_add (fr := false) (e_v 0 rfl (.inl (by kernel_rfl))) (e_lst (a_cons (e_tup (a_cons e_str (a_cons e_str a_nil))) (a_cons (e_tup (a_cons e_str (a_cons e_str a_nil))) (a_cons (e_tup (a_cons e_str (a_cons e_str a_nil))) (a_cons (e_tup (a_cons e_str (a_cons e_str a_nil))) a_nil)))))) (g_nm (i := 0) sc__law_names.nd rfl (.inl (by kernel_rfl)) (.inl rfl)) calm_nm) (s_cons (s_for 100000 (passes_of rfl) rfl (i_tup (e_tup (a_cons e_str (a_cons e_str (a_cons e_str (a_cons e_str a_nil)))))) (g_nm (i := 1) sc__law_names.nd rfl (.inl (by kernel_rfl)) (.inl rfl)) (s_one (s_asg (e_add (fr := false) (e_v 0 rfl (.inl (by kernel_rfl))) (e_lst (a_cons (e_tup (a_cons e_str (a_cons (e_v 1 rfl (.inl (by kernel_rfl))) a_nil))) (a_cons (e_tup (a_cons e_str (a_cons (e_v 1 rfl (.inl (by kernel_rfl))) a_nil))) a_nil)))) (g_nm (i := 0) sc__law_names.nd rfl (.inl (by kernel_rfl)) (.inl rfl)) calm_nm))) (s_one (s_ret (e_tuple (gl_of (by kernel_rfl)) T.n_tuple (a_cons (e_sortD (fr := false) (hu80 hr) (gl_of (by kernel_rfl)) T.n_sorted (a_cons (e_v 0 rfl (.inl (by kernel_rfl))) a_nil)) a_nil))))))))
/-! _law_told_right -/
theorem sc__law_told_right : FnScope ["lone", "pair", "got", "due", "near", "own", "word", "leg"] [] (defScope (topS 75)) := ⟨rfl, rfl, rfl, by decide +kernel, rfl, by decide +kernel, by decide +kernel⟩
def b__law_told_right : MS := (sSeq (sAsg (mTup (mCons (fun _ s => r__law_lone [] s) (mCons (fun _ s => r__law_pair [] s) mNil))) (gTp 2 (gC (gNm 0) (gC (gNm 1) gN0)))) (sSeq (sAsg (mLst (mCons (mCall (ar 1 (afresh r_settings)) (mCons (mVar 0) mNil)) (mCons (mCall (ar 1 (afresh r_times_of)) (mCons (mVar 0) mNil)) (mCons (mCall (ar 1 r_longest_belief) (mCons (mVar 0) mNil)) (mCons (mCall (ar 2 r_shortest_keep) (mCons (mVar 0) (mCons (mC (.int 0)) mNil))) (mCons (mCall (ar 1 r_can_hold) (mCons (mVar 0) mNil)) mNil)))))) (gNm 2)) (sSeq (sAsg (mLst (mCons (fun _ s => r__law_names [] s) (mCons (mCall gTuple (mCons (mLc 100000 false (iTup (fun _ s => r__law_names [] s)) [5] (gNm 5) (mOrT (mT (mBin (gIn id) (mBin gIx (mVar 5) (mC (.int 0))) (mTup (mCons (mC (.str "term")) (mCons (mC (.str "stop")) (mCons (mC (.str "length")) (mCons (mC (.str "grace")) (mCons (mC (.str "least")) mNil)))))))) (mAndT (mT (mBin gEq (mBin gIx (mVar 5) (mC (.int 0))) (mC (.str "most")))) (mT (mBin gNe (mBin gIx (mVar 5) (mC (.int 1))) (mC (.str "back")))))) (mVar 5)) mNil)) mNil))) (gNm 3)) (sSeq (sAsg (mBin (gAdd false) (mVar 3) (mLst (mCons (mTup (mCons (mC (.int 10)) (mCons (mC (.int 1)) mNil))) (mCons (mTup (mCons (mC (.int 8)) (mCons (mC (.int 1)) mNil))) (mCons (mC (.bl true)) mNil))))) (gNm 3)) (sSeq (sAsg (mBin (gAdd false) (mVar 2) (mLc 100000 false (iTup (mTup (mCons (mTup (mCons (mC (.str "lots")) mNil)) (mCons (mTup (mCons (mC (.str "faults")) mNil)) (mCons (mTup (mCons (mC (.str "term")) mNil)) (mCons (mTup (mCons (mC (.str "counts")) mNil)) (mCons (mTup (mCons (mC (.str "stop")) mNil)) (mCons (mTup (mCons (mC (.str "releases")) mNil)) (mCons (mTup (mCons (mC (.str "sealed")) mNil)) (mCons (mTup (mCons (mC (.str "length")) (mCons (mC (.int 1)) mNil))) (mCons (mTup (mCons (mC (.str "record")) (mCons (mC (.int 1)) mNil))) mNil))))))))))) [5] (gNm 5) mYes (mCall (ar 2 (afresh r_setting)) (mCons (mVar 1) (mCons (mVar 5) mNil))))) (gNm 2)) (sSeq (sAsg (mBin (gAdd false) (mVar 3) (mLst (mCons (mTup (mCons (mTup (mCons (mC (.int 0)) mNil)) (mCons (mTup (mCons (mC (.int 0)) (mCons (mC (.int 1)) mNil))) (mCons (mTup (mCons (mC (.int 1)) mNil)) mNil)))) (mCons (mTup (mCons (mC (.str "forgets")) mNil)) (mCons (mTup (mCons (mC (.int 9)) (mCons (mC (.int 2)) mNil))) (mCons (mC (.str "taken")) (mCons (mC .non) (mCons (mC (.str "waits")) (mCons (mC (.bl false)) (mCons (mC .non) (mCons (mC (.str "number")) mNil))))))))))) (gNm 3)) (sSeq (sAsg (mBin (gAdd false) (mVar 2) (mLc 100000 false (iTup (mTup (mCons (mTup (mCons (mC (.str "grace")) (mCons (mC (.int 1)) mNil))) (mCons (mTup (mCons (mC (.str "asks")) (mCons (mC (.int 1)) mNil))) (mCons (mTup (mCons (mC (.str "keeps")) (mCons (mC (.int 1)) mNil))) (mCons (mTup (mCons (mC (.str "asks")) (mCons (mC (.int 0)) mNil))) (mCons (mTup (mCons (mC (.str "slow")) (mCons (mC (.str "client")) mNil))) (mCons (mTup (mCons (mC (.str "fast")) (mCons (mC (.str "client")) mNil))) (mCons (mTup (mCons (mC (.str "slow")) (mCons (mC (.str "keeper")) mNil))) (mCons (mTup (mCons (mC (.str "fast")) (mCons (mC (.str "keeper")) mNil))) mNil)))))))))) [5] (gNm 5) mYes (mCall (ar 2 (afresh r_setting)) (mCons (mVar 1) (mCons (mVar 5) mNil))))) (gNm 2)) (sSeq (sAsg (mBin (gAdd false) (mVar 3) (mLst (mCons (mTup (mCons (mC (.int 5)) (mCons (mC (.int 2)) mNil))) (mCons (mC (.bl false)) (mCons (mC (.bl true)) (mCons (mC (.bl true)) (mCons (mTup (mCons (mC (.int 1)) (mCons (mC (.int 2)) mNil))) (mCons (mTup (mCons (mC (.int 3)) (mCons (mC (.int 2)) mNil))) (mCons (mTup (mCons (mC (.int 2)) (mCons (mC (.int 3)) mNil))) (mCons (mTup (mCons (mC (.int 4)) (mCons (mC (.int 3)) mNil))) mNil)))))))))) (gNm 3)) (sSeq (sAsg (mBin (gAdd false) (mVar 2) (mLc 100000 false (iTup (mTup (mCons (mTup (mCons (mC (.str "least")) (mCons (mC (.str "ask")) mNil))) (mCons (mTup (mCons (mC (.str "most")) (mCons (mC (.str "ask")) mNil))) (mCons (mTup (mCons (mC (.str "least")) (mCons (mC (.str "grant")) mNil))) (mCons (mTup (mCons (mC (.str "most")) (mCons (mC (.str "grant")) mNil))) (mCons (mTup (mCons (mC (.str "least")) (mCons (mC (.str "deed")) mNil))) (mCons (mTup (mCons (mC (.str "most")) (mCons (mC (.str "back")) mNil))) mNil)))))))) [6, 7] (gTp 2 (gC (gNm 6) (gC (gNm 7) gN0))) mYes (mCall (ar 2 (afresh r_setting)) (mCons (mVar 1) (mCons (mTup (mCons (mVar 6) (mCons (mVar 7) mNil))) mNil))))) (gNm 2)) (sSeq (sAsg (mBin (gAdd false) (mVar 3) (mLst (mCons (mTup (mCons (mC (.int 1)) (mCons (mC (.int 1)) mNil))) (mCons (mTup (mCons (mC (.int 2)) (mCons (mC (.int 1)) mNil))) (mCons (mTup (mCons (mC (.int 1)) (mCons (mC (.int 2)) mNil))) (mCons (mC .non) (mCons (mTup (mCons (mC (.int 3)) (mCons (mC (.int 4)) mNil))) (mCons (mTup (mCons (mC (.int 7)) (mCons (mC (.int 2)) mNil))) mNil)))))))) (gNm 3)) (sSeq (sAsg (mBin (gAdd false) (mVar 2) (mLst (mCons (mCall (ar 1 r_longest_belief) (mCons (mVar 1) mNil)) (mCons (mCall (ar 2 r_shortest_keep) (mCons (mVar 1) (mCons (mC (.int 0)) mNil))) (mCons (mCall (ar 2 r_shortest_keep) (mCons (mVar 1) (mCons (mC (.int 1)) mNil))) (mCons (mCall (ar 1 r_can_hold) (mCons (mVar 1) mNil)) (mCons (mCall gLen (mCons (mCall (ar 1 (afresh r_settings)) (mCons (mVar 1) mNil)) mNil)) (mCons (mCall gLen (mCons (mCall (ar 1 (afresh r_times_of)) (mCons (mVar 1) mNil)) mNil)) mNil)))))))) (gNm 2)) (sSeq (sAsg (mBin (gAdd false) (mVar 3) (mLst (mCons (mTup (mCons (mC (.int 9)) (mCons (mC (.int 1)) mNil))) (mCons (mTup (mCons (mC (.int 6)) (mCons (mC (.int 1)) mNil))) (mCons (mC .non) (mCons (mC (.bl true)) (mCons (mC (.int 29)) (mCons (mC (.int 11)) mNil)))))))) (gNm 3)) (sSeq (sAsg (mLc 100000 false (iTup (mTup (mCons (mTup (mCons (mC (.int 2)) (mCons (mC (.int 1)) mNil))) (mCons (mTup (mCons (mC (.int 1999)) (mCons (mC (.int 1000)) mNil))) (mCons (mTup (mCons (mC (.int 0)) (mCons (mC (.int 1)) mNil))) mNil))))) [5] (gNm 5) mYes (mCall (ar 3 (afresh r_changed)) (mCons (mVar 0) (mCons (mTup (mCons (mC (.str "term")) mNil)) (mCons (mVar 5) mNil))))) (gNm 4)) (sSeq (sAsg (mBin (gAdd false) (mBin (gAdd false) (mVar 2) (mLc 100000 false (iLst (mVar 4)) [5] (gNm 5) mYes (mCall (ar 1 r_can_hold) (mCons (mVar 5) mNil)))) (mLst (mCons (mCall (ar 1 r_can_hold) (mCons (mCall (ar 3 (afresh r_changed)) (mCons (mBin gIx (mVar 4) (mC (.int 2))) (mCons (mTup (mCons (mC (.str "counts")) mNil)) (mCons (mC (.str "taken")) mNil)))) mNil)) (mCons (mCall (ar 1 r_can_hold) (mCons (mCall (ar 3 (afresh r_changed)) (mCons (mBin gIx (mVar 4) (mC (.int 2))) (mCons (mTup (mCons (mC (.str "faults")) mNil)) (mCons (mTup (mCons (mC (.str "bare grant")) mNil)) mNil)))) mNil)) mNil)))) (gNm 2)) (sSeq (sAsg (mBin (gAdd false) (mVar 2) (mLst (mCons (mCall (ar 1 r_can_hold) (mCons (mCall (ar 3 (afresh r_changed)) (mCons (mBin gIx (mVar 4) (mC (.int 2))) (mCons (mTup (mCons (mC (.str "faults")) mNil)) (mCons (mTup (mCons (mC (.str "bare release")) (mCons (mC (.str "forgets")) (mCons (mC (.str "revives")) mNil)))) mNil)))) mNil)) (mCons (mCall (ar 1 r_can_hold) (mCons (mCall (ar 3 (afresh r_changed)) (mCons (mBin gIx (mVar 4) (mC (.int 1))) (mCons (mTup (mCons (mC (.str "slow")) (mCons (mC (.str "client")) mNil))) (mCons (mTup (mCons (mC (.int 9)) (mCons (mC (.int 10)) mNil))) mNil)))) mNil)) mNil)))) (gNm 2)) (sRet (mCall (ar 2 (r__law_same 12)) (mCons (mVar 2) (mCons (mBin (gAdd false) (mVar 3) (mLst (mCons (mC (.bl true)) (mCons (mC (.bl false)) (mCons (mC (.bl false)) (mCons (mC (.bl true)) (mCons (mC (.bl true)) (mCons (mC (.bl false)) (mCons (mC (.bl true)) mNil))))))))) mNil)))))))))))))))))))
def r__law_told_right : GC := runB 8 b__law_told_right
theorem ok__law_told_right (T : Tx K mg base) : FOk P w K mg base 14 T.d__law_told_right.f T.d__law_told_right.fd [] r__law_told_right := by
  refine fn_ok 8 T.d__law_told_right.F sc__law_told_right rfl fun cdv A outer s H E hr => ?_
  exact (s_cons (s_asg (e_tup (a_cons (e_call0 (ok__law_lone (P := P) (w := w) (base := base) T) (hr.mono (by first | decide | omega)) (takes_of rfl rfl rfl rfl) (gl_of (by kernel_rfl)) T.d__law_lone.m T.d__law_lone.F.kp T.d__law_lone.b) (a_cons (e_call0 (ok__law_pair (P := P) (w := w) (base := base) T) (hr.mono (by first | decide | omega)) (takes_of rfl rfl rfl rfl) (gl_of (by kernel_rfl)) T.d__law_pair.m T.d__law_pair.F.kp T.d__law_pair.b) a_nil))) (g_tp (n := 2) rfl (g_c (g_nm (i := 0) sc__law_told_right.nd rfl (.inr (by kernel_rfl)) (.inl rfl)) (g_c (g_nm (i := 1) sc__law_told_right.nd rfl (.inr (by kernel_rfl)) (.inl rfl)) g_n0))) (calm_tp (calm_c calm_nm (calm_c calm_nm calm_n0)))) (s_cons (s_asg (e_lst (a_cons (e_call (fok_afresh (ok_settings (P := P) (w := w) (base := base) T)) (hr.mono (by first | decide | omega)) (takes_of rfl rfl rfl rfl) (gl_of (by kernel_rfl)) T.d_settings.m T.d_settings.F.kp T.d_settings.b (a_cons (e_v 0 rfl (.inr (.inl (by kernel_rfl)))) a_nil)) (a_cons (e_call (fok_afresh (ok_times_of (P := P) (w := w) (base := base) T)) (hr.mono (by first | decide | omega)) (takes_of rfl rfl rfl rfl) (gl_of (by kernel_rfl)) T.d_times_of.m T.d_times_of.F.kp T.d_times_of.b (a_cons (e_v 0 rfl (.inr (.inl (by kernel_rfl)))) a_nil)) (a_cons (e_call (ok_longest_belief (P := P) (w := w) (base := base) T) (hr.mono (by first | decide | omega)) (takes_of rfl rfl rfl rfl) (gl_of (by kernel_rfl)) T.d_longest_belief.m T.d_longest_belief.F.kp T.d_longest_belief.b (a_cons (e_v 0 rfl (.inr (.inl (by kernel_rfl)))) a_nil)) (a_cons (e_call (ok_shortest_keep (P := P) (w := w) (base := base) T) (hr.mono (by first | decide | omega)) (takes_of rfl rfl rfl rfl) (gl_of (by kernel_rfl)) T.d_shortest_keep.m T.d_shortest_keep.F.kp T.d_shortest_keep.b (a_cons (e_v 0 rfl (.inr (.inl (by kernel_rfl)))) (a_cons e_int a_nil))) (a_cons (e_call (ok_can_hold (P := P) (w := w) (base := base) T) (hr.mono (by first | decide | omega)) (takes_of rfl rfl rfl rfl) (gl_of (by kernel_rfl)) T.d_can_hold.m T.d_can_hold.F.kp T.d_can_hold.b (a_cons (e_v 0 rfl (.inr (.inl (by kernel_rfl)))) a_nil)) a_nil)))))) (g_nm (i := 2) sc__law_told_right.nd rfl (.inl (by kernel_rfl)) (.inl rfl)) calm_nm) (s_cons (s_asg (e_lst (a_cons (e_call0 (ok__law_names (P := P) (w := w) (base := base) T) (hr.mono (by first | decide | omega)) (takes_of rfl rfl rfl rfl) (gl_of (by kernel_rfl)) T.d__law_names.m T.d__law_names.F.kp T.d__law_names.b) (a_cons (e_tuple (gl_of (by kernel_rfl)) T.n_tuple (a_cons (e_lcv 100000 false [5] rfl sc__law_told_right.nd (blkOk_by (own := [("own", 5)]) (N := ["lone", "pair", "got", "due", "near", "own", "word", "leg"]) (sc := defScope (topS 75)) (by decide +kernel)) (by decide) (i_tup (e_call0 (ok__law_names (P := P) (w := w) (base := base) T) (hr.mono (by first | decide | omega)) (takes_of rfl rfl rfl rfl) (gl_of (by kernel_rfl)) T.d__law_names.m T.d__law_names.F.kp T.d__law_names.b)) (fun s H C cl fp => (g_nm (i := 5) sc__law_told_right.nd rfl (.inl (by kernel_rfl)) (.inr (by kernel_rfl)))) (fun s H C cl fp => (ts_one (MW.t (w_or (t_in (hu65 hr) (e_ix (e_v 5 rfl (.inl (by kernel_rfl))) e_int) (e_tup (a_cons e_str (a_cons e_str (a_cons e_str (a_cons e_str (a_cons e_str a_nil))))))) (w_or1 (MW.t (w_and (t_eq hr.units (e_ix (e_v 5 rfl (.inl (by kernel_rfl))) e_int) e_str) (w_and1 (t_ne hr.units (e_ix (e_v 5 rfl (.inl (by kernel_rfl))) e_int) e_str))))))))) (fun s H C cl fp => (e_v 5 rfl (.inl (by kernel_rfl))))) a_nil)) a_nil))) (g_nm (i := 3) sc__law_told_right.nd rfl (.inl (by kernel_rfl)) (.inl rfl)) calm_nm) (s_cons (s_asg (e_add (fr := false) (e_v 3 rfl (.inl (by kernel_rfl))) (e_lst (a_cons (e_tup (a_cons e_int (a_cons e_int a_nil))) (a_cons (e_tup (a_cons e_int (a_cons e_int a_nil))) (a_cons e_bl a_nil))))) (g_nm (i := 3) sc__law_told_right.nd rfl (.inl (by kernel_rfl)) (.inl rfl)) calm_nm) (s_cons (s_asg (e_add (fr := false) (e_v 2 rfl (.inl (by kernel_rfl))) (e_lcv 100000 false [5] rfl sc__law_told_right.nd (blkOk_by (own := [("own", 5)]) (N := ["lone", "pair", "got", "due", "near", "own", "word", "leg"]) (sc := defScope (topS 75)) (by decide +kernel)) (by decide) (i_tup (e_tup (a_cons (e_tup (a_cons e_str a_nil)) (a_cons (e_tup (a_cons e_str a_nil)) (a_cons (e_tup (a_cons e_str a_nil)) (a_cons (e_tup (a_cons e_str a_nil)) (a_cons (e_tup (a_cons e_str a_nil)) (a_cons (e_tup (a_cons e_str a_nil)) (a_cons (e_tup (a_cons e_str a_nil)) (a_cons (e_tup (a_cons e_str (a_cons e_int a_nil))) (a_cons (e_tup (a_cons e_str (a_cons e_int a_nil))) a_nil))))))))))) (fun s H C cl fp => (g_nm (i := 5) sc__law_told_right.nd rfl (.inl (by kernel_rfl)) (.inr (by kernel_rfl)))) (fun s H C cl fp => ts_nil) (fun s H C cl fp => (e_call (fok_afresh (ok_setting (P := P) (w := w) (base := base) T)) (hr.mono (by first | decide | omega)) takes0 (gl_of (by kernel_rfl)) T.d_setting.m T.d_setting.F.kp T.d_setting.b (a_cons (e_v 1 rfl (.inr (.inl (by kernel_rfl)))) (a_cons (e_v 5 rfl (.inl (by kernel_rfl))) a_nil)))))) (g_nm (i := 2) sc__law_told_right.nd rfl (.inl (by kernel_rfl)) (.inl rfl)) calm_nm) (s_cons (s_asg (e_add (fr := false) (e_v 3 rfl (.inl (by kernel_rfl))) (e_lst (a_cons (e_tup (a_cons (e_tup (a_cons e_int a_nil)) (a_cons (e_tup (a_cons e_int (a_cons e_int a_nil))) (a_cons (e_tup (a_cons e_int a_nil)) a_nil)))) (a_cons (e_tup (a_cons e_str a_nil)) (a_cons (e_tup (a_cons e_int (a_cons e_int a_nil))) (a_cons e_str (a_cons e_non (a_cons e_str (a_cons e_bl (a_cons e_non (a_cons e_str a_nil))))))))))) (g_nm (i := 3) sc__law_told_right.nd rfl (.inl (by kernel_rfl)) (.inl rfl)) calm_nm) (s_cons (s_asg (e_add (fr := false) (e_v 2 rfl (.inl (by kernel_rfl))) (e_lcv 100000 false [5] rfl sc__law_told_right.nd (blkOk_by (own := [("own", 5)]) (N := ["lone", "pair", "got", "due", "near", "own", "word", "leg"]) (sc := defScope (topS 75)) (by decide +kernel)) (by decide) (i_tup (e_tup (a_cons (e_tup (a_cons e_str (a_cons e_int a_nil))) (a_cons (e_tup (a_cons e_str (a_cons e_int a_nil))) (a_cons (e_tup (a_cons e_str (a_cons e_int a_nil))) (a_cons (e_tup (a_cons e_str (a_cons e_int a_nil))) (a_cons (e_tup (a_cons e_str (a_cons e_str a_nil))) (a_cons (e_tup (a_cons e_str (a_cons e_str a_nil))) (a_cons (e_tup (a_cons e_str (a_cons e_str a_nil))) (a_cons (e_tup (a_cons e_str (a_cons e_str a_nil))) a_nil)))))))))) (fun s H C cl fp => (g_nm (i := 5) sc__law_told_right.nd rfl (.inl (by kernel_rfl)) (.inr (by kernel_rfl)))) (fun s H C cl fp => ts_nil) (fun s H C cl fp => (e_call (fok_afresh (ok_setting (P := P) (w := w) (base := base) T)) (hr.mono (by first | decide | omega)) takes0 (gl_of (by kernel_rfl)) T.d_setting.m T.d_setting.F.kp T.d_setting.b (a_cons (e_v 1 rfl (.inr (.inl (by kernel_rfl)))) (a_cons (e_v 5 rfl (.inl (by kernel_rfl))) a_nil)))))) (g_nm (i := 2) sc__law_told_right.nd rfl (.inl (by kernel_rfl)) (.inl rfl)) calm_nm) (s_cons (s_asg (e_add (fr := false) (e_v 3 rfl (.inl (by kernel_rfl))) (e_lst (a_cons (e_tup (a_cons e_int (a_cons e_int a_nil))) (a_cons e_bl (a_cons e_bl (a_cons e_bl (a_cons (e_tup (a_cons e_int (a_cons e_int a_nil))) (a_cons (e_tup (a_cons e_int (a_cons e_int a_nil))) (a_cons (e_tup (a_cons e_int (a_cons e_int a_nil))) (a_cons (e_tup (a_cons e_int (a_cons e_int a_nil))) a_nil)))))))))) (g_nm (i := 3) sc__law_told_right.nd rfl (.inl (by kernel_rfl)) (.inl rfl)) calm_nm) (s_cons (s_asg (e_add (fr := false) (e_v 2 rfl (.inl (by kernel_rfl))) (e_lcv 100000 false [6, 7] rfl sc__law_told_right.nd (blkOk_by (own := [("word", 6), ("leg", 7)]) (N := ["lone", "pair", "got", "due", "near", "own", "word", "leg"]) (sc := defScope (topS 75)) (by decide +kernel)) (by decide) (i_tup (e_tup (a_cons (e_tup (a_cons e_str (a_cons e_str a_nil))) (a_cons (e_tup (a_cons e_str (a_cons e_str a_nil))) (a_cons (e_tup (a_cons e_str (a_cons e_str a_nil))) (a_cons (e_tup (a_cons e_str (a_cons e_str a_nil))) (a_cons (e_tup (a_cons e_str (a_cons e_str a_nil))) (a_cons (e_tup (a_cons e_str (a_cons e_str a_nil))) a_nil)))))))) (fun s H C cl fp => (g_tp (n := 2) rfl (g_c (g_nm (i := 6) sc__law_told_right.nd rfl (.inl (by kernel_rfl)) (.inr (by kernel_rfl))) (g_c (g_nm (i := 7) sc__law_told_right.nd rfl (.inl (by kernel_rfl)) (.inr (by kernel_rfl))) g_n0)))) (fun s H C cl fp => ts_nil) (fun s H C cl fp => (e_call (fok_afresh (ok_setting (P := P) (w := w) (base := base) T)) (hr.mono (by first | decide | omega)) takes0 (gl_of (by kernel_rfl)) T.d_setting.m T.d_setting.F.kp T.d_setting.b (a_cons (e_v 1 rfl (.inr (.inl (by kernel_rfl)))) (a_cons (e_tup (a_cons (e_v 6 rfl (.inl (by kernel_rfl))) (a_cons (e_v 7 rfl (.inl (by kernel_rfl))) a_nil))) a_nil)))))) (g_nm (i := 2) sc__law_told_right.nd rfl (.inl (by kernel_rfl)) (.inl rfl)) calm_nm) (s_cons (s_asg (e_add (fr := false) (e_v 3 rfl (.inl (by kernel_rfl))) (e_lst (a_cons (e_tup (a_cons e_int (a_cons e_int a_nil))) (a_cons (e_tup (a_cons e_int (a_cons e_int a_nil))) (a_cons (e_tup (a_cons e_int (a_cons e_int a_nil))) (a_cons e_non (a_cons (e_tup (a_cons e_int (a_cons e_int a_nil))) (a_cons (e_tup (a_cons e_int (a_cons e_int a_nil))) a_nil)))))))) (g_nm (i := 3) sc__law_told_right.nd rfl (.inl (by kernel_rfl)) (.inl rfl)) calm_nm) (s_cons (s_asg (e_add (fr := false) (e_v 2 rfl (.inl (by kernel_rfl))) (e_lst (a_cons (e_call (ok_longest_belief (P := P) (w := w) (base := base) T) (hr.mono (by first | decide | omega)) (takes_of rfl rfl rfl rfl) (gl_of (by kernel_rfl)) T.d_longest_belief.m T.d_longest_belief.F.kp T.d_longest_belief.b (a_cons (e_v 1 rfl (.inr (.inl (by kernel_rfl)))) a_nil)) (a_cons (e_call (ok_shortest_keep (P := P) (w := w) (base := base) T) (hr.mono (by first | decide | omega)) (takes_of rfl rfl rfl rfl) (gl_of (by kernel_rfl)) T.d_shortest_keep.m T.d_shortest_keep.F.kp T.d_shortest_keep.b (a_cons (e_v 1 rfl (.inr (.inl (by kernel_rfl)))) (a_cons e_int a_nil))) (a_cons (e_call (ok_shortest_keep (P := P) (w := w) (base := base) T) (hr.mono (by first | decide | omega)) (takes_of rfl rfl rfl rfl) (gl_of (by kernel_rfl)) T.d_shortest_keep.m T.d_shortest_keep.F.kp T.d_shortest_keep.b (a_cons (e_v 1 rfl (.inr (.inl (by kernel_rfl)))) (a_cons e_int a_nil))) (a_cons (e_call (ok_can_hold (P := P) (w := w) (base := base) T) (hr.mono (by first | decide | omega)) (takes_of rfl rfl rfl rfl) (gl_of (by kernel_rfl)) T.d_can_hold.m T.d_can_hold.F.kp T.d_can_hold.b (a_cons (e_v 1 rfl (.inr (.inl (by kernel_rfl)))) a_nil)) (a_cons (e_len (gl_of (by kernel_rfl)) T.n_len (a_cons (e_call (fok_afresh (ok_settings (P := P) (w := w) (base := base) T)) (hr.mono (by first | decide | omega)) (takes_of rfl rfl rfl rfl) (gl_of (by kernel_rfl)) T.d_settings.m T.d_settings.F.kp T.d_settings.b (a_cons (e_v 1 rfl (.inr (.inl (by kernel_rfl)))) a_nil)) a_nil)) (a_cons (e_len (gl_of (by kernel_rfl)) T.n_len (a_cons (e_call (fok_afresh (ok_times_of (P := P) (w := w) (base := base) T)) (hr.mono (by first | decide | omega)) (takes_of rfl rfl rfl rfl) (gl_of (by kernel_rfl)) T.d_times_of.m T.d_times_of.F.kp T.d_times_of.b (a_cons (e_v 1 rfl (.inr (.inl (by kernel_rfl)))) a_nil)) a_nil)) a_nil)))))))) (g_nm (i := 2) sc__law_told_right.nd rfl (.inl (by kernel_rfl)) (.inl rfl)) calm_nm) (s_cons (s_asg (e_add (fr := false) (e_v 3 rfl (.inl (by kernel_rfl))) (e_lst (a_cons (e_tup (a_cons e_int (a_cons e_int a_nil))) (a_cons (e_tup (a_cons e_int (a_cons e_int a_nil))) (a_cons e_non (a_cons e_bl (a_cons e_int (a_cons e_int a_nil)))))))) (g_nm (i := 3) sc__law_told_right.nd rfl (.inl (by kernel_rfl)) (.inl rfl)) calm_nm) (s_cons (s_lcv (i := 4) 100000 false [5] rfl sc__law_told_right.nd rfl rfl (sw_true rfl rfl rfl (by decide +kernel)) (blkOk_by (own := [("own", 5)]) (N := ["lone", "pair", "got", "due", "near", "own", "word", "leg"]) (sc := defScope (topS 75)) (by decide +kernel)) (by decide) (i_tup (e_tup (a_cons (e_tup (a_cons e_int (a_cons e_int a_nil))) (a_cons (e_tup (a_cons e_int (a_cons e_int a_nil))) (a_cons (e_tup (a_cons e_int (a_cons e_int a_nil))) a_nil))))) (fun s H C cl fp => (g_nm (i := 5) sc__law_told_right.nd rfl (.inl (by kernel_rfl)) (.inr (by kernel_rfl)))) (fun s H C cl fp => ts_nil) (fun s H C cl fp => (e_call (fok_afresh (ok_changed (P := P) (w := w) (base := base) T)) (hr.mono (by first | decide | omega)) takes0 (gl_of (by kernel_rfl)) T.d_changed.m T.d_changed.F.kp T.d_changed.b (a_cons (e_v 0 rfl (.inr (.inl (by kernel_rfl)))) (a_cons (e_tup (a_cons e_str a_nil)) (a_cons (e_v 5 rfl (.inl (by kernel_rfl))) a_nil)))))) (s_cons (s_asg (e_add (fr := false) (e_add (fr := false) (e_v 2 rfl (.inl (by kernel_rfl))) (e_lcv 100000 false [5] rfl sc__law_told_right.nd (blkOk_by (own := [("own", 5)]) (N := ["lone", "pair", "got", "due", "near", "own", "word", "leg"]) (sc := defScope (topS 75)) (by decide +kernel)) (by decide) (i_lst (e_v 4 rfl (.inl (by kernel_rfl)))) (fun s H C cl fp => (g_nm (i := 5) sc__law_told_right.nd rfl (.inl (by kernel_rfl)) (.inr (by kernel_rfl)))) (fun s H C cl fp => ts_nil) (fun s H C cl fp => (e_call (ok_can_hold (P := P) (w := w) (base := base) T) (hr.mono (by first | decide | omega)) takes0 (gl_of (by kernel_rfl)) T.d_can_hold.m T.d_can_hold.F.kp T.d_can_hold.b (a_cons (e_v 5 rfl (.inl (by kernel_rfl))) a_nil))))) (e_lst (a_cons (e_call (ok_can_hold (P := P) (w := w) (base := base) T) (hr.mono (by first | decide | omega)) (takes_of rfl rfl rfl rfl) (gl_of (by kernel_rfl)) T.d_can_hold.m T.d_can_hold.F.kp T.d_can_hold.b (a_cons (e_call (fok_afresh (ok_changed (P := P) (w := w) (base := base) T)) (hr.mono (by first | decide | omega)) (takes_of rfl rfl rfl rfl) (gl_of (by kernel_rfl)) T.d_changed.m T.d_changed.F.kp T.d_changed.b (a_cons (e_ix (e_v 4 rfl (.inl (by kernel_rfl))) e_int) (a_cons (e_tup (a_cons e_str a_nil)) (a_cons e_str a_nil)))) a_nil)) (a_cons (e_call (ok_can_hold (P := P) (w := w) (base := base) T) (hr.mono (by first | decide | omega)) (takes_of rfl rfl rfl rfl) (gl_of (by kernel_rfl)) T.d_can_hold.m T.d_can_hold.F.kp T.d_can_hold.b (a_cons (e_call (fok_afresh (ok_changed (P := P) (w := w) (base := base) T)) (hr.mono (by first | decide | omega)) (takes_of rfl rfl rfl rfl) (gl_of (by kernel_rfl)) T.d_changed.m T.d_changed.F.kp T.d_changed.b (a_cons (e_ix (e_v 4 rfl (.inl (by kernel_rfl))) e_int) (a_cons (e_tup (a_cons e_str a_nil)) (a_cons (e_tup (a_cons e_str a_nil)) a_nil)))) a_nil)) a_nil)))) (g_nm (i := 2) sc__law_told_right.nd rfl (.inl (by kernel_rfl)) (.inl rfl)) calm_nm) (s_cons (s_asg (e_add (fr := false) (e_v 2 rfl (.inl (by kernel_rfl))) (e_lst (a_cons (e_call (ok_can_hold (P := P) (w := w) (base := base) T) (hr.mono (by first | decide | omega)) (takes_of rfl rfl rfl rfl) (gl_of (by kernel_rfl)) T.d_can_hold.m T.d_can_hold.F.kp T.d_can_hold.b (a_cons (e_call (fok_afresh (ok_changed (P := P) (w := w) (base := base) T)) (hr.mono (by first | decide | omega)) (takes_of rfl rfl rfl rfl) (gl_of (by kernel_rfl)) T.d_changed.m T.d_changed.F.kp T.d_changed.b (a_cons (e_ix (e_v 4 rfl (.inl (by kernel_rfl))) e_int) (a_cons (e_tup (a_cons e_str a_nil)) (a_cons (e_tup (a_cons e_str (a_cons e_str (a_cons e_str a_nil)))) a_nil)))) a_nil)) (a_cons (e_call (ok_can_hold (P := P) (w := w) (base := base) T) (hr.mono (by first | decide | omega)) (takes_of rfl rfl rfl rfl) (gl_of (by kernel_rfl)) T.d_can_hold.m T.d_can_hold.F.kp T.d_can_hold.b (a_cons (e_call (fok_afresh (ok_changed (P := P) (w := w) (base := base) T)) (hr.mono (by first | decide | omega)) (takes_of rfl rfl rfl rfl) (gl_of (by kernel_rfl)) T.d_changed.m T.d_changed.F.kp T.d_changed.b (a_cons (e_ix (e_v 4 rfl (.inl (by kernel_rfl))) e_int) (a_cons (e_tup (a_cons e_str (a_cons e_str a_nil))) (a_cons (e_tup (a_cons e_int (a_cons e_int a_nil))) a_nil)))) a_nil)) a_nil)))) (g_nm (i := 2) sc__law_told_right.nd rfl (.inl (by kernel_rfl)) (.inl rfl)) calm_nm) (s_one (s_ret (e_call (ok__law_same (P := P) (w := w) (base := base) T 12) (hr.mono (by first | decide | omega)) (takes_of rfl rfl rfl rfl) (gl_of (by kernel_rfl)) T.d__law_same.m T.d__law_same.F.kp T.d__law_same.b (a_cons (e_v 2 rfl (.inl (by kernel_rfl))) (a_cons (e_add (fr := false) (e_v 3 rfl (.inl (by kernel_rfl))) (e_lst (a_cons e_bl (a_cons e_bl (a_cons e_bl (a_cons e_bl (a_cons e_bl (a_cons e_bl (a_cons e_bl a_nil))))))))) a_nil))))))))))))))))))))
/-! _law_changed_right -/
theorem sc__law_changed_right : FnScope ["lone", "pair", "got", "due", "twice", "legs", "ways", "wider", "short", "unlike", "path", "own"] [] (defScope (topS 76)) := ⟨rfl, rfl, rfl, by decide +kernel, rfl, by decide +kernel, by decide +kernel⟩
def b__law_changed_right : MS := (sSeq (sAsg (mTup (mCons (fun _ s => r__law_lone [] s) (mCons (fun _ s => r__law_pair [] s) mNil))) (gTp 2 (gC (gNm 0) (gC (gNm 1) gN0)))) (sSeq (sAsg (mLst (mCons (mCall (ar 3 (afresh r_changed)) (mCons (mVar 0) (mCons (mTup (mCons (mC (.str "lots")) mNil)) (mCons (mTup (mCons (mTup (mCons (mC (.int 0)) mNil)) mNil)) mNil)))) (mCons (mCall (ar 3 (afresh r_changed)) (mCons (mVar 0) (mCons (mTup (mCons (mC (.str "term")) mNil)) (mCons (mTup (mCons (mC (.int 7)) (mCons (mC (.int 3)) mNil))) mNil)))) (mCons (mCall (ar 3 (afresh r_changed)) (mCons (mVar 1) (mCons (mTup (mCons (mC (.str "record")) (mCons (mC (.int 1)) mNil))) (mCons (mC (.str "all")) mNil)))) (mCons (mCall (ar 3 (afresh r_changed)) (mCons (mVar 1) (mCons (mTup (mCons (mC (.str "asks")) (mCons (mC (.int 1)) mNil))) (mCons (mC (.bl true)) mNil)))) mNil))))) (gNm 2)) (sSeq (sAsg (mLst (mCons (mVar 0) (mCons (mCall (ar 3 (r__law_put 12)) (mCons (mVar 0) (mCons (mTup (mCons (mC (.int 4)) (mCons (mC (.int 0)) mNil))) (mCons (mTup (mCons (mC (.int 7)) (mCons (mC (.int 3)) mNil))) mNil)))) (mCons (mCall (ar 3 (r__law_put 12)) (mCons (mVar 1) (mCons (mTup (mCons (mC (.int 1)) (mCons (mC (.int 1)) (mCons (mC (.int 1)) mNil)))) (mCons (mC (.str "all")) mNil)))) (mCons (mCall (ar 3 (r__law_put 12)) (mCons (mVar 1) (mCons (mTup (mCons (mC (.int 5)) (mCons (mC (.int 1)) (mCons (mC (.int 0)) mNil)))) (mCons (mC (.bl true)) mNil)))) mNil))))) (gNm 3)) (sSeq (sAsg (mBin (gAdd false) (mVar 2) (mLst (mCons (mCall (ar 3 (afresh r_changed)) (mCons (mVar 1) (mCons (mTup (mCons (mC (.str "fast")) (mCons (mC (.str "keeper")) mNil))) (mCons (mTup (mCons (mC (.int 2)) (mCons (mC (.int 1)) mNil))) mNil)))) (mCons (mCall (ar 3 (afresh r_changed)) (mCons (mVar 1) (mCons (mTup (mCons (mC (.str "most")) (mCons (mC (.str "deed")) mNil))) (mCons (mC .non) mNil)))) (mCons (mCall (ar 3 (afresh r_changed)) (mCons (mVar 1) (mCons (mTup (mCons (mC (.str "faults")) mNil)) (mCons (mTup mNil) mNil)))) (mCons (mCall (ar 3 (afresh r_changed)) (mCons (mVar 0) (mCons (mTup (mCons (mC (.str "sealed")) mNil)) (mCons (mC (.bl true)) mNil)))) mNil)))))) (gNm 2)) (sSeq (sAsg (mBin (gAdd false) (mVar 3) (mLst (mCons (mCall (ar 3 (r__law_put 12)) (mCons (mVar 1) (mCons (mTup (mCons (mC (.int 2)) (mCons (mC (.int 1)) (mCons (mC (.int 1)) mNil)))) (mCons (mTup (mCons (mC (.int 2)) (mCons (mC (.int 1)) mNil))) mNil)))) (mCons (mCall (ar 3 (r__law_put 12)) (mCons (mVar 1) (mCons (mTup (mCons (mC (.int 3)) (mCons (mC (.int 2)) (mCons (mC (.int 1)) mNil)))) (mCons (mC .non) mNil)))) (mCons (mCall (ar 3 (r__law_put 12)) (mCons (mVar 1) (mCons (mTup (mCons (mC (.int 6)) mNil)) (mCons (mTup mNil) mNil)))) (mCons (mCall (ar 3 (r__law_put 12)) (mCons (mVar 0) (mCons (mTup (mCons (mC (.int 4)) (mCons (mC (.int 4)) mNil))) (mCons (mC (.bl true)) mNil)))) mNil)))))) (gNm 3)) (sSeq (sAsg (mBin (gAdd false) (mVar 2) (mLst (mCons (mCall (ar 2 (afresh r_scaled)) (mCons (mVar 1) (mCons (mTup (mCons (mC (.int 2)) (mCons (mC (.int 3)) mNil))) mNil))) (mCons (mCall (ar 2 (afresh r_scaled)) (mCons (mVar 0) (mCons (mTup (mCons (mC (.int 1)) (mCons (mC (.int 1)) mNil))) mNil))) (mCons (mSl false (mCall (ar 2 (afresh r_scaled)) (mCons (mVar 0) (mCons (mTup (mCons (mC (.int 10)) (mCons (mC (.int 1)) mNil))) mNil))) (mPS (mC (.int 1))) (mPS (mC (.int 5)))) mNil))))) (gNm 2)) (sSeq (sAsg (mCall (ar 3 (r__law_put 12)) (mCons (mCall (ar 3 (r__law_put 12)) (mCons (mVar 1) (mCons (mTup (mCons (mC (.int 1)) (mCons (mC (.int 0)) (mCons (mC (.int 0)) mNil)))) (mCons (mTup (mCons (mC (.int 16)) (mCons (mC (.int 3)) mNil))) mNil)))) (mCons (mTup (mCons (mC (.int 1)) (mCons (mC (.int 1)) (mCons (mC (.int 2)) mNil)))) (mCons (mTup (mCons (mC (.int 5)) (mCons (mC (.int 3)) mNil))) mNil)))) (gNm 4)) (sSeq (sAsg (mCall (ar 3 (r__law_put 12)) (mCons (mVar 4) (mCons (mTup (mCons (mC (.int 3)) mNil)) (mCons (mTup (mCons (mTup (mCons (mTup (mCons (mC (.int 2)) (mCons (mC (.int 3)) mNil))) (mCons (mTup (mCons (mC (.int 4)) (mCons (mC (.int 3)) mNil))) mNil))) (mCons (mTup (mCons (mTup (mCons (mC (.int 1)) (mCons (mC (.int 3)) mNil))) (mCons (mC .non) mNil))) (mCons (mTup (mCons (mTup (mCons (mC (.int 1)) (mCons (mC (.int 2)) mNil))) (mCons (mTup (mCons (mC (.int 1)) (mCons (mC (.int 2)) mNil))) mNil))) (mCons (mTup (mCons (mTup (mCons (mC (.int 10)) (mCons (mC (.int 9)) mNil))) (mCons (mTup (mCons (mC (.int 7)) (mCons (mC (.int 3)) mNil))) mNil))) mNil))))) mNil)))) (gNm 4)) (sSeq (sAsg (mTup (mCons (mTup (mCons (mTup (mCons (mC (.int 10)) (mCons (mC (.int 1)) mNil))) (mCons (mTup (mCons (mC (.int 20)) (mCons (mC (.int 1)) mNil))) mNil))) (mCons (mTup (mCons (mTup (mCons (mC (.int 10)) (mCons (mC (.int 1)) mNil))) (mCons (mTup (mCons (mC (.int 20)) (mCons (mC (.int 1)) mNil))) mNil))) (mCons (mTup (mCons (mTup (mCons (mC (.int 10)) (mCons (mC (.int 1)) mNil))) (mCons (mTup (mCons (mC (.int 30)) (mCons (mC (.int 1)) mNil))) mNil))) (mCons (mTup (mCons (mTup (mCons (mC (.int 10)) (mCons (mC (.int 1)) mNil))) (mCons (mC .non) mNil))) mNil))))) (gNm 5)) (sSeq (sAsg (mBin (gAdd false) (mVar 3) (mLst (mCons (mCall (ar 3 (r__law_put 12)) (mCons (mVar 4) (mCons (mTup (mCons (mC (.int 4)) (mCons (mC (.int 0)) mNil))) (mCons (mTup (mCons (mC (.int 3)) (mCons (mC (.int 1)) mNil))) mNil)))) (mCons (mVar 0) (mCons (mTup (mCons (mTup (mCons (mTup (mCons (mTup (mCons (mC (.int 80)) (mCons (mC (.int 1)) mNil))) (mCons (mC (.str "all")) (mCons (mTup (mCons (mC (.int 0)) (mCons (mC (.int 1)) mNil))) mNil)))) mNil)) (mCons (mBin gIx (mVar 0) (mC (.int 2))) (mCons (mVar 5) (mCons (mTup (mCons (mTup (mCons (mC (.int 100)) (mCons (mC (.int 1)) mNil))) (mCons (mC (.str "sent")) (mCons (mTup (mCons (mC (.int 0)) (mCons (mC (.int 1)) mNil))) (mCons (mC (.str "once")) (mCons (mC (.bl false)) mNil)))))) mNil))))) mNil))))) (gNm 3)) (sSeq (sAsg (mLst (mCons (mTup (mCons (mTup (mCons (mC (.int 2)) (mCons (mC (.int 0)) (mCons (mC (.int 0)) mNil)))) (mCons (mTup (mCons (mC (.int 1)) (mCons (mC (.int 2)) mNil))) mNil))) (mCons (mTup (mCons (mTup (mCons (mC (.int 2)) (mCons (mC (.int 1)) (mCons (mC (.int 0)) mNil)))) (mCons (mTup (mCons (mC (.int 1)) (mCons (mC (.int 2)) mNil))) mNil))) (mCons (mTup (mCons (mTup (mCons (mC (.int 2)) (mCons (mC (.int 0)) (mCons (mC (.int 1)) mNil)))) (mCons (mTup (mCons (mC (.int 2)) (mCons (mC (.int 1)) mNil))) mNil))) (mCons (mTup (mCons (mTup (mCons (mC (.int 2)) (mCons (mC (.int 1)) (mCons (mC (.int 1)) mNil)))) (mCons (mTup (mCons (mC (.int 2)) (mCons (mC (.int 1)) mNil))) mNil))) (mCons (mTup (mCons (mTup (mCons (mC (.int 3)) (mCons (mC (.int 0)) (mCons (mC (.int 0)) mNil)))) (mCons (mTup (mCons (mC (.int 1)) (mCons (mC (.int 2)) mNil))) mNil))) (mCons (mTup (mCons (mTup (mCons (mC (.int 3)) (mCons (mC (.int 0)) (mCons (mC (.int 1)) mNil)))) (mCons (mC .non) mNil))) (mCons (mTup (mCons (mTup (mCons (mC (.int 3)) (mCons (mC (.int 1)) (mCons (mC (.int 0)) mNil)))) (mCons (mTup (mCons (mC (.int 1)) (mCons (mC (.int 3)) mNil))) mNil))) mNil)))))))) (gNm 6)) (sSeq (sAsg (mBin (gAdd false) (mVar 6) (mLst (mCons (mTup (mCons (mTup (mCons (mC (.int 3)) (mCons (mC (.int 1)) (mCons (mC (.int 1)) mNil)))) (mCons (mTup (mCons (mC (.int 9)) (mCons (mC (.int 1)) mNil))) mNil))) (mCons (mTup (mCons (mTup (mCons (mC (.int 3)) (mCons (mC (.int 2)) (mCons (mC (.int 0)) mNil)))) (mCons (mTup (mCons (mC (.int 1)) (mCons (mC (.int 5)) mNil))) mNil))) (mCons (mTup (mCons (mTup (mCons (mC (.int 3)) (mCons (mC (.int 2)) (mCons (mC (.int 1)) mNil)))) (mCons (mC .non) mNil))) (mCons (mTup (mCons (mTup (mCons (mC (.int 3)) (mCons (mC (.int 3)) (mCons (mC (.int 0)) mNil)))) (mCons (mTup (mCons (mC (.int 1)) (mCons (mC (.int 2)) mNil))) mNil))) (mCons (mTup (mCons (mTup (mCons (mC (.int 4)) (mCons (mC (.int 2)) mNil))) (mCons (mTup (mCons (mC (.int 1)) (mCons (mC (.int 1)) mNil))) mNil))) (mCons (mTup (mCons (mTup (mCons (mC (.int 4)) (mCons (mC (.int 2)) mNil))) (mCons (mC .non) mNil))) mNil)))))))) (gNm 6)) (sSeq (sAsg (mLc 100000 false (iLst (mVar 6)) [10, 11] (gTp 2 (gC (gNm 10) (gC (gNm 11) gN0))) mYes (mCall (ar 3 (r__law_put 12)) (mCons (mVar 0) (mCons (mVar 10) (mCons (mVar 11) mNil))))) (gNm 7)) (sSeq (sAsg (mBin (gAdd false) (mBin (gAdd false) (mBin (gAdd false) (mVar 2) (mLc 100000 false (iLst (mVar 7)) [11] (gNm 11) mYes (mCall (ar 2 r_covers) (mCons (mVar 0) (mCons (mVar 11) mNil))))) (mLc 100000 false (iLst (mVar 7)) [11] (gNm 11) mYes (mCall (ar 2 r_covers) (mCons (mVar 11) (mCons (mVar 0) mNil))))) (mLc 100000 false (iLst (mVar 7)) [11] (gNm 11) mYes (mCall (ar 2 r_same_but_times) (mCons (mVar 0) (mCons (mVar 11) mNil))))) (gNm 2)) (sSeq (sAsg (mBin (gAdd false) (mBin (gAdd false) (mBin (gAdd false) (mVar 3) (mBin (gMul false) (mLst (mCons (mC (.bl true)) mNil)) (mC (.int 13)))) (mBin (gMul false) (mLst (mCons (mC (.bl false)) mNil)) (mC (.int 13)))) (mBin (gMul false) (mLst (mCons (mC (.bl true)) mNil)) (mC (.int 13)))) (gNm 3)) (sSeq (sAsg (mCall (ar 3 (r__law_put 12)) (mCons (mVar 0) (mCons (mTup (mCons (mC (.int 4)) (mCons (mC (.int 0)) mNil))) (mCons (mTup (mCons (mC (.int 1)) (mCons (mC (.int 1)) mNil))) mNil)))) (gNm 8)) (sSeq (sAsg (mLst (mCons (mTup (mCons (mTup (mCons (mC (.int 3)) (mCons (mC (.int 2)) (mCons (mC (.int 1)) mNil)))) (mCons (mC .non) mNil))) (mCons (mTup (mCons (mTup (mCons (mC (.int 3)) (mCons (mC (.int 3)) (mCons (mC (.int 0)) mNil)))) (mCons (mTup (mCons (mC (.int 1)) (mCons (mC (.int 2)) mNil))) mNil))) (mCons (mTup (mCons (mTup (mCons (mC (.int 4)) (mCons (mC (.int 2)) mNil))) (mCons (mC .non) mNil))) (mCons (mTup (mCons (mTup (mCons (mC (.int 3)) (mCons (mC (.int 1)) (mCons (mC (.int 1)) mNil)))) (mCons (mTup (mCons (mC (.int 9)) (mCons (mC (.int 1)) mNil))) mNil))) (mCons (mTup (mCons (mTup (mCons (mC (.int 2)) (mCons (mC (.int 0)) (mCons (mC (.int 0)) mNil)))) (mCons (mTup (mCons (mC (.int 2)) (mCons (mC (.int 3)) mNil))) mNil))) (mCons (mTup (mCons (mTup (mCons (mC (.int 2)) (mCons (mC (.int 0)) (mCons (mC (.int 0)) mNil)))) (mCons (mTup (mCons (mC (.int 1)) (mCons (mC (.int 3)) mNil))) mNil))) mNil))))))) (gNm 6)) (sSeq (sAsg (mBin (gAdd false) (mVar 2) (mLst (mCons (mLc 100000 false (iLst (mVar 6)) [10, 11] (gTp 2 (gC (gNm 10) (gC (gNm 11) gN0))) mYes (mCall (ar 2 r_covers) (mCons (mCall (ar 3 (r__law_put 12)) (mCons (mVar 8) (mCons (mVar 10) (mCons (mVar 11) mNil)))) (mCons (mVar 8) mNil)))) (mCons (mCall (ar 2 r_covers) (mCons (mVar 0) (mCons (mVar 0) mNil))) mNil)))) (gNm 2)) (sSeq (sAsg (mBin (gAdd false) (mVar 3) (mLst (mCons (mLst (mCons (mC (.bl true)) (mCons (mC (.bl true)) (mCons (mC (.bl true)) (mCons (mC (.bl false)) (mCons (mC (.bl false)) (mCons (mC (.bl false)) mNil))))))) (mCons (mC (.bl true)) mNil)))) (gNm 3)) (sSeq (sAsg (mLst (mCons (mTup (mCons (mTup (mCons (mC (.int 4)) (mCons (mC (.int 0)) mNil))) (mCons (mTup (mCons (mC (.int 9)) (mCons (mC (.int 1)) mNil))) mNil))) (mCons (mTup (mCons (mTup (mCons (mC (.int 1)) (mCons (mC (.int 0)) (mCons (mC (.int 0)) mNil)))) (mCons (mTup (mCons (mC (.int 9)) (mCons (mC (.int 1)) mNil))) mNil))) (mCons (mTup (mCons (mTup (mCons (mC (.int 1)) (mCons (mC (.int 0)) (mCons (mC (.int 2)) mNil)))) (mCons (mTup (mCons (mC (.int 1)) (mCons (mC (.int 1)) mNil))) mNil))) (mCons (mTup (mCons (mTup (mCons (mC (.int 4)) (mCons (mC (.int 1)) mNil))) (mCons (mC (.str "taken")) mNil))) (mCons (mTup (mCons (mTup (mCons (mC (.int 4)) (mCons (mC (.int 3)) mNil))) (mCons (mC (.str "waits")) mNil))) (mCons (mTup (mCons (mTup (mCons (mC (.int 4)) (mCons (mC (.int 4)) mNil))) (mCons (mC (.bl true)) mNil))) (mCons (mTup (mCons (mTup (mCons (mC (.int 5)) (mCons (mC (.int 0)) (mCons (mC (.int 0)) mNil)))) (mCons (mC (.bl false)) mNil))) (mCons (mTup (mCons (mTup (mCons (mC (.int 6)) mNil)) (mCons (mTup (mCons (mC (.str "revives")) mNil)) mNil))) mNil))))))))) (gNm 9)) (sSeq (sAsg (mBin (gAdd false) (mBin (gAdd false) (mVar 2) (mLc 100000 false (iLst (mVar 9)) [10, 11] (gTp 2 (gC (gNm 10) (gC (gNm 11) gN0))) mYes (mCall (ar 2 r_same_but_times) (mCons (mVar 0) (mCons (mCall (ar 3 (r__law_put 12)) (mCons (mVar 0) (mCons (mVar 10) (mCons (mVar 11) mNil)))) mNil))))) (mLst (mCons (mCall (ar 2 r_same_but_times) (mCons (mVar 0) (mCons (mVar 1) mNil))) (mCons (mCall (ar 2 r_same_but_times) (mCons (mVar 1) (mCons (mVar 1) mNil))) mNil)))) (gNm 2)) (sRet (mCall (ar 2 (r__law_same 12)) (mCons (mVar 2) (mCons (mBin (gAdd false) (mBin (gAdd false) (mVar 3) (mBin (gMul false) (mLst (mCons (mC (.bl false)) mNil)) (mC (.int 9)))) (mLst (mCons (mC (.bl true)) mNil))) mNil)))))))))))))))))))))))))
def r__law_changed_right : GC := runB 12 b__law_changed_right
theorem ok__law_changed_right (T : Tx K mg base) : FOk P w K mg base 16 T.d__law_changed_right.f T.d__law_changed_right.fd [] r__law_changed_right := by
  refine fn_ok 12 T.d__law_changed_right.F sc__law_changed_right rfl fun cdv A outer s H E hr => ?_
  exact (s_cons (s_asg (e_tup (a_cons (e_call0 (ok__law_lone (P := P) (w := w) (base := base) T) (hr.mono (by first | decide | omega)) (takes_of rfl rfl rfl rfl) (gl_of (by kernel_rfl)) T.d__law_lone.m T.d__law_lone.F.kp T.d__law_lone.b) (a_cons (e_call0 (ok__law_pair (P := P) (w := w) (base := base) T) (hr.mono (by first | decide | omega)) (takes_of rfl rfl rfl rfl) (gl_of (by kernel_rfl)) T.d__law_pair.m T.d__law_pair.F.kp T.d__law_pair.b) a_nil))) (g_tp (n := 2) rfl (g_c (g_nm (i := 0) sc__law_changed_right.nd rfl (.inr (by kernel_rfl)) (.inl rfl)) (g_c (g_nm (i := 1) sc__law_changed_right.nd rfl (.inl (by kernel_rfl)) (.inl rfl)) g_n0))) (calm_tp (calm_c calm_nm (calm_c calm_nm calm_n0)))) (s_cons (s_asg (e_lst (a_cons (e_call (fok_afresh (ok_changed (P := P) (w := w) (base := base) T)) (hr.mono (by first | decide | omega)) (takes_of rfl rfl rfl rfl) (gl_of (by kernel_rfl)) T.d_changed.m T.d_changed.F.kp T.d_changed.b (a_cons (e_v 0 rfl (.inr (.inl (by kernel_rfl)))) (a_cons (e_tup (a_cons e_str a_nil)) (a_cons (e_tup (a_cons (e_tup (a_cons e_int a_nil)) a_nil)) a_nil)))) (a_cons (e_call (fok_afresh (ok_changed (P := P) (w := w) (base := base) T)) (hr.mono (by first | decide | omega)) (takes_of rfl rfl rfl rfl) (gl_of (by kernel_rfl)) T.d_changed.m T.d_changed.F.kp T.d_changed.b (a_cons (e_v 0 rfl (.inr (.inl (by kernel_rfl)))) (a_cons (e_tup (a_cons e_str a_nil)) (a_cons (e_tup (a_cons e_int (a_cons e_int a_nil))) a_nil)))) (a_cons (e_call (fok_afresh (ok_changed (P := P) (w := w) (base := base) T)) (hr.mono (by first | decide | omega)) (takes_of rfl rfl rfl rfl) (gl_of (by kernel_rfl)) T.d_changed.m T.d_changed.F.kp T.d_changed.b (a_cons (e_v 1 rfl (.inl (by kernel_rfl))) (a_cons (e_tup (a_cons e_str (a_cons e_int a_nil))) (a_cons e_str a_nil)))) (a_cons (e_call (fok_afresh (ok_changed (P := P) (w := w) (base := base) T)) (hr.mono (by first | decide | omega)) (takes_of rfl rfl rfl rfl) (gl_of (by kernel_rfl)) T.d_changed.m T.d_changed.F.kp T.d_changed.b (a_cons (e_v 1 rfl (.inl (by kernel_rfl))) (a_cons (e_tup (a_cons e_str (a_cons e_int a_nil))) (a_cons e_bl a_nil)))) a_nil))))) (g_nm (i := 2) sc__law_changed_right.nd rfl (.inl (by kernel_rfl)) (.inl rfl)) calm_nm) (s_cons (s_asg (e_lst (a_cons (e_v 0 rfl (.inr (.inl (by kernel_rfl)))) (a_cons (e_call (ok__law_put (P := P) (w := w) (base := base) T 12) (hr.mono (by first | decide | omega)) (takes_of rfl rfl rfl rfl) (gl_of (by kernel_rfl)) T.d__law_put.m T.d__law_put.F.kp T.d__law_put.b (a_cons (e_v 0 rfl (.inr (.inl (by kernel_rfl)))) (a_cons (e_tup (a_cons e_int (a_cons e_int a_nil))) (a_cons (e_tup (a_cons e_int (a_cons e_int a_nil))) a_nil)))) (a_cons (e_call (ok__law_put (P := P) (w := w) (base := base) T 12) (hr.mono (by first | decide | omega)) (takes_of rfl rfl rfl rfl) (gl_of (by kernel_rfl)) T.d__law_put.m T.d__law_put.F.kp T.d__law_put.b (a_cons (e_v 1 rfl (.inl (by kernel_rfl))) (a_cons (e_tup (a_cons e_int (a_cons e_int (a_cons e_int a_nil)))) (a_cons e_str a_nil)))) (a_cons (e_call (ok__law_put (P := P) (w := w) (base := base) T 12) (hr.mono (by first | decide | omega)) (takes_of rfl rfl rfl rfl) (gl_of (by kernel_rfl)) T.d__law_put.m T.d__law_put.F.kp T.d__law_put.b (a_cons (e_v 1 rfl (.inl (by kernel_rfl))) (a_cons (e_tup (a_cons e_int (a_cons e_int (a_cons e_int a_nil)))) (a_cons e_bl a_nil)))) a_nil))))) (g_nm (i := 3) sc__law_changed_right.nd rfl (.inl (by kernel_rfl)) (.inl rfl)) calm_nm) (s_cons (s_asg (e_add (fr := false) (e_v 2 rfl (.inl (by kernel_rfl))) (e_lst (a_cons (e_call (fok_afresh (ok_changed (P := P) (w := w) (base := base) T)) (hr.mono (by first | decide | omega)) (takes_of rfl rfl rfl rfl) (gl_of (by kernel_rfl)) T.d_changed.m T.d_changed.F.kp T.d_changed.b (a_cons (e_v 1 rfl (.inl (by kernel_rfl))) (a_cons (e_tup (a_cons e_str (a_cons e_str a_nil))) (a_cons (e_tup (a_cons e_int (a_cons e_int a_nil))) a_nil)))) (a_cons (e_call (fok_afresh (ok_changed (P := P) (w := w) (base := base) T)) (hr.mono (by first | decide | omega)) (takes_of rfl rfl rfl rfl) (gl_of (by kernel_rfl)) T.d_changed.m T.d_changed.F.kp T.d_changed.b (a_cons (e_v 1 rfl (.inl (by kernel_rfl))) (a_cons (e_tup (a_cons e_str (a_cons e_str a_nil))) (a_cons e_non a_nil)))) (a_cons (e_call (fok_afresh (ok_changed (P := P) (w := w) (base := base) T)) (hr.mono (by first | decide | omega)) (takes_of rfl rfl rfl rfl) (gl_of (by kernel_rfl)) T.d_changed.m T.d_changed.F.kp T.d_changed.b (a_cons (e_v 1 rfl (.inl (by kernel_rfl))) (a_cons (e_tup (a_cons e_str a_nil)) (a_cons (e_tup a_nil) a_nil)))) (a_cons (e_call (fok_afresh (ok_changed (P := P) (w := w) (base := base) T)) (hr.mono (by first | decide | omega)) (takes_of rfl rfl rfl rfl) (gl_of (by kernel_rfl)) T.d_changed.m T.d_changed.F.kp T.d_changed.b (a_cons (e_v 0 rfl (.inr (.inl (by kernel_rfl)))) (a_cons (e_tup (a_cons e_str a_nil)) (a_cons e_bl a_nil)))) a_nil)))))) (g_nm (i := 2) sc__law_changed_right.nd rfl (.inl (by kernel_rfl)) (.inl rfl)) calm_nm) (s_cons (s_asg (e_add (fr := false) (e_v 3 rfl (.inl (by kernel_rfl))) (e_lst (a_cons (e_call (ok__law_put (P := P) (w := w) (base := base) T 12) (hr.mono (by first | decide | omega)) (takes_of rfl rfl rfl rfl) (gl_of (by kernel_rfl)) T.d__law_put.m T.d__law_put.F.kp T.d__law_put.b (a_cons (e_v 1 rfl (.inl (by kernel_rfl))) (a_cons (e_tup (a_cons e_int (a_cons e_int (a_cons e_int a_nil)))) (a_cons (e_tup (a_cons e_int (a_cons e_int a_nil))) a_nil)))) (a_cons (e_call (ok__law_put (P := P) (w := w) (base := base) T 12) (hr.mono (by first | decide | omega)) (takes_of rfl rfl rfl rfl) (gl_of (by kernel_rfl)) T.d__law_put.m T.d__law_put.F.kp T.d__law_put.b (a_cons (e_v 1 rfl (.inl (by kernel_rfl))) (a_cons (e_tup (a_cons e_int (a_cons e_int (a_cons e_int a_nil)))) (a_cons e_non a_nil)))) (a_cons (e_call (ok__law_put (P := P) (w := w) (base := base) T 12) (hr.mono (by first | decide | omega)) (takes_of rfl rfl rfl rfl) (gl_of (by kernel_rfl)) T.d__law_put.m T.d__law_put.F.kp T.d__law_put.b (a_cons (e_v 1 rfl (.inl (by kernel_rfl))) (a_cons (e_tup (a_cons e_int a_nil)) (a_cons (e_tup a_nil) a_nil)))) (a_cons (e_call (ok__law_put (P := P) (w := w) (base := base) T 12) (hr.mono (by first | decide | omega)) (takes_of rfl rfl rfl rfl) (gl_of (by kernel_rfl)) T.d__law_put.m T.d__law_put.F.kp T.d__law_put.b (a_cons (e_v 0 rfl (.inr (.inl (by kernel_rfl)))) (a_cons (e_tup (a_cons e_int (a_cons e_int a_nil))) (a_cons e_bl a_nil)))) a_nil)))))) (g_nm (i := 3) sc__law_changed_right.nd rfl (.inl (by kernel_rfl)) (.inl rfl)) calm_nm) (s_cons (s_asg (e_add (fr := false) (e_v 2 rfl (.inl (by kernel_rfl))) (e_lst (a_cons (e_call (fok_afresh (ok_scaled (P := P) (w := w) (base := base) T)) (hr.mono (by first | decide | omega)) (takes_of rfl rfl rfl rfl) (gl_of (by kernel_rfl)) T.d_scaled.m T.d_scaled.F.kp T.d_scaled.b (a_cons (e_v 1 rfl (.inl (by kernel_rfl))) (a_cons (e_tup (a_cons e_int (a_cons e_int a_nil))) a_nil))) (a_cons (e_call (fok_afresh (ok_scaled (P := P) (w := w) (base := base) T)) (hr.mono (by first | decide | omega)) (takes_of rfl rfl rfl rfl) (gl_of (by kernel_rfl)) T.d_scaled.m T.d_scaled.F.kp T.d_scaled.b (a_cons (e_v 0 rfl (.inr (.inl (by kernel_rfl)))) (a_cons (e_tup (a_cons e_int (a_cons e_int a_nil))) a_nil))) (a_cons (e_sl (fr := false) (e_call (fok_afresh (ok_scaled (P := P) (w := w) (base := base) T)) (hr.mono (by first | decide | omega)) (takes_of rfl rfl rfl rfl) (gl_of (by kernel_rfl)) T.d_scaled.m T.d_scaled.F.kp T.d_scaled.b (a_cons (e_v 0 rfl (.inr (.inl (by kernel_rfl)))) (a_cons (e_tup (a_cons e_int (a_cons e_int a_nil))) a_nil))) (p_some e_int) (p_some e_int)) a_nil))))) (g_nm (i := 2) sc__law_changed_right.nd rfl (.inl (by kernel_rfl)) (.inl rfl)) calm_nm) (s_cons (s_asg (e_call (ok__law_put (P := P) (w := w) (base := base) T 12) (hr.mono (by first | decide | omega)) (takes_of rfl rfl rfl rfl) (gl_of (by kernel_rfl)) T.d__law_put.m T.d__law_put.F.kp T.d__law_put.b (a_cons (e_call (ok__law_put (P := P) (w := w) (base := base) T 12) (hr.mono (by first | decide | omega)) (takes_of rfl rfl rfl rfl) (gl_of (by kernel_rfl)) T.d__law_put.m T.d__law_put.F.kp T.d__law_put.b (a_cons (e_v 1 rfl (.inl (by kernel_rfl))) (a_cons (e_tup (a_cons e_int (a_cons e_int (a_cons e_int a_nil)))) (a_cons (e_tup (a_cons e_int (a_cons e_int a_nil))) a_nil)))) (a_cons (e_tup (a_cons e_int (a_cons e_int (a_cons e_int a_nil)))) (a_cons (e_tup (a_cons e_int (a_cons e_int a_nil))) a_nil)))) (g_nm (i := 4) sc__law_changed_right.nd rfl (.inl (by kernel_rfl)) (.inl rfl)) calm_nm) (s_cons (s_asg (e_call (ok__law_put (P := P) (w := w) (base := base) T 12) (hr.mono (by first | decide | omega)) (takes_of rfl rfl rfl rfl) (gl_of (by kernel_rfl)) T.d__law_put.m T.d__law_put.F.kp T.d__law_put.b (a_cons (e_v 4 rfl (.inl (by kernel_rfl))) (a_cons (e_tup (a_cons e_int a_nil)) (a_cons (e_tup (a_cons (e_tup (a_cons (e_tup (a_cons e_int (a_cons e_int a_nil))) (a_cons (e_tup (a_cons e_int (a_cons e_int a_nil))) a_nil))) (a_cons (e_tup (a_cons (e_tup (a_cons e_int (a_cons e_int a_nil))) (a_cons e_non a_nil))) (a_cons (e_tup (a_cons (e_tup (a_cons e_int (a_cons e_int a_nil))) (a_cons (e_tup (a_cons e_int (a_cons e_int a_nil))) a_nil))) (a_cons (e_tup (a_cons (e_tup (a_cons e_int (a_cons e_int a_nil))) (a_cons (e_tup (a_cons e_int (a_cons e_int a_nil))) a_nil))) a_nil))))) a_nil)))) (g_nm (i := 4) sc__law_changed_right.nd rfl (.inl (by kernel_rfl)) (.inl rfl)) calm_nm) (s_cons (s_asg (e_tup (a_cons (e_tup (a_cons (e_tup (a_cons e_int (a_cons e_int a_nil))) (a_cons (e_tup (a_cons e_int (a_cons e_int a_nil))) a_nil))) (a_cons (e_tup (a_cons (e_tup (a_cons e_int (a_cons e_int a_nil))) (a_cons (e_tup (a_cons e_int (a_cons e_int a_nil))) a_nil))) (a_cons (e_tup (a_cons (e_tup (a_cons e_int (a_cons e_int a_nil))) (a_cons (e_tup (a_cons e_int (a_cons e_int a_nil))) a_nil))) (a_cons (e_tup (a_cons (e_tup (a_cons e_int (a_cons e_int a_nil))) (a_cons e_non a_nil))) a_nil))))) (g_nm (i := 5) sc__law_changed_right.nd rfl (.inl (by kernel_rfl)) (.inl rfl)) calm_nm) (s_cons (s_asg (e_add (fr := false) (e_v 3 rfl (.inl (by kernel_rfl))) (e_lst (a_cons (e_call (ok__law_put (P := P) (w := w) (base := base) T 12) (hr.mono (by first | decide | omega)) (takes_of rfl rfl rfl rfl) (gl_of (by kernel_rfl)) T.d__law_put.m T.d__law_put.F.kp T.d__law_put.b (a_cons (e_v 4 rfl (.inl (by kernel_rfl))) (a_cons (e_tup (a_cons e_int (a_cons e_int a_nil))) (a_cons (e_tup (a_cons e_int (a_cons e_int a_nil))) a_nil)))) (a_cons (e_v 0 rfl (.inr (.inl (by kernel_rfl)))) (a_cons (e_tup (a_cons (e_tup (a_cons (e_tup (a_cons (e_tup (a_cons e_int (a_cons e_int a_nil))) (a_cons e_str (a_cons (e_tup (a_cons e_int (a_cons e_int a_nil))) a_nil)))) a_nil)) (a_cons (e_ix (e_v 0 rfl (.inr (.inl (by kernel_rfl)))) e_int) (a_cons (e_v 5 rfl (.inl (by kernel_rfl))) (a_cons (e_tup (a_cons (e_tup (a_cons e_int (a_cons e_int a_nil))) (a_cons e_str (a_cons (e_tup (a_cons e_int (a_cons e_int a_nil))) (a_cons e_str (a_cons e_bl a_nil)))))) a_nil))))) a_nil))))) (g_nm (i := 3) sc__law_changed_right.nd rfl (.inl (by kernel_rfl)) (.inl rfl)) calm_nm) (s_cons (s_asg (e_lst (a_cons (e_tup (a_cons (e_tup (a_cons e_int (a_cons e_int (a_cons e_int a_nil)))) (a_cons (e_tup (a_cons e_int (a_cons e_int a_nil))) a_nil))) (a_cons (e_tup (a_cons (e_tup (a_cons e_int (a_cons e_int (a_cons e_int a_nil)))) (a_cons (e_tup (a_cons e_int (a_cons e_int a_nil))) a_nil))) (a_cons (e_tup (a_cons (e_tup (a_cons e_int (a_cons e_int (a_cons e_int a_nil)))) (a_cons (e_tup (a_cons e_int (a_cons e_int a_nil))) a_nil))) (a_cons (e_tup (a_cons (e_tup (a_cons e_int (a_cons e_int (a_cons e_int a_nil)))) (a_cons (e_tup (a_cons e_int (a_cons e_int a_nil))) a_nil))) (a_cons (e_tup (a_cons (e_tup (a_cons e_int (a_cons e_int (a_cons e_int a_nil)))) (a_cons (e_tup (a_cons e_int (a_cons e_int a_nil))) a_nil))) (a_cons (e_tup (a_cons (e_tup (a_cons e_int (a_cons e_int (a_cons e_int a_nil)))) (a_cons e_non a_nil))) (a_cons (e_tup (a_cons (e_tup (a_cons e_int (a_cons e_int (a_cons e_int a_nil)))) (a_cons (e_tup (a_cons e_int (a_cons e_int a_nil))) a_nil))) a_nil)))))))) (g_nm (i := 6) sc__law_changed_right.nd rfl (.inl (by kernel_rfl)) (.inl rfl)) calm_nm) (s_cons (s_asg (e_add (fr := false) (e_v 6 rfl (.inl (by kernel_rfl))) (e_lst (a_cons (e_tup (a_cons (e_tup (a_cons e_int (a_cons e_int (a_cons e_int a_nil)))) (a_cons (e_tup (a_cons e_int (a_cons e_int a_nil))) a_nil))) (a_cons (e_tup (a_cons (e_tup (a_cons e_int (a_cons e_int (a_cons e_int a_nil)))) (a_cons (e_tup (a_cons e_int (a_cons e_int a_nil))) a_nil))) (a_cons (e_tup (a_cons (e_tup (a_cons e_int (a_cons e_int (a_cons e_int a_nil)))) (a_cons e_non a_nil))) (a_cons (e_tup (a_cons (e_tup (a_cons e_int (a_cons e_int (a_cons e_int a_nil)))) (a_cons (e_tup (a_cons e_int (a_cons e_int a_nil))) a_nil))) (a_cons (e_tup (a_cons (e_tup (a_cons e_int (a_cons e_int a_nil))) (a_cons (e_tup (a_cons e_int (a_cons e_int a_nil))) a_nil))) (a_cons (e_tup (a_cons (e_tup (a_cons e_int (a_cons e_int a_nil))) (a_cons e_non a_nil))) a_nil)))))))) (g_nm (i := 6) sc__law_changed_right.nd rfl (.inl (by kernel_rfl)) (.inl rfl)) calm_nm) (s_cons (s_lcv (i := 7) 100000 false [10, 11] rfl sc__law_changed_right.nd rfl rfl (sw_true rfl rfl rfl (by decide +kernel)) (blkOk_by (own := [("path", 10), ("own", 11)]) (N := ["lone", "pair", "got", "due", "twice", "legs", "ways", "wider", "short", "unlike", "path", "own"]) (sc := defScope (topS 76)) (by decide +kernel)) (by decide) (i_lst (e_v 6 rfl (.inl (by kernel_rfl)))) (fun s H C cl fp => (g_tp (n := 2) rfl (g_c (g_nm (i := 10) sc__law_changed_right.nd rfl (.inl (by kernel_rfl)) (.inr (by kernel_rfl))) (g_c (g_nm (i := 11) sc__law_changed_right.nd rfl (.inl (by kernel_rfl)) (.inr (by kernel_rfl))) g_n0)))) (fun s H C cl fp => ts_nil) (fun s H C cl fp => (e_call (ok__law_put (P := P) (w := w) (base := base) T 12) (hr.mono (by first | decide | omega)) takes0 (gl_of (by kernel_rfl)) T.d__law_put.m T.d__law_put.F.kp T.d__law_put.b (a_cons (e_v 0 rfl (.inr (.inl (by kernel_rfl)))) (a_cons (e_v 10 rfl (.inl (by kernel_rfl))) (a_cons (e_v 11 rfl (.inl (by kernel_rfl))) a_nil)))))) (s_cons (s_asg (e_add (fr := false) (e_add (fr := false) (e_add (fr := false) (e_v 2 rfl (.inl (by kernel_rfl))) (e_lcv 100000 false [11] rfl sc__law_changed_right.nd (blkOk_by (own := [("own", 11)]) (N := ["lone", "pair", "got", "due", "twice", "legs", "ways", "wider", "short", "unlike", "path", "own"]) (sc := defScope (topS 76)) (by decide +kernel)) (by decide) (i_lst (e_v 7 rfl (.inl (by kernel_rfl)))) (fun s H C cl fp => (g_nm (i := 11) sc__law_changed_right.nd rfl (.inl (by kernel_rfl)) (.inr (by kernel_rfl)))) (fun s H C cl fp => ts_nil) (fun s H C cl fp => (e_call (ok_covers (P := P) (w := w) (base := base) T) (hr.mono (by first | decide | omega)) takes0 (gl_of (by kernel_rfl)) T.d_covers.m T.d_covers.F.kp T.d_covers.b (a_cons (e_v 0 rfl (.inr (.inl (by kernel_rfl)))) (a_cons (e_v 11 rfl (.inl (by kernel_rfl))) a_nil)))))) (e_lcv 100000 false [11] rfl sc__law_changed_right.nd (blkOk_by (own := [("own", 11)]) (N := ["lone", "pair", "got", "due", "twice", "legs", "ways", "wider", "short", "unlike", "path", "own"]) (sc := defScope (topS 76)) (by decide +kernel)) (by decide) (i_lst (e_v 7 rfl (.inl (by kernel_rfl)))) (fun s H C cl fp => (g_nm (i := 11) sc__law_changed_right.nd rfl (.inl (by kernel_rfl)) (.inr (by kernel_rfl)))) (fun s H C cl fp => ts_nil) (fun s H C cl fp => (e_call (ok_covers (P := P) (w := w) (base := base) T) (hr.mono (by first | decide | omega)) takes0 (gl_of (by kernel_rfl)) T.d_covers.m T.d_covers.F.kp T.d_covers.b (a_cons (e_v 11 rfl (.inl (by kernel_rfl))) (a_cons (e_v 0 rfl (.inr (.inl (by kernel_rfl)))) a_nil)))))) (e_lcv 100000 false [11] rfl sc__law_changed_right.nd (blkOk_by (own := [("own", 11)]) (N := ["lone", "pair", "got", "due", "twice", "legs", "ways", "wider", "short", "unlike", "path", "own"]) (sc := defScope (topS 76)) (by decide +kernel)) (by decide) (i_lst (e_v 7 rfl (.inl (by kernel_rfl)))) (fun s H C cl fp => (g_nm (i := 11) sc__law_changed_right.nd rfl (.inl (by kernel_rfl)) (.inr (by kernel_rfl)))) (fun s H C cl fp => ts_nil) (fun s H C cl fp => (e_call (ok_same_but_times (P := P) (w := w) (base := base) T) (hr.mono (by first | decide | omega)) takes0 (gl_of (by kernel_rfl)) T.d_same_but_times.m T.d_same_but_times.F.kp T.d_same_but_times.b (a_cons (e_v 0 rfl (.inr (.inl (by kernel_rfl)))) (a_cons (e_v 11 rfl (.inl (by kernel_rfl))) a_nil)))))) (g_nm (i := 2) sc__law_changed_right.nd rfl (.inl (by kernel_rfl)) (.inl rfl)) calm_nm) (s_cons (s_asg (e_add (fr := false) (e_add (fr := false) (e_add (fr := false) (e_v 3 rfl (.inl (by kernel_rfl))) (e_mul (fr := false) (e_lst (a_cons e_bl a_nil)) e_int)) (e_mul (fr := false) (e_lst (a_cons e_bl a_nil)) e_int)) (e_mul (fr := false) (e_lst (a_cons e_bl a_nil)) e_int)) (g_nm (i := 3) sc__law_changed_right.nd rfl (.inl (by kernel_rfl)) (.inl rfl)) calm_nm) (s_cons (s_asg (e_call (ok__law_put (P := P) (w := w) (base := base) T 12) (hr.mono (by first | decide | omega)) (takes_of rfl rfl rfl rfl) (gl_of (by kernel_rfl)) T.d__law_put.m T.d__law_put.F.kp T.d__law_put.b (a_cons (e_v 0 rfl (.inr (.inl (by kernel_rfl)))) (a_cons (e_tup (a_cons e_int (a_cons e_int a_nil))) (a_cons (e_tup (a_cons e_int (a_cons e_int a_nil))) a_nil)))) (g_nm (i := 8) sc__law_changed_right.nd rfl (.inr (by kernel_rfl)) (.inl rfl)) calm_nm) (s_cons (s_asg (e_lst (a_cons (e_tup (a_cons (e_tup (a_cons e_int (a_cons e_int (a_cons e_int a_nil)))) (a_cons e_non a_nil))) (a_cons (e_tup (a_cons (e_tup (a_cons e_int (a_cons e_int (a_cons e_int a_nil)))) (a_cons (e_tup (a_cons e_int (a_cons e_int a_nil))) a_nil))) (a_cons (e_tup (a_cons (e_tup (a_cons e_int (a_cons e_int a_nil))) (a_cons e_non a_nil))) (a_cons (e_tup (a_cons (e_tup (a_cons e_int (a_cons e_int (a_cons e_int a_nil)))) (a_cons (e_tup (a_cons e_int (a_cons e_int a_nil))) a_nil))) (a_cons (e_tup (a_cons (e_tup (a_cons e_int (a_cons e_int (a_cons e_int a_nil)))) (a_cons (e_tup (a_cons e_int (a_cons e_int a_nil))) a_nil))) (a_cons (e_tup (a_cons (e_tup (a_cons e_int (a_cons e_int (a_cons e_int a_nil)))) (a_cons (e_tup (a_cons e_int (a_cons e_int a_nil))) a_nil))) a_nil))))))) (g_nm (i := 6) sc__law_changed_right.nd rfl (.inl (by kernel_rfl)) (.inl rfl)) calm_nm) (s_cons (s_asg (e_add (fr := false) (e_v 2 rfl (.inl (by kernel_rfl))) (e_lst (a_cons (e_lcv 100000 false [10, 11] rfl sc__law_changed_right.nd (blkOk_by (own := [("path", 10), ("own", 11)]) (N := ["lone", "pair", "got", "due", "twice", "legs", "ways", "wider", "short", "unlike", "path", "own"]) (sc := defScope (topS 76)) (by decide +kernel)) (by decide) (i_lst (e_v 6 rfl (.inl (by kernel_rfl)))) (fun s H C cl fp => (g_tp (n := 2) rfl (g_c (g_nm (i := 10) sc__law_changed_right.nd rfl (.inl (by kernel_rfl)) (.inr (by kernel_rfl))) (g_c (g_nm (i := 11) sc__law_changed_right.nd rfl (.inl (by kernel_rfl)) (.inr (by kernel_rfl))) g_n0)))) (fun s H C cl fp => ts_nil) (fun s H C cl fp => (e_call (ok_covers (P := P) (w := w) (base := base) T) (hr.mono (by first | decide | omega)) takes0 (gl_of (by kernel_rfl)) T.d_covers.m T.d_covers.F.kp T.d_covers.b (a_cons (e_call (ok__law_put (P := P) (w := w) (base := base) T 12) (hr.mono (by first | decide | omega)) takes0 (gl_of (by kernel_rfl)) T.d__law_put.m T.d__law_put.F.kp T.d__law_put.b (a_cons (e_v 8 rfl (.inr (.inl (by kernel_rfl)))) (a_cons (e_v 10 rfl (.inl (by kernel_rfl))) (a_cons (e_v 11 rfl (.inl (by kernel_rfl))) a_nil)))) (a_cons (e_v 8 rfl (.inr (.inl (by kernel_rfl)))) a_nil))))) (a_cons (e_call (ok_covers (P := P) (w := w) (base := base) T) (hr.mono (by first | decide | omega)) (takes_of rfl rfl rfl rfl) (gl_of (by kernel_rfl)) T.d_covers.m T.d_covers.F.kp T.d_covers.b (a_cons (e_v 0 rfl (.inr (.inl (by kernel_rfl)))) (a_cons (e_v 0 rfl (.inr (.inl (by kernel_rfl)))) a_nil))) a_nil)))) (g_nm (i := 2) sc__law_changed_right.nd rfl (.inl (by kernel_rfl)) (.inl rfl)) calm_nm) (s_cons (s_asg (e_add (fr := false) (e_v 3 rfl (.inl (by kernel_rfl))) (e_lst (a_cons (e_lst (a_cons e_bl (a_cons e_bl (a_cons e_bl (a_cons e_bl (a_cons e_bl (a_cons e_bl a_nil))))))) (a_cons e_bl a_nil)))) (g_nm (i := 3) sc__law_changed_right.nd rfl (.inl (by kernel_rfl)) (.inl rfl)) calm_nm) (s_cons (s_asg (e_lst (a_cons (e_tup (a_cons (e_tup (a_cons e_int (a_cons e_int a_nil))) (a_cons (e_tup (a_cons e_int (a_cons e_int a_nil))) a_nil))) (a_cons (e_tup (a_cons (e_tup (a_cons e_int (a_cons e_int (a_cons e_int a_nil)))) (a_cons (e_tup (a_cons e_int (a_cons e_int a_nil))) a_nil))) (a_cons (e_tup (a_cons (e_tup (a_cons e_int (a_cons e_int (a_cons e_int a_nil)))) (a_cons (e_tup (a_cons e_int (a_cons e_int a_nil))) a_nil))) (a_cons (e_tup (a_cons (e_tup (a_cons e_int (a_cons e_int a_nil))) (a_cons e_str a_nil))) (a_cons (e_tup (a_cons (e_tup (a_cons e_int (a_cons e_int a_nil))) (a_cons e_str a_nil))) (a_cons (e_tup (a_cons (e_tup (a_cons e_int (a_cons e_int a_nil))) (a_cons e_bl a_nil))) (a_cons (e_tup (a_cons (e_tup (a_cons e_int (a_cons e_int (a_cons e_int a_nil)))) (a_cons e_bl a_nil))) (a_cons (e_tup (a_cons (e_tup (a_cons e_int a_nil)) (a_cons (e_tup (a_cons e_str a_nil)) a_nil))) a_nil))))))))) (g_nm (i := 9) sc__law_changed_right.nd rfl (.inl (by kernel_rfl)) (.inl rfl)) calm_nm) (s_cons (s_asg (e_add (fr := false) (e_add (fr := false) (e_v 2 rfl (.inl (by kernel_rfl))) (e_lcv 100000 false [10, 11] rfl sc__law_changed_right.nd (blkOk_by (own := [("path", 10), ("own", 11)]) (N := ["lone", "pair", "got", "due", "twice", "legs", "ways", "wider", "short", "unlike", "path", "own"]) (sc := defScope (topS 76)) (by decide +kernel)) (by decide) (i_lst (e_v 9 rfl (.inl (by kernel_rfl)))) (fun s H C cl fp => (g_tp (n := 2) rfl (g_c (g_nm (i := 10) sc__law_changed_right.nd rfl (.inl (by kernel_rfl)) (.inr (by kernel_rfl))) (g_c (g_nm (i := 11) sc__law_changed_right.nd rfl (.inl (by kernel_rfl)) (.inr (by kernel_rfl))) g_n0)))) (fun s H C cl fp => ts_nil) (fun s H C cl fp => (e_call (ok_same_but_times (P := P) (w := w) (base := base) T) (hr.mono (by first | decide | omega)) takes0 (gl_of (by kernel_rfl)) T.d_same_but_times.m T.d_same_but_times.F.kp T.d_same_but_times.b (a_cons (e_v 0 rfl (.inr (.inl (by kernel_rfl)))) (a_cons (e_call (ok__law_put (P := P) (w := w) (base := base) T 12) (hr.mono (by first | decide | omega)) takes0 (gl_of (by kernel_rfl)) T.d__law_put.m T.d__law_put.F.kp T.d__law_put.b (a_cons (e_v 0 rfl (.inr (.inl (by kernel_rfl)))) (a_cons (e_v 10 rfl (.inl (by kernel_rfl))) (a_cons (e_v 11 rfl (.inl (by kernel_rfl))) a_nil)))) a_nil)))))) (e_lst (a_cons (e_call (ok_same_but_times (P := P) (w := w) (base := base) T) (hr.mono (by first | decide | omega)) (takes_of rfl rfl rfl rfl) (gl_of (by kernel_rfl)) T.d_same_but_times.m T.d_same_but_times.F.kp T.d_same_but_times.b (a_cons (e_v 0 rfl (.inr (.inl (by kernel_rfl)))) (a_cons (e_v 1 rfl (.inl (by kernel_rfl))) a_nil))) (a_cons (e_call (ok_same_but_times (P := P) (w := w) (base := base) T) (hr.mono (by first | decide | omega)) (takes_of rfl rfl rfl rfl) (gl_of (by kernel_rfl)) T.d_same_but_times.m T.d_same_but_times.F.kp T.d_same_but_times.b (a_cons (e_v 1 rfl (.inl (by kernel_rfl))) (a_cons (e_v 1 rfl (.inl (by kernel_rfl))) a_nil))) a_nil)))) (g_nm (i := 2) sc__law_changed_right.nd rfl (.inl (by kernel_rfl)) (.inl rfl)) calm_nm) (s_one (s_ret (e_call (ok__law_same (P := P) (w := w) (base := base) T 12) (hr.mono (by first | decide | omega)) (takes_of rfl rfl rfl rfl) (gl_of (by kernel_rfl)) T.d__law_same.m T.d__law_same.F.kp T.d__law_same.b (a_cons (e_v 2 rfl (.inl (by kernel_rfl))) (a_cons (e_add (fr := false) (e_add (fr := false) (e_v 3 rfl (.inl (by kernel_rfl))) (e_mul (fr := false) (e_lst (a_cons e_bl a_nil)) e_int)) (e_lst (a_cons e_bl a_nil))) a_nil))))))))))))))))))))))))))
/-! _law_heard -/
theorem sc__law_heard : FnScope ["door", "its", "found", "error"] ["door", "its"] (defScope (topS 77)) := ⟨rfl, rfl, rfl, by decide +kernel, rfl, by decide +kernel, by decide +kernel⟩
def b__law_heard : MS := (sSeq (sAsg (mC .non) (gNm 2)) (sSeq (sTryN [([("NoPlace", true), ("CanNot", false), ("Unfit", false)], some 3, fun ce => (sAsg (mLst (mCons (mC (.str "place")) (mCons (mCatF ["NoPlace"] ce "place") (mCons (mIsD (List.lookup ce.cls [("NoPlace", true), ("CanNot", false), ("Unfit", false)])) mNil)))) (gNm 2))), ([("NoPlace", false), ("CanNot", false), ("Unfit", true)], some 3, fun ce => (sAsg (mLst (mCons (mC (.str "unfit")) (mCons (mIsD (List.lookup ce.cls [("NoPlace", false), ("CanNot", true), ("Unfit", true)])) mNil))) (gNm 2)))] (sIf (mT (mBin gEq (mVar 0) (mC (.int 0)))) (sAsg (mLst (mCons (mCall (ar 2 (afresh r_setting)) (mCons (mBin gIx (mVar 1) (mC (.int 0))) (mCons (mBin gIx (mVar 1) (mC (.int 1))) mNil))) mNil)) (gNm 2)) (sIf (mT (mBin gEq (mVar 0) (mC (.int 1)))) (sAsg (mLst (mCons (mCall (ar 3 (afresh r_changed)) (mCons (mBin gIx (mVar 1) (mC (.int 0))) (mCons (mBin gIx (mVar 1) (mC (.int 1))) (mCons (mBin gIx (mVar 1) (mC (.int 2))) mNil)))) mNil)) (gNm 2)) (sIf (mT (mBin gEq (mVar 0) (mC (.int 2)))) (sAsg (mLst (mCons (mCall (ar 2 (afresh r_scaled)) (mCons (mBin gIx (mVar 1) (mC (.int 0))) (mCons (mBin gIx (mVar 1) (mC (.int 1))) mNil))) mNil)) (gNm 2)) (sIf (mT (mBin gEq (mVar 0) (mC (.int 3)))) (sAsg (mLst (mCons (mCall (ar 2 r_shortest_keep) (mCons (mBin gIx (mVar 1) (mC (.int 0))) (mCons (mBin gIx (mVar 1) (mC (.int 1))) mNil))) mNil)) (gNm 2)) (sAsg (mLst (mCons (mCall (ar 2 r_covers) (mCons (mBin gIx (mVar 1) (mC (.int 0))) (mCons (mBin gIx (mVar 1) (mC (.int 1))) mNil))) mNil)) (gNm 2))))))) (sRet (mVar 2))))
def r__law_heard : GC := runB 2 b__law_heard
theorem ok__law_heard (T : Tx K mg base) : FOk P w K mg base 16 T.d__law_heard.f T.d__law_heard.fd ["door", "its"] r__law_heard := by
  refine fn_ok 2 T.d__law_heard.F sc__law_heard rfl fun cdv A outer s H E hr => ?_
  exact (s_cons (s_asg e_non (g_nm (i := 2) sc__law_heard.nd rfl (.inl (by kernel_rfl)) (.inl rfl)) calm_nm) (s_cons (s_tryN rfl rfl (takes_of rfl rfl rfl rfl) (fun W2 pn xe tk po => (s_one (s_if (t_eq hr.units (e_v 0 rfl (.inl (by kernel_rfl))) e_int) (s_one (s_asg (e_lst (a_cons (e_call (fok_afresh (ok_setting (P := P) (w := w) (base := base) T)) (hr.mono (by first | decide | omega)) tk (gl_of (by kernel_rfl)) T.d_setting.m T.d_setting.F.kp T.d_setting.b (a_cons (e_ix (e_v 1 rfl (.inl (by kernel_rfl))) e_int) (a_cons (e_ix (e_v 1 rfl (.inl (by kernel_rfl))) e_int) a_nil))) a_nil)) (g_nm (i := 2) sc__law_heard.nd rfl (.inl (by kernel_rfl)) (.inl rfl)) calm_nm)) (s_one (s_if (t_eq hr.units (e_v 0 rfl (.inl (by kernel_rfl))) e_int) (s_one (s_asg (e_lst (a_cons (e_call (fok_afresh (ok_changed (P := P) (w := w) (base := base) T)) (hr.mono (by first | decide | omega)) tk (gl_of (by kernel_rfl)) T.d_changed.m T.d_changed.F.kp T.d_changed.b (a_cons (e_ix (e_v 1 rfl (.inl (by kernel_rfl))) e_int) (a_cons (e_ix (e_v 1 rfl (.inl (by kernel_rfl))) e_int) (a_cons (e_ix (e_v 1 rfl (.inl (by kernel_rfl))) e_int) a_nil)))) a_nil)) (g_nm (i := 2) sc__law_heard.nd rfl (.inl (by kernel_rfl)) (.inl rfl)) calm_nm)) (s_one (s_if (t_eq hr.units (e_v 0 rfl (.inl (by kernel_rfl))) e_int) (s_one (s_asg (e_lst (a_cons (e_call (fok_afresh (ok_scaled (P := P) (w := w) (base := base) T)) (hr.mono (by first | decide | omega)) tk (gl_of (by kernel_rfl)) T.d_scaled.m T.d_scaled.F.kp T.d_scaled.b (a_cons (e_ix (e_v 1 rfl (.inl (by kernel_rfl))) e_int) (a_cons (e_ix (e_v 1 rfl (.inl (by kernel_rfl))) e_int) a_nil))) a_nil)) (g_nm (i := 2) sc__law_heard.nd rfl (.inl (by kernel_rfl)) (.inl rfl)) calm_nm)) (s_one (s_if (t_eq hr.units (e_v 0 rfl (.inl (by kernel_rfl))) e_int) (s_one (s_asg (e_lst (a_cons (e_call (ok_shortest_keep (P := P) (w := w) (base := base) T) (hr.mono (by first | decide | omega)) tk (gl_of (by kernel_rfl)) T.d_shortest_keep.m T.d_shortest_keep.F.kp T.d_shortest_keep.b (a_cons (e_ix (e_v 1 rfl (.inl (by kernel_rfl))) e_int) (a_cons (e_ix (e_v 1 rfl (.inl (by kernel_rfl))) e_int) a_nil))) a_nil)) (g_nm (i := 2) sc__law_heard.nd rfl (.inl (by kernel_rfl)) (.inl rfl)) calm_nm)) (s_one (s_asg (e_lst (a_cons (e_call (ok_covers (P := P) (w := w) (base := base) T) (hr.mono (by first | decide | omega)) tk (gl_of (by kernel_rfl)) T.d_covers.m T.d_covers.F.kp T.d_covers.b (a_cons (e_ix (e_v 1 rfl (.inl (by kernel_rfl))) e_int) (a_cons (e_ix (e_v 1 rfl (.inl (by kernel_rfl))) e_int) a_nil))) a_nil)) (g_nm (i := 2) sc__law_heard.nd rfl (.inl (by kernel_rfl)) (.inl rfl)) calm_nm))))))))))) (.as (i := 3) (tab := [("NoPlace", true), ("CanNot", false), ("Unfit", false)]) (mu := fun a d ce => (sAsg (mLst (mCons (mC (.str "place")) (mCons (mCatR ["NoPlace"] ce.cls a d 3 "place") (mCons (mIsQ a d 3 (List.lookup ce.cls [("NoPlace", true), ("CanNot", false), ("Unfit", false)])) mNil)))) (gNm 2))) ⟨gl_of (by kernel_rfl), by decide, .inl T.c_NoPlace.m⟩ T.h_NoPlace sc__law_heard.nd rfl (by kernel_rfl) (fun ce C a oe d pn hk hz hv => (s_one (s_asg (e_lst (a_cons e_str (a_cons (e_catF (i := 3) (tab := ["NoPlace"]) hk T.f_place hz hv rfl (.inl (by kernel_rfl))) (a_cons (e_isR (i := 3) (tab := [("NoPlace", true), ("CanNot", false), ("Unfit", false)]) hk T.ox T.i_LookupError hz hv (gl_of (by kernel_rfl)) T.n_isinstance (pe_bltn (v := .ty "LookupError") (gl_of (by kernel_rfl)) T.n_LookupError (by decide +kernel) rfl) (fun _ r => r) rfl (.inl (by kernel_rfl))) a_nil)))) (g_nm (i := 2) sc__law_heard.nd rfl (.inl (by kernel_rfl)) (.inl rfl)) calm_nm))) (by intro a d ce env s hl hd; simp [catR_put hl hd, isQ_put hl, setR_eq, nthR_eq, putF_fl, putF_nx, putF_rt, bind_ok, fl_ok, List.getElem?_set, hl, sSeq, sNil, sExp, sRet, sAsg, gNm, mApp, mLst, mBox, mTup, mCall, mCons, mNil, mC, mVar, List.set_set, List.set_comm (i := 3) (j := 2) _ _ (by decide)]) (.as (i := 3) (tab := [("NoPlace", false), ("CanNot", false), ("Unfit", true)]) (mu := fun a d ce => (sAsg (mLst (mCons (mC (.str "unfit")) (mCons (mIsQ a d 3 (List.lookup ce.cls [("NoPlace", false), ("CanNot", true), ("Unfit", true)])) mNil))) (gNm 2))) ⟨gl_of (by kernel_rfl), by decide, .inl T.c_Unfit.m⟩ T.h_Unfit sc__law_heard.nd rfl (by kernel_rfl) (fun ce C a oe d pn hk hz hv => (s_one (s_asg (e_lst (a_cons e_str (a_cons (e_isR (i := 3) (tab := [("NoPlace", false), ("CanNot", true), ("Unfit", true)]) hk T.ox T.i_ValueError hz hv (gl_of (by kernel_rfl)) T.n_isinstance (pe_bltn (v := .ty "ValueError") (gl_of (by kernel_rfl)) T.n_ValueError (by decide +kernel) rfl) (fun _ r => r) rfl (.inl (by kernel_rfl))) a_nil))) (g_nm (i := 2) sc__law_heard.nd rfl (.inl (by kernel_rfl)) (.inl rfl)) calm_nm))) (by intro a d ce env s hl hd; simp [catR_put hl hd, isQ_put hl, setR_eq, nthR_eq, putF_fl, putF_nx, putF_rt, bind_ok, fl_ok, List.getElem?_set, hl, sSeq, sNil, sExp, sRet, sAsg, gNm, mApp, mLst, mBox, mTup, mCall, mCons, mNil, mC, mVar, List.set_set, List.set_comm (i := 3) (j := 2) _ _ (by decide)]) .nil))) (s_one (s_ret (e_v 2 rfl (.inl (by kernel_rfl)))))))
/-! _law_refused_right -/
theorem sc__law_refused_right : FnScope ["lone", "pair", "names", "got", "due", "wrong", "own", "name", "value"] [] (defScope (topS 78)) := ⟨rfl, rfl, rfl, by decide +kernel, rfl, by decide +kernel, by decide +kernel⟩
def b__law_refused_right : MS := (sSeq (sAsg (mTup (mCons (fun _ s => r__law_lone [] s) (mCons (fun _ s => r__law_pair [] s) mNil))) (gTp 2 (gC (gNm 0) (gC (gNm 1) gN0)))) (sSeq (sAsg (mLst (mCons (mTup (mCons (mC (.str "length")) (mCons (mC (.int 1)) mNil))) (mCons (mTup (mCons (mC (.str "length")) (mCons (mUn gNeg (mC (.int 1))) mNil))) (mCons (mTup (mCons (mC (.str "length")) mNil)) (mCons (mTup (mCons (mC (.str "lots")) (mCons (mC (.int 0)) mNil))) (mCons (mTup mNil) (mCons (mTup (mCons (mC (.str "slow")) mNil)) (mCons (mTup (mCons (mC (.str "slow")) (mCons (mC (.str "store")) mNil))) mNil)))))))) (gNm 2)) (sSeq (sAsg (mBin (gAdd false) (mVar 2) (mLst (mCons (mTup (mCons (mC (.str "slow")) (mCons (mC (.int 0)) mNil))) (mCons (mTup (mCons (mC (.str "least")) (mCons (mC (.str "Ask")) mNil))) (mCons (mTup (mCons (mC (.str "stops")) mNil)) (mCons (mTup (mCons (mC (.str "term")) (mCons (mC .non) mNil))) (mCons (mTup (mCons (mTup (mCons (mC (.str "term")) mNil)) mNil)) mNil))))))) (gNm 2)) (sSeq (sAsg (mBin (gAdd false) (mVar 2) (mLst (mCons (mTup (mCons (mC (.int 7)) mNil)) (mCons (mTup (mCons (mC (.str "asks")) (mCons (mC (.int 1)) mNil))) (mCons (mTup (mCons (mC (.str "record")) (mCons (mC (.str "0")) mNil))) (mCons (mTup (mCons (mC (.str "length")) (mCons (mC (.int 0)) (mCons (mC (.int 0)) mNil)))) (mCons (mTup (mCons (mC (.str "client")) mNil)) (mCons (mTup (mCons (mC (.str "fast")) (mCons (mC (.str "clients")) mNil))) (mCons (mTup (mCons (mC .non) mNil)) (mCons (mTup (mCons (mC (.str "grace")) (mCons (mBin gPow (mC (.int 10)) (mC (.int 30))) mNil))) (mCons (mTup (mCons (mC (.str "most")) (mCons (mTup (mCons (mC (.str "ask")) mNil)) mNil))) (mCons (mTup (mCons (mC (.str "keeps")) (mCons (mUn gNeg (mC (.int 1))) mNil))) mNil)))))))))))) (gNm 2)) (sSeq (sAsg (mBin (gAdd false) (mLc 100000 false (iLst (mVar 2)) [6] (gNm 6) mYes (mCall (ar 2 r__law_heard) (mCons (mC (.int 0)) (mCons (mTup (mCons (mVar 0) (mCons (mVar 6) mNil))) mNil)))) (mLc 100000 false (iLst (mVar 2)) [6] (gNm 6) mYes (mCall (ar 2 r__law_heard) (mCons (mC (.int 1)) (mCons (mTup (mCons (mVar 0) (mCons (mVar 6) (mCons (mVar 6) mNil)))) mNil))))) (gNm 3)) (sSeq (sAsg (mLc 100000 false (iLst (mBin (gAdd false) (mVar 2) (mVar 2))) [6] (gNm 6) mYes (mLst (mCons (mC (.str "place")) (mCons (mVar 6) (mCons (mC (.bl true)) mNil))))) (gNm 4)) (sSeq (sAsg (mLst (mCons (mTup (mCons (mTup (mCons (mC (.str "term")) mNil)) (mCons (mTup (mCons (mUn gNeg (mC (.int 1))) (mCons (mC (.int 1)) mNil))) mNil))) (mCons (mTup (mCons (mTup (mCons (mC (.str "term")) mNil)) (mCons (mC .non) mNil))) (mCons (mTup (mCons (mTup (mCons (mC (.str "stop")) mNil)) (mCons (mTup (mCons (mUn gNeg (mC (.int 1))) (mCons (mC (.int 2)) mNil))) mNil))) (mCons (mTup (mCons (mTup (mCons (mC (.str "lots")) mNil)) (mCons (mTup mNil) mNil))) mNil))))) (gNm 5)) (sSeq (sAsg (mBin (gAdd false) (mVar 5) (mLst (mCons (mTup (mCons (mTup (mCons (mC (.str "lots")) mNil)) (mCons (mTup (mCons (mTup (mCons (mC (.int 1)) mNil)) mNil)) mNil))) (mCons (mTup (mCons (mTup (mCons (mC (.str "lots")) mNil)) (mCons (mTup (mCons (mTup (mCons (mC (.int 0)) mNil)) (mCons (mTup (mCons (mC (.int 0)) mNil)) mNil))) mNil))) (mCons (mTup (mCons (mTup (mCons (mC (.str "counts")) mNil)) (mCons (mC (.str "seen")) mNil))) (mCons (mTup (mCons (mTup (mCons (mC (.str "sealed")) mNil)) (mCons (mC (.int 1)) mNil))) mNil)))))) (gNm 5)) (sSeq (sAsg (mBin (gAdd false) (mVar 5) (mLst (mCons (mTup (mCons (mTup (mCons (mC (.str "length")) (mCons (mC (.int 0)) mNil))) (mCons (mC (.str "8")) mNil))) (mCons (mTup (mCons (mTup (mCons (mC (.str "record")) (mCons (mC (.int 0)) mNil))) (mCons (mC (.str "none")) mNil))) (mCons (mTup (mCons (mTup (mCons (mC (.str "grace")) (mCons (mC (.int 0)) mNil))) (mCons (mC .non) mNil))) (mCons (mTup (mCons (mTup (mCons (mC (.str "asks")) (mCons (mC (.int 0)) mNil))) (mCons (mC .non) mNil))) (mCons (mTup (mCons (mTup (mCons (mC (.str "keeps")) (mCons (mC (.int 0)) mNil))) (mCons (mC (.int 0)) mNil))) mNil))))))) (gNm 5)) (sSeq (sAsg (mBin (gAdd false) (mVar 5) (mLst (mCons (mTup (mCons (mTup (mCons (mC (.str "slow")) (mCons (mC (.str "client")) mNil))) (mCons (mTup (mCons (mC (.int 3)) (mCons (mC (.int 2)) mNil))) mNil))) (mCons (mTup (mCons (mTup (mCons (mC (.str "fast")) (mCons (mC (.str "keeper")) mNil))) (mCons (mTup (mCons (mC (.int 1)) (mCons (mC (.int 2)) mNil))) mNil))) mNil)))) (gNm 5)) (sSeq (sAsg (mBin (gAdd false) (mVar 5) (mLst (mCons (mTup (mCons (mTup (mCons (mC (.str "least")) (mCons (mC (.str "ask")) mNil))) (mCons (mTup (mCons (mC (.int 3)) (mCons (mC (.int 1)) mNil))) mNil))) (mCons (mTup (mCons (mTup (mCons (mC (.str "least")) (mCons (mC (.str "back")) mNil))) (mCons (mTup (mCons (mC (.int 0)) (mCons (mC (.int 1)) mNil))) mNil))) (mCons (mTup (mCons (mTup (mCons (mC (.str "most")) (mCons (mC (.str "deed")) mNil))) (mCons (mTup (mCons (mC (.int 1)) (mCons (mC (.int 2)) mNil))) mNil))) mNil))))) (gNm 5)) (sSeq (sAsg (mBin (gAdd false) (mVar 5) (mLst (mCons (mTup (mCons (mTup (mCons (mC (.str "faults")) mNil)) (mCons (mTup (mCons (mC (.str "forgets")) (mCons (mC (.str "forgets")) mNil))) mNil))) (mCons (mTup (mCons (mTup (mCons (mC (.str "releases")) mNil)) (mCons (mTup (mCons (mC (.str "once")) mNil)) mNil))) (mCons (mTup (mCons (mTup (mCons (mC (.str "term")) mNil)) (mCons (mTup (mCons (mC (.int 4)) (mCons (mC (.int 2)) mNil))) mNil))) mNil))))) (gNm 5)) (sSeq (sAsg (mBin (gAdd false) (mVar 3) (mLc 100000 false (iLst (mVar 5)) [7, 8] (gTp 2 (gC (gNm 7) (gC (gNm 8) gN0))) mYes (mCall (ar 2 r__law_heard) (mCons (mC (.int 1)) (mCons (mTup (mCons (mVar 0) (mCons (mVar 7) (mCons (mVar 8) mNil)))) mNil))))) (gNm 3)) (sSeq (sAsg (mBin (gAdd false) (mVar 4) (mBin (gMul false) (mLst (mCons (mLst (mCons (mC (.str "unfit")) (mCons (mC (.bl true)) mNil))) mNil)) (mCall gLen (mCons (mVar 5) mNil)))) (gNm 4)) (sSeq (sAsg (mBin (gAdd false) (mVar 3) (mLst (mCons (mCall (ar 2 r__law_heard) (mCons (mC (.int 1)) (mCons (mTup (mCons (mVar 1) (mCons (mTup (mCons (mC (.str "sealed")) mNil)) (mCons (mC (.bl true)) mNil)))) mNil))) (mCons (mCall (ar 2 r__law_heard) (mCons (mC (.int 1)) (mCons (mTup (mCons (mCall (ar 3 (afresh r_changed)) (mCons (mVar 0) (mCons (mTup (mCons (mC (.str "sealed")) mNil)) (mCons (mC (.bl true)) mNil)))) (mCons (mTup (mCons (mC (.str "faults")) mNil)) (mCons (mTup (mCons (mC (.str "revives")) mNil)) mNil)))) mNil))) mNil)))) (gNm 3)) (sSeq (sAsg (mBin (gAdd false) (mBin (gAdd false) (mVar 3) (mLc 100000 false (iTup (mTup (mCons (mTup (mCons (mC (.int 0)) (mCons (mC (.int 1)) mNil))) (mCons (mTup (mCons (mUn gNeg (mC (.int 1))) (mCons (mC (.int 1)) mNil))) (mCons (mTup (mCons (mUn gNeg (mC (.int 3))) (mCons (mC (.int 2)) mNil))) mNil))))) [6] (gNm 6) mYes (mCall (ar 2 r__law_heard) (mCons (mC (.int 2)) (mCons (mTup (mCons (mVar 0) (mCons (mVar 6) mNil))) mNil))))) (mLst (mCons (mCall (ar 2 r__law_heard) (mCons (mC (.int 4)) (mCons (mTup (mCons (mVar 0) (mCons (mVar 1) mNil))) mNil))) (mCons (mCall (ar 2 r__law_heard) (mCons (mC (.int 4)) (mCons (mTup (mCons (mVar 0) (mCons (mCall (ar 3 (afresh r_changed)) (mCons (mVar 0) (mCons (mTup (mCons (mC (.str "term")) mNil)) (mCons (mTup (mCons (mC (.int 9)) (mCons (mC (.int 1)) mNil))) mNil)))) mNil))) mNil))) mNil)))) (gNm 3)) (sSeq (sAsg (mBin (gAdd false) (mVar 4) (mBin (gMul false) (mLst (mCons (mLst (mCons (mC (.str "unfit")) (mCons (mC (.bl true)) mNil))) mNil)) (mC (.int 7)))) (gNm 4)) (sSeq (sAsg (mBin (gAdd false) (mBin (gAdd false) (mVar 3) (mLc 100000 false (iTup (mTup (mCons (mC (.int 1)) (mCons (mUn gNeg (mC (.int 1))) (mCons (mC (.int 7)) mNil))))) [6] (gNm 6) mYes (mCall (ar 2 r__law_heard) (mCons (mC (.int 3)) (mCons (mTup (mCons (mVar 0) (mCons (mVar 6) mNil))) mNil))))) (mLc 100000 false (iTup (mTup (mCons (mC (.int 2)) (mCons (mC (.int 1)) mNil)))) [6] (gNm 6) mYes (mCall (ar 2 r__law_heard) (mCons (mC (.int 3)) (mCons (mTup (mCons (mVar 1) (mCons (mVar 6) mNil))) mNil))))) (gNm 3)) (sRet (mCall (ar 2 (r__law_same 12)) (mCons (mVar 3) (mCons (mBin (gAdd false) (mBin (gAdd false) (mVar 4) (mLc 100000 false (iTup (mTup (mCons (mC (.int 1)) (mCons (mUn gNeg (mC (.int 1))) (mCons (mC (.int 7)) (mCons (mC (.int 2)) mNil)))))) [6] (gNm 6) mYes (mLst (mCons (mC (.str "place")) (mCons (mVar 6) (mCons (mC (.bl true)) mNil)))))) (mLst (mCons (mLst (mCons (mC .non) mNil)) mNil))) mNil))))))))))))))))))))))
def r__law_refused_right : GC := runB 9 b__law_refused_right
theorem ok__law_refused_right (T : Tx K mg base) : FOk P w K mg base 17 T.d__law_refused_right.f T.d__law_refused_right.fd [] r__law_refused_right := by
  refine fn_ok 9 T.d__law_refused_right.F sc__law_refused_right rfl fun cdv A outer s H E hr => ?_
  exact (s_cons (s_asg (e_tup (a_cons (e_call0 (ok__law_lone (P := P) (w := w) (base := base) T) (hr.mono (by first | decide | omega)) (takes_of rfl rfl rfl rfl) (gl_of (by kernel_rfl)) T.d__law_lone.m T.d__law_lone.F.kp T.d__law_lone.b) (a_cons (e_call0 (ok__law_pair (P := P) (w := w) (base := base) T) (hr.mono (by first | decide | omega)) (takes_of rfl rfl rfl rfl) (gl_of (by kernel_rfl)) T.d__law_pair.m T.d__law_pair.F.kp T.d__law_pair.b) a_nil))) (g_tp (n := 2) rfl (g_c (g_nm (i := 0) sc__law_refused_right.nd rfl (.inr (by kernel_rfl)) (.inl rfl)) (g_c (g_nm (i := 1) sc__law_refused_right.nd rfl (.inr (by kernel_rfl)) (.inl rfl)) g_n0))) (calm_tp (calm_c calm_nm (calm_c calm_nm calm_n0)))) (s_cons (s_asg (e_lst (a_cons (e_tup (a_cons e_str (a_cons e_int a_nil))) (a_cons (e_tup (a_cons e_str (a_cons (e_neg e_int) a_nil))) (a_cons (e_tup (a_cons e_str a_nil)) (a_cons (e_tup (a_cons e_str (a_cons e_int a_nil))) (a_cons (e_tup a_nil) (a_cons (e_tup (a_cons e_str a_nil)) (a_cons (e_tup (a_cons e_str (a_cons e_str a_nil))) a_nil)))))))) (g_nm (i := 2) sc__law_refused_right.nd rfl (.inl (by kernel_rfl)) (.inl rfl)) calm_nm) (s_cons (s_asg (e_add (fr := false) (e_v 2 rfl (.inl (by kernel_rfl))) (e_lst (a_cons (e_tup (a_cons e_str (a_cons e_int a_nil))) (a_cons (e_tup (a_cons e_str (a_cons e_str a_nil))) (a_cons (e_tup (a_cons e_str a_nil)) (a_cons (e_tup (a_cons e_str (a_cons e_non a_nil))) (a_cons (e_tup (a_cons (e_tup (a_cons e_str a_nil)) a_nil)) a_nil))))))) (g_nm (i := 2) sc__law_refused_right.nd rfl (.inl (by kernel_rfl)) (.inl rfl)) calm_nm) (s_cons (s_asg (e_add (fr := false) (e_v 2 rfl (.inl (by kernel_rfl))) (e_lst (a_cons (e_tup (a_cons e_int a_nil)) (a_cons (e_tup (a_cons e_str (a_cons e_int a_nil))) (a_cons (e_tup (a_cons e_str (a_cons e_str a_nil))) (a_cons (e_tup (a_cons e_str (a_cons e_int (a_cons e_int a_nil)))) (a_cons (e_tup (a_cons e_str a_nil)) (a_cons (e_tup (a_cons e_str (a_cons e_str a_nil))) (a_cons (e_tup (a_cons e_non a_nil)) (a_cons (e_tup (a_cons e_str (a_cons (e_pow e_int e_int) a_nil))) (a_cons (e_tup (a_cons e_str (a_cons (e_tup (a_cons e_str a_nil)) a_nil))) (a_cons (e_tup (a_cons e_str (a_cons (e_neg e_int) a_nil))) a_nil)))))))))))) (g_nm (i := 2) sc__law_refused_right.nd rfl (.inl (by kernel_rfl)) (.inl rfl)) calm_nm) (s_cons (s_asg (e_add (fr := false) (e_lcv 100000 false [6] rfl sc__law_refused_right.nd (blkOk_by (own := [("own", 6)]) (N := ["lone", "pair", "names", "got", "due", "wrong", "own", "name", "value"]) (sc := defScope (topS 78)) (by decide +kernel)) (by decide) (i_lst (e_v 2 rfl (.inl (by kernel_rfl)))) (fun s H C cl fp => (g_nm (i := 6) sc__law_refused_right.nd rfl (.inl (by kernel_rfl)) (.inr (by kernel_rfl)))) (fun s H C cl fp => ts_nil) (fun s H C cl fp => (e_call (ok__law_heard (P := P) (w := w) (base := base) T) (hr.mono (by first | decide | omega)) takes0 (gl_of (by kernel_rfl)) T.d__law_heard.m T.d__law_heard.F.kp T.d__law_heard.b (a_cons e_int (a_cons (e_tup (a_cons (e_v 0 rfl (.inr (.inl (by kernel_rfl)))) (a_cons (e_v 6 rfl (.inl (by kernel_rfl))) a_nil))) a_nil))))) (e_lcv 100000 false [6] rfl sc__law_refused_right.nd (blkOk_by (own := [("own", 6)]) (N := ["lone", "pair", "names", "got", "due", "wrong", "own", "name", "value"]) (sc := defScope (topS 78)) (by decide +kernel)) (by decide) (i_lst (e_v 2 rfl (.inl (by kernel_rfl)))) (fun s H C cl fp => (g_nm (i := 6) sc__law_refused_right.nd rfl (.inl (by kernel_rfl)) (.inr (by kernel_rfl)))) (fun s H C cl fp => ts_nil) (fun s H C cl fp => (e_call (ok__law_heard (P := P) (w := w) (base := base) T) (hr.mono (by first | decide | omega)) takes0 (gl_of (by kernel_rfl)) T.d__law_heard.m T.d__law_heard.F.kp T.d__law_heard.b (a_cons e_int (a_cons (e_tup (a_cons (e_v 0 rfl (.inr (.inl (by kernel_rfl)))) (a_cons (e_v 6 rfl (.inl (by kernel_rfl))) (a_cons (e_v 6 rfl (.inl (by kernel_rfl))) a_nil)))) a_nil)))))) (g_nm (i := 3) sc__law_refused_right.nd rfl (.inl (by kernel_rfl)) (.inl rfl)) calm_nm) (s_cons (s_lcv (i := 4) 100000 false [6] rfl sc__law_refused_right.nd rfl rfl (sw_true rfl rfl rfl (by decide +kernel)) (blkOk_by (own := [("own", 6)]) (N := ["lone", "pair", "names", "got", "due", "wrong", "own", "name", "value"]) (sc := defScope (topS 78)) (by decide +kernel)) (by decide) (i_lst (e_add (fr := false) (e_v 2 rfl (.inl (by kernel_rfl))) (e_v 2 rfl (.inl (by kernel_rfl))))) (fun s H C cl fp => (g_nm (i := 6) sc__law_refused_right.nd rfl (.inl (by kernel_rfl)) (.inr (by kernel_rfl)))) (fun s H C cl fp => ts_nil) (fun s H C cl fp => (e_lst (a_cons e_str (a_cons (e_v 6 rfl (.inl (by kernel_rfl))) (a_cons e_bl a_nil)))))) (s_cons (s_asg (e_lst (a_cons (e_tup (a_cons (e_tup (a_cons e_str a_nil)) (a_cons (e_tup (a_cons (e_neg e_int) (a_cons e_int a_nil))) a_nil))) (a_cons (e_tup (a_cons (e_tup (a_cons e_str a_nil)) (a_cons e_non a_nil))) (a_cons (e_tup (a_cons (e_tup (a_cons e_str a_nil)) (a_cons (e_tup (a_cons (e_neg e_int) (a_cons e_int a_nil))) a_nil))) (a_cons (e_tup (a_cons (e_tup (a_cons e_str a_nil)) (a_cons (e_tup a_nil) a_nil))) a_nil))))) (g_nm (i := 5) sc__law_refused_right.nd rfl (.inl (by kernel_rfl)) (.inl rfl)) calm_nm) (s_cons (s_asg (e_add (fr := false) (e_v 5 rfl (.inl (by kernel_rfl))) (e_lst (a_cons (e_tup (a_cons (e_tup (a_cons e_str a_nil)) (a_cons (e_tup (a_cons (e_tup (a_cons e_int a_nil)) a_nil)) a_nil))) (a_cons (e_tup (a_cons (e_tup (a_cons e_str a_nil)) (a_cons (e_tup (a_cons (e_tup (a_cons e_int a_nil)) (a_cons (e_tup (a_cons e_int a_nil)) a_nil))) a_nil))) (a_cons (e_tup (a_cons (e_tup (a_cons e_str a_nil)) (a_cons e_str a_nil))) (a_cons (e_tup (a_cons (e_tup (a_cons e_str a_nil)) (a_cons e_int a_nil))) a_nil)))))) (g_nm (i := 5) sc__law_refused_right.nd rfl (.inl (by kernel_rfl)) (.inl rfl)) calm_nm) (s_cons (s_asg (e_add (fr := false) (e_v 5 rfl (.inl (by kernel_rfl))) (e_lst (a_cons (e_tup (a_cons (e_tup (a_cons e_str (a_cons e_int a_nil))) (a_cons e_str a_nil))) (a_cons (e_tup (a_cons (e_tup (a_cons e_str (a_cons e_int a_nil))) (a_cons e_str a_nil))) (a_cons (e_tup (a_cons (e_tup (a_cons e_str (a_cons e_int a_nil))) (a_cons e_non a_nil))) (a_cons (e_tup (a_cons (e_tup (a_cons e_str (a_cons e_int a_nil))) (a_cons e_non a_nil))) (a_cons (e_tup (a_cons (e_tup (a_cons e_str (a_cons e_int a_nil))) (a_cons e_int a_nil))) a_nil))))))) (g_nm (i := 5) sc__law_refused_right.nd rfl (.inl (by kernel_rfl)) (.inl rfl)) calm_nm) (s_cons (s_asg (e_add (fr := false) (e_v 5 rfl (.inl (by kernel_rfl))) (e_lst (a_cons (e_tup (a_cons (e_tup (a_cons e_str (a_cons e_str a_nil))) (a_cons (e_tup (a_cons e_int (a_cons e_int a_nil))) a_nil))) (a_cons (e_tup (a_cons (e_tup (a_cons e_str (a_cons e_str a_nil))) (a_cons (e_tup (a_cons e_int (a_cons e_int a_nil))) a_nil))) a_nil)))) (g_nm (i := 5) sc__law_refused_right.nd rfl (.inl (by kernel_rfl)) (.inl rfl)) calm_nm) (s_cons (s_asg (e_add (fr := false) (e_v 5 rfl (.inl (by kernel_rfl))) (e_lst (a_cons (e_tup (a_cons (e_tup (a_cons e_str (a_cons e_str a_nil))) (a_cons (e_tup (a_cons e_int (a_cons e_int a_nil))) a_nil))) (a_cons (e_tup (a_cons (e_tup (a_cons e_str (a_cons e_str a_nil))) (a_cons (e_tup (a_cons e_int (a_cons e_int a_nil))) a_nil))) (a_cons (e_tup (a_cons (e_tup (a_cons e_str (a_cons e_str a_nil))) (a_cons (e_tup (a_cons e_int (a_cons e_int a_nil))) a_nil))) a_nil))))) (g_nm (i := 5) sc__law_refused_right.nd rfl (.inl (by kernel_rfl)) (.inl rfl)) calm_nm) (s_cons (s_asg (e_add (fr := false) (e_v 5 rfl (.inl (by kernel_rfl))) (e_lst (a_cons (e_tup (a_cons (e_tup (a_cons e_str a_nil)) (a_cons (e_tup (a_cons e_str (a_cons e_str a_nil))) a_nil))) (a_cons (e_tup (a_cons (e_tup (a_cons e_str a_nil)) (a_cons (e_tup (a_cons e_str a_nil)) a_nil))) (a_cons (e_tup (a_cons (e_tup (a_cons e_str a_nil)) (a_cons (e_tup (a_cons e_int (a_cons e_int a_nil))) a_nil))) a_nil))))) (g_nm (i := 5) sc__law_refused_right.nd rfl (.inl (by kernel_rfl)) (.inl rfl)) calm_nm) (s_cons (s_asg (e_add (fr := false) (e_v 3 rfl (.inl (by kernel_rfl))) (e_lcv 100000 false [7, 8] rfl sc__law_refused_right.nd (blkOk_by (own := [("name", 7), ("value", 8)]) (N := ["lone", "pair", "names", "got", "due", "wrong", "own", "name", "value"]) (sc := defScope (topS 78)) (by decide +kernel)) (by decide) (i_lst (e_v 5 rfl (.inl (by kernel_rfl)))) (fun s H C cl fp => (g_tp (n := 2) rfl (g_c (g_nm (i := 7) sc__law_refused_right.nd rfl (.inl (by kernel_rfl)) (.inr (by kernel_rfl))) (g_c (g_nm (i := 8) sc__law_refused_right.nd rfl (.inl (by kernel_rfl)) (.inr (by kernel_rfl))) g_n0)))) (fun s H C cl fp => ts_nil) (fun s H C cl fp => (e_call (ok__law_heard (P := P) (w := w) (base := base) T) (hr.mono (by first | decide | omega)) takes0 (gl_of (by kernel_rfl)) T.d__law_heard.m T.d__law_heard.F.kp T.d__law_heard.b (a_cons e_int (a_cons (e_tup (a_cons (e_v 0 rfl (.inr (.inl (by kernel_rfl)))) (a_cons (e_v 7 rfl (.inl (by kernel_rfl))) (a_cons (e_v 8 rfl (.inl (by kernel_rfl))) a_nil)))) a_nil)))))) (g_nm (i := 3) sc__law_refused_right.nd rfl (.inl (by kernel_rfl)) (.inl rfl)) calm_nm) (s_cons (s_asg (e_add (fr := false) (e_v 4 rfl (.inl (by kernel_rfl))) (e_mul (fr := false) (e_lst (a_cons (e_lst (a_cons e_str (a_cons e_bl a_nil))) a_nil)) (e_len (gl_of (by kernel_rfl)) T.n_len (a_cons (e_v 5 rfl (.inl (by kernel_rfl))) a_nil)))) (g_nm (i := 4) sc__law_refused_right.nd rfl (.inl (by kernel_rfl)) (.inl rfl)) calm_nm) (s_cons (s_asg (e_add (fr := false) (e_v 3 rfl (.inl (by kernel_rfl))) (e_lst (a_cons (e_call (ok__law_heard (P := P) (w := w) (base := base) T) (hr.mono (by first | decide | omega)) (takes_of rfl rfl rfl rfl) (gl_of (by kernel_rfl)) T.d__law_heard.m T.d__law_heard.F.kp T.d__law_heard.b (a_cons e_int (a_cons (e_tup (a_cons (e_v 1 rfl (.inr (.inl (by kernel_rfl)))) (a_cons (e_tup (a_cons e_str a_nil)) (a_cons e_bl a_nil)))) a_nil))) (a_cons (e_call (ok__law_heard (P := P) (w := w) (base := base) T) (hr.mono (by first | decide | omega)) (takes_of rfl rfl rfl rfl) (gl_of (by kernel_rfl)) T.d__law_heard.m T.d__law_heard.F.kp T.d__law_heard.b (a_cons e_int (a_cons (e_tup (a_cons (e_call (fok_afresh (ok_changed (P := P) (w := w) (base := base) T)) (hr.mono (by first | decide | omega)) (takes_of rfl rfl rfl rfl) (gl_of (by kernel_rfl)) T.d_changed.m T.d_changed.F.kp T.d_changed.b (a_cons (e_v 0 rfl (.inr (.inl (by kernel_rfl)))) (a_cons (e_tup (a_cons e_str a_nil)) (a_cons e_bl a_nil)))) (a_cons (e_tup (a_cons e_str a_nil)) (a_cons (e_tup (a_cons e_str a_nil)) a_nil)))) a_nil))) a_nil)))) (g_nm (i := 3) sc__law_refused_right.nd rfl (.inl (by kernel_rfl)) (.inl rfl)) calm_nm) (s_cons (s_asg (e_add (fr := false) (e_add (fr := false) (e_v 3 rfl (.inl (by kernel_rfl))) (e_lcv 100000 false [6] rfl sc__law_refused_right.nd (blkOk_by (own := [("own", 6)]) (N := ["lone", "pair", "names", "got", "due", "wrong", "own", "name", "value"]) (sc := defScope (topS 78)) (by decide +kernel)) (by decide) (i_tup (e_tup (a_cons (e_tup (a_cons e_int (a_cons e_int a_nil))) (a_cons (e_tup (a_cons (e_neg e_int) (a_cons e_int a_nil))) (a_cons (e_tup (a_cons (e_neg e_int) (a_cons e_int a_nil))) a_nil))))) (fun s H C cl fp => (g_nm (i := 6) sc__law_refused_right.nd rfl (.inl (by kernel_rfl)) (.inr (by kernel_rfl)))) (fun s H C cl fp => ts_nil) (fun s H C cl fp => (e_call (ok__law_heard (P := P) (w := w) (base := base) T) (hr.mono (by first | decide | omega)) takes0 (gl_of (by kernel_rfl)) T.d__law_heard.m T.d__law_heard.F.kp T.d__law_heard.b (a_cons e_int (a_cons (e_tup (a_cons (e_v 0 rfl (.inr (.inl (by kernel_rfl)))) (a_cons (e_v 6 rfl (.inl (by kernel_rfl))) a_nil))) a_nil)))))) (e_lst (a_cons (e_call (ok__law_heard (P := P) (w := w) (base := base) T) (hr.mono (by first | decide | omega)) (takes_of rfl rfl rfl rfl) (gl_of (by kernel_rfl)) T.d__law_heard.m T.d__law_heard.F.kp T.d__law_heard.b (a_cons e_int (a_cons (e_tup (a_cons (e_v 0 rfl (.inr (.inl (by kernel_rfl)))) (a_cons (e_v 1 rfl (.inr (.inl (by kernel_rfl)))) a_nil))) a_nil))) (a_cons (e_call (ok__law_heard (P := P) (w := w) (base := base) T) (hr.mono (by first | decide | omega)) (takes_of rfl rfl rfl rfl) (gl_of (by kernel_rfl)) T.d__law_heard.m T.d__law_heard.F.kp T.d__law_heard.b (a_cons e_int (a_cons (e_tup (a_cons (e_v 0 rfl (.inr (.inl (by kernel_rfl)))) (a_cons (e_call (fok_afresh (ok_changed (P := P) (w := w) (base := base) T)) (hr.mono (by first | decide | omega)) (takes_of rfl rfl rfl rfl) (gl_of (by kernel_rfl)) T.d_changed.m T.d_changed.F.kp T.d_changed.b (a_cons (e_v 0 rfl (.inr (.inl (by kernel_rfl)))) (a_cons (e_tup (a_cons e_str a_nil)) (a_cons (e_tup (a_cons e_int (a_cons e_int a_nil))) a_nil)))) a_nil))) a_nil))) a_nil)))) (g_nm (i := 3) sc__law_refused_right.nd rfl (.inl (by kernel_rfl)) (.inl rfl)) calm_nm) (s_cons (s_asg (e_add (fr := false) (e_v 4 rfl (.inl (by kernel_rfl))) (e_mul (fr := false) (e_lst (a_cons (e_lst (a_cons e_str (a_cons e_bl a_nil))) a_nil)) e_int)) (g_nm (i := 4) sc__law_refused_right.nd rfl (.inl (by kernel_rfl)) (.inl rfl)) calm_nm) (s_cons (s_asg (e_add (fr := false) (e_add (fr := false) (e_v 3 rfl (.inl (by kernel_rfl))) (e_lcv 100000 false [6] rfl sc__law_refused_right.nd (blkOk_by (own := [("own", 6)]) (N := ["lone", "pair", "names", "got", "due", "wrong", "own", "name", "value"]) (sc := defScope (topS 78)) (by decide +kernel)) (by decide) (i_tup (e_tup (a_cons e_int (a_cons (e_neg e_int) (a_cons e_int a_nil))))) (fun s H C cl fp => (g_nm (i := 6) sc__law_refused_right.nd rfl (.inl (by kernel_rfl)) (.inr (by kernel_rfl)))) (fun s H C cl fp => ts_nil) (fun s H C cl fp => (e_call (ok__law_heard (P := P) (w := w) (base := base) T) (hr.mono (by first | decide | omega)) takes0 (gl_of (by kernel_rfl)) T.d__law_heard.m T.d__law_heard.F.kp T.d__law_heard.b (a_cons e_int (a_cons (e_tup (a_cons (e_v 0 rfl (.inr (.inl (by kernel_rfl)))) (a_cons (e_v 6 rfl (.inl (by kernel_rfl))) a_nil))) a_nil)))))) (e_lcv 100000 false [6] rfl sc__law_refused_right.nd (blkOk_by (own := [("own", 6)]) (N := ["lone", "pair", "names", "got", "due", "wrong", "own", "name", "value"]) (sc := defScope (topS 78)) (by decide +kernel)) (by decide) (i_tup (e_tup (a_cons e_int (a_cons e_int a_nil)))) (fun s H C cl fp => (g_nm (i := 6) sc__law_refused_right.nd rfl (.inl (by kernel_rfl)) (.inr (by kernel_rfl)))) (fun s H C cl fp => ts_nil) (fun s H C cl fp => (e_call (ok__law_heard (P := P) (w := w) (base := base) T) (hr.mono (by first | decide | omega)) takes0 (gl_of (by kernel_rfl)) T.d__law_heard.m T.d__law_heard.F.kp T.d__law_heard.b (a_cons e_int (a_cons (e_tup (a_cons (e_v 1 rfl (.inr (.inl (by kernel_rfl)))) (a_cons (e_v 6 rfl (.inl (by kernel_rfl))) a_nil))) a_nil)))))) (g_nm (i := 3) sc__law_refused_right.nd rfl (.inl (by kernel_rfl)) (.inl rfl)) calm_nm) (s_one (s_ret (e_call (ok__law_same (P := P) (w := w) (base := base) T 12) (hr.mono (by first | decide | omega)) (takes_of rfl rfl rfl rfl) (gl_of (by kernel_rfl)) T.d__law_same.m T.d__law_same.F.kp T.d__law_same.b (a_cons (e_v 3 rfl (.inl (by kernel_rfl))) (a_cons (e_add (fr := false) (e_add (fr := false) (e_v 4 rfl (.inl (by kernel_rfl))) (e_lcv 100000 false [6] rfl sc__law_refused_right.nd (blkOk_by (own := [("own", 6)]) (N := ["lone", "pair", "names", "got", "due", "wrong", "own", "name", "value"]) (sc := defScope (topS 78)) (by decide +kernel)) (by decide) (i_tup (e_tup (a_cons e_int (a_cons (e_neg e_int) (a_cons e_int (a_cons e_int a_nil)))))) (fun s H C cl fp => (g_nm (i := 6) sc__law_refused_right.nd rfl (.inl (by kernel_rfl)) (.inr (by kernel_rfl)))) (fun s H C cl fp => ts_nil) (fun s H C cl fp => (e_lst (a_cons e_str (a_cons (e_v 6 rfl (.inl (by kernel_rfl))) (a_cons e_bl a_nil))))))) (e_lst (a_cons (e_lst (a_cons e_non a_nil)) a_nil))) a_nil)))))))))))))))))))))))
/-! _law_soft_right -/
theorem sc__law_soft_right : FnScope ["soft", "other", "name", "got", "pair", "due"] [] (defScope (topS 79)) := ⟨rfl, rfl, rfl, by decide +kernel, rfl, by decide +kernel, by decide +kernel⟩
def b__law_soft_right : MS := (sSeq (sPar3 0 1 2 (mCons (mCall (ar 1 (r__law_lists 12)) (mCons (fun _ s => r__law_pair [] s) mNil)) (mCons (mCall (ar 1 (r__law_lists 12)) (mCons (mCall (ar 3 (r__law_put 12)) (mCons (fun _ s => r__law_pair [] s) (mCons (mTup (mCons (mC (.int 2)) (mCons (mC (.int 0)) (mCons (mC (.int 0)) mNil)))) (mCons (mTup (mCons (mC (.int 1)) (mCons (mC (.int 3)) mNil))) mNil)))) mNil)) (mCons (mLst (mCons (mC (.str "length")) (mCons (mC (.int 0)) mNil))) mNil)))) (sSeq (sAsg (mLst (mCons (mCall (ar 1 (afresh r_settings)) (mCons (mVar 0) mNil)) (mCons (mCall (ar 1 (afresh r_times_of)) (mCons (mVar 0) mNil)) (mCons (mCallP [1, 0] 2 (afresh r_setting) (mCons (mVar 2) (mCons (mVar 0) mNil))) (mCons (mCallP [2, 1, 0] 3 (afresh r_changed) (mCons (mLst (mCons (mC (.int 3)) (mCons (mC (.int 1)) mNil))) (mCons (mVar 2) (mCons (mVar 0) mNil)))) (mCons (mCallP [1, 0] 2 (afresh r_scaled) (mCons (mLst (mCons (mC (.int 2)) (mCons (mC (.int 1)) mNil))) (mCons (mVar 0) mNil))) mNil)))))) (gNm 3)) (sSeq (sAsg (fun _ s => r__law_pair [] s) (gNm 4)) (sSeq (sAsg (mLst (mCons (mCall (ar 1 (afresh r_settings)) (mCons (mVar 4) mNil)) (mCons (mCall (ar 1 (afresh r_times_of)) (mCons (mVar 4) mNil)) (mCons (mTup (mCons (mC (.int 8)) (mCons (mC (.int 1)) mNil))) (mCons (mCall (ar 3 (r__law_put 12)) (mCons (mVar 4) (mCons (mTup (mCons (mC (.int 1)) (mCons (mC (.int 0)) (mCons (mC (.int 0)) mNil)))) (mCons (mTup (mCons (mC (.int 3)) (mCons (mC (.int 1)) mNil))) mNil)))) (mCons (mCall (ar 2 (afresh r_scaled)) (mCons (mVar 4) (mCons (mTup (mCons (mC (.int 2)) (mCons (mC (.int 1)) mNil))) mNil))) mNil)))))) (gNm 5)) (sSeq (sAsg (mBin (gAdd false) (mVar 3) (mLst (mCons (mCall (ar 1 r_longest_belief) (mCons (mVar 0) mNil)) (mCons (mCallP [1, 0] 2 r_shortest_keep (mCons (mC (.int 0)) (mCons (mVar 0) mNil))) (mCons (mCall (ar 1 r_can_hold) (mCons (mVar 0) mNil)) (mCons (mCallP [1, 0] 2 r_same_but_times (mCons (mVar 1) (mCons (mVar 0) mNil))) (mCons (mCallP [1, 0] 2 r_covers (mCons (mVar 1) (mCons (mVar 0) mNil))) mNil))))))) (gNm 3)) (sSeq (sAsg (mBin (gAdd false) (mVar 5) (mLst (mCons (mTup (mCons (mC (.int 9)) (mCons (mC (.int 1)) mNil))) (mCons (mTup (mCons (mC (.int 6)) (mCons (mC (.int 1)) mNil))) (mCons (mC (.bl true)) (mCons (mC (.bl true)) (mCons (mC (.bl true)) mNil))))))) (gNm 5)) (sSeq (sAsg (mBin (gAdd false) (mVar 3) (mLst (mCons (mCallP [1, 0] 2 r_covers (mCons (mVar 0) (mCons (mVar 1) mNil))) (mCons (mBin gIx (mCall (ar 3 (afresh r_changed)) (mCons (mVar 0) (mCons (mLst (mCons (mC (.str "lots")) mNil)) (mCons (mLst (mCons (mLst (mCons (mC (.int 0)) (mCons (mC (.int 1)) mNil))) mNil)) mNil)))) (mC (.int 0))) (mCons (mBin gIx (mCall (ar 3 (afresh r_changed)) (mCons (mVar 0) (mCons (mLst (mCons (mC (.str "faults")) mNil)) (mCons (mLst (mCons (mC (.str "revives")) mNil)) mNil)))) (mC (.int 6))) mNil))))) (gNm 3)) (sSeq (sAsg (mBin (gAdd false) (mVar 3) (mLst (mCons (mCall (ar 2 (afresh r_setting)) (mCons (mVar 0) (mCons (mLst (mCons (mC (.str "lots")) mNil)) mNil))) (mCons (mCall (ar 1 r_is_plan) (mCons (mCall (ar 3 (afresh r_changed)) (mCons (mVar 0) (mCons (mLst (mCons (mC (.str "term")) mNil)) (mCons (mLst (mCons (mC (.int 1)) (mCons (mC (.int 3)) mNil))) mNil)))) mNil)) mNil)))) (gNm 3)) (sSeq (sAsg (mBin (gAdd false) (mVar 3) (mLst (mCons (mVar 0) (mCons (mVar 1) (mCons (mVar 2) mNil))))) (gNm 3)) (sRet (mCall (ar 2 (r__law_same 12)) (mCons (mVar 3) (mCons (mBin (gAdd false) (mVar 5) (mLst (mCons (mC (.bl false)) (mCons (mTup (mCons (mTup (mCons (mC (.int 0)) (mCons (mC (.int 1)) mNil))) mNil)) (mCons (mTup (mCons (mC (.str "revives")) mNil)) (mCons (mBin gIx (mVar 4) (mC (.int 0))) (mCons (mC (.bl true)) (mCons (mCall (ar 1 (r__law_lists 12)) (mCons (mVar 4) mNil)) (mCons (mCall (ar 1 (r__law_lists 12)) (mCons (mCall (ar 3 (r__law_put 12)) (mCons (mVar 4) (mCons (mTup (mCons (mC (.int 2)) (mCons (mC (.int 0)) (mCons (mC (.int 0)) mNil)))) (mCons (mTup (mCons (mC (.int 1)) (mCons (mC (.int 3)) mNil))) mNil)))) mNil)) (mCons (mLst (mCons (mC (.str "length")) (mCons (mC (.int 0)) mNil))) mNil)))))))))) mNil)))))))))))))
def r__law_soft_right : GC := runB 6 b__law_soft_right
theorem ok__law_soft_right (T : Tx K mg base) : FOk P w K mg base 16 T.d__law_soft_right.f T.d__law_soft_right.fd [] r__law_soft_right := by
  refine fn_ok 6 T.d__law_soft_right.F sc__law_soft_right rfl fun cdv A outer s H E hr => ?_
  exact (s_cons (s_par3 (i := 0) (j := 1) (l := 2) rfl sc__law_soft_right.nd rfl rfl rfl (by decide) (by decide) (by decide) rfl rfl rfl (a_cons (e_call (ok__law_lists (P := P) (w := w) (base := base) T 12) (hr.mono (by first | decide | omega)) (takes_of rfl rfl rfl rfl) (gl_of (by kernel_rfl)) T.d__law_lists.m T.d__law_lists.F.kp T.d__law_lists.b (a_cons (e_call0 (ok__law_pair (P := P) (w := w) (base := base) T) (hr.mono (by first | decide | omega)) (takes_of rfl rfl rfl rfl) (gl_of (by kernel_rfl)) T.d__law_pair.m T.d__law_pair.F.kp T.d__law_pair.b) a_nil)) (a_cons (e_call (ok__law_lists (P := P) (w := w) (base := base) T 12) (hr.mono (by first | decide | omega)) (takes_of rfl rfl rfl rfl) (gl_of (by kernel_rfl)) T.d__law_lists.m T.d__law_lists.F.kp T.d__law_lists.b (a_cons (e_call (ok__law_put (P := P) (w := w) (base := base) T 12) (hr.mono (by first | decide | omega)) (takes_of rfl rfl rfl rfl) (gl_of (by kernel_rfl)) T.d__law_put.m T.d__law_put.F.kp T.d__law_put.b (a_cons (e_call0 (ok__law_pair (P := P) (w := w) (base := base) T) (hr.mono (by first | decide | omega)) (takes_of rfl rfl rfl rfl) (gl_of (by kernel_rfl)) T.d__law_pair.m T.d__law_pair.F.kp T.d__law_pair.b) (a_cons (e_tup (a_cons e_int (a_cons e_int (a_cons e_int a_nil)))) (a_cons (e_tup (a_cons e_int (a_cons e_int a_nil))) a_nil)))) a_nil)) (a_cons (e_lst (a_cons e_str (a_cons e_int a_nil))) a_nil))) (by rfl)) (s_cons (s_asg (e_lst (a_cons (e_callW (fok_afresh (ok_settings (P := P) (w := w) (base := base) T)) (hr.mono (by first | decide | omega)) (takes_of rfl rfl rfl rfl) (gl_of (by kernel_rfl)) T.d_settings.m T.d_settings.F.kp T.w_settings (k_cons (e_v 0 rfl (.inl (by kernel_rfl))) k_nil)) (a_cons (e_callW (fok_afresh (ok_times_of (P := P) (w := w) (base := base) T)) (hr.mono (by first | decide | omega)) (takes_of rfl rfl rfl rfl) (gl_of (by kernel_rfl)) T.d_times_of.m T.d_times_of.F.kp T.w_times_of (k_cons (e_v 0 rfl (.inl (by kernel_rfl))) k_nil)) (a_cons (e_callP [1, 0] (fok_afresh (ok_setting (P := P) (w := w) (base := base) T)) (hr.mono (by first | decide | omega)) (takes_of rfl rfl rfl rfl) (gl_of (by kernel_rfl)) T.d_setting.m T.d_setting.F.kp T.wp_setting_name_plan (k_cons (e_v 2 rfl (.inl (by kernel_rfl))) (k_cons (e_v 0 rfl (.inl (by kernel_rfl))) k_nil))) (a_cons (e_callP [2, 1, 0] (fok_afresh (ok_changed (P := P) (w := w) (base := base) T)) (hr.mono (by first | decide | omega)) (takes_of rfl rfl rfl rfl) (gl_of (by kernel_rfl)) T.d_changed.m T.d_changed.F.kp T.wp_changed_value_name_plan (k_cons (e_lst (a_cons e_int (a_cons e_int a_nil))) (k_cons (e_v 2 rfl (.inl (by kernel_rfl))) (k_cons (e_v 0 rfl (.inl (by kernel_rfl))) k_nil)))) (a_cons (e_callP [1, 0] (fok_afresh (ok_scaled (P := P) (w := w) (base := base) T)) (hr.mono (by first | decide | omega)) (takes_of rfl rfl rfl rfl) (gl_of (by kernel_rfl)) T.d_scaled.m T.d_scaled.F.kp T.wp_scaled_factor_plan (k_cons (e_lst (a_cons e_int (a_cons e_int a_nil))) (k_cons (e_v 0 rfl (.inl (by kernel_rfl))) k_nil))) a_nil)))))) (g_nm (i := 3) sc__law_soft_right.nd rfl (.inl (by kernel_rfl)) (.inl rfl)) calm_nm) (s_cons (s_asg (e_call0 (ok__law_pair (P := P) (w := w) (base := base) T) (hr.mono (by first | decide | omega)) (takes_of rfl rfl rfl rfl) (gl_of (by kernel_rfl)) T.d__law_pair.m T.d__law_pair.F.kp T.d__law_pair.b) (g_nm (i := 4) sc__law_soft_right.nd rfl (.inl (by kernel_rfl)) (.inl rfl)) calm_nm) (s_cons (s_asg (e_lst (a_cons (e_call (fok_afresh (ok_settings (P := P) (w := w) (base := base) T)) (hr.mono (by first | decide | omega)) (takes_of rfl rfl rfl rfl) (gl_of (by kernel_rfl)) T.d_settings.m T.d_settings.F.kp T.d_settings.b (a_cons (e_v 4 rfl (.inl (by kernel_rfl))) a_nil)) (a_cons (e_call (fok_afresh (ok_times_of (P := P) (w := w) (base := base) T)) (hr.mono (by first | decide | omega)) (takes_of rfl rfl rfl rfl) (gl_of (by kernel_rfl)) T.d_times_of.m T.d_times_of.F.kp T.d_times_of.b (a_cons (e_v 4 rfl (.inl (by kernel_rfl))) a_nil)) (a_cons (e_tup (a_cons e_int (a_cons e_int a_nil))) (a_cons (e_call (ok__law_put (P := P) (w := w) (base := base) T 12) (hr.mono (by first | decide | omega)) (takes_of rfl rfl rfl rfl) (gl_of (by kernel_rfl)) T.d__law_put.m T.d__law_put.F.kp T.d__law_put.b (a_cons (e_v 4 rfl (.inl (by kernel_rfl))) (a_cons (e_tup (a_cons e_int (a_cons e_int (a_cons e_int a_nil)))) (a_cons (e_tup (a_cons e_int (a_cons e_int a_nil))) a_nil)))) (a_cons (e_call (fok_afresh (ok_scaled (P := P) (w := w) (base := base) T)) (hr.mono (by first | decide | omega)) (takes_of rfl rfl rfl rfl) (gl_of (by kernel_rfl)) T.d_scaled.m T.d_scaled.F.kp T.d_scaled.b (a_cons (e_v 4 rfl (.inl (by kernel_rfl))) (a_cons (e_tup (a_cons e_int (a_cons e_int a_nil))) a_nil))) a_nil)))))) (g_nm (i := 5) sc__law_soft_right.nd rfl (.inl (by kernel_rfl)) (.inl rfl)) calm_nm) (s_cons (s_asg (e_add (fr := false) (e_v 3 rfl (.inl (by kernel_rfl))) (e_lst (a_cons (e_callW (ok_longest_belief (P := P) (w := w) (base := base) T) (hr.mono (by first | decide | omega)) (takes_of rfl rfl rfl rfl) (gl_of (by kernel_rfl)) T.d_longest_belief.m T.d_longest_belief.F.kp T.w_longest_belief (k_cons (e_v 0 rfl (.inl (by kernel_rfl))) k_nil)) (a_cons (e_callP [1, 0] (ok_shortest_keep (P := P) (w := w) (base := base) T) (hr.mono (by first | decide | omega)) (takes_of rfl rfl rfl rfl) (gl_of (by kernel_rfl)) T.d_shortest_keep.m T.d_shortest_keep.F.kp T.wp_shortest_keep_keeper_plan (k_cons e_int (k_cons (e_v 0 rfl (.inl (by kernel_rfl))) k_nil))) (a_cons (e_callW (ok_can_hold (P := P) (w := w) (base := base) T) (hr.mono (by first | decide | omega)) (takes_of rfl rfl rfl rfl) (gl_of (by kernel_rfl)) T.d_can_hold.m T.d_can_hold.F.kp T.w_can_hold (k_cons (e_v 0 rfl (.inl (by kernel_rfl))) k_nil)) (a_cons (e_callP [1, 0] (ok_same_but_times (P := P) (w := w) (base := base) T) (hr.mono (by first | decide | omega)) (takes_of rfl rfl rfl rfl) (gl_of (by kernel_rfl)) T.d_same_but_times.m T.d_same_but_times.F.kp T.wp_same_but_times_other_plan (k_cons (e_v 1 rfl (.inl (by kernel_rfl))) (k_cons (e_v 0 rfl (.inl (by kernel_rfl))) k_nil))) (a_cons (e_callP [1, 0] (ok_covers (P := P) (w := w) (base := base) T) (hr.mono (by first | decide | omega)) (takes_of rfl rfl rfl rfl) (gl_of (by kernel_rfl)) T.d_covers.m T.d_covers.F.kp T.wp_covers_other_plan (k_cons (e_v 1 rfl (.inl (by kernel_rfl))) (k_cons (e_v 0 rfl (.inl (by kernel_rfl))) k_nil))) a_nil))))))) (g_nm (i := 3) sc__law_soft_right.nd rfl (.inl (by kernel_rfl)) (.inl rfl)) calm_nm) (s_cons (s_asg (e_add (fr := false) (e_v 5 rfl (.inl (by kernel_rfl))) (e_lst (a_cons (e_tup (a_cons e_int (a_cons e_int a_nil))) (a_cons (e_tup (a_cons e_int (a_cons e_int a_nil))) (a_cons e_bl (a_cons e_bl (a_cons e_bl a_nil))))))) (g_nm (i := 5) sc__law_soft_right.nd rfl (.inl (by kernel_rfl)) (.inl rfl)) calm_nm) (s_cons (s_asg (e_add (fr := false) (e_v 3 rfl (.inl (by kernel_rfl))) (e_lst (a_cons (e_callP [1, 0] (ok_covers (P := P) (w := w) (base := base) T) (hr.mono (by first | decide | omega)) (takes_of rfl rfl rfl rfl) (gl_of (by kernel_rfl)) T.d_covers.m T.d_covers.F.kp T.wp_covers_other_plan (k_cons (e_v 0 rfl (.inl (by kernel_rfl))) (k_cons (e_v 1 rfl (.inl (by kernel_rfl))) k_nil))) (a_cons (e_ix (e_call (fok_afresh (ok_changed (P := P) (w := w) (base := base) T)) (hr.mono (by first | decide | omega)) (takes_of rfl rfl rfl rfl) (gl_of (by kernel_rfl)) T.d_changed.m T.d_changed.F.kp T.d_changed.b (a_cons (e_v 0 rfl (.inl (by kernel_rfl))) (a_cons (e_lst (a_cons e_str a_nil)) (a_cons (e_lst (a_cons (e_lst (a_cons e_int (a_cons e_int a_nil))) a_nil)) a_nil)))) e_int) (a_cons (e_ix (e_call (fok_afresh (ok_changed (P := P) (w := w) (base := base) T)) (hr.mono (by first | decide | omega)) (takes_of rfl rfl rfl rfl) (gl_of (by kernel_rfl)) T.d_changed.m T.d_changed.F.kp T.d_changed.b (a_cons (e_v 0 rfl (.inl (by kernel_rfl))) (a_cons (e_lst (a_cons e_str a_nil)) (a_cons (e_lst (a_cons e_str a_nil)) a_nil)))) e_int) a_nil))))) (g_nm (i := 3) sc__law_soft_right.nd rfl (.inl (by kernel_rfl)) (.inl rfl)) calm_nm) (s_cons (s_asg (e_add (fr := false) (e_v 3 rfl (.inl (by kernel_rfl))) (e_lst (a_cons (e_call (fok_afresh (ok_setting (P := P) (w := w) (base := base) T)) (hr.mono (by first | decide | omega)) (takes_of rfl rfl rfl rfl) (gl_of (by kernel_rfl)) T.d_setting.m T.d_setting.F.kp T.d_setting.b (a_cons (e_v 0 rfl (.inl (by kernel_rfl))) (a_cons (e_lst (a_cons e_str a_nil)) a_nil))) (a_cons (e_call (ok_is_plan (P := P) (w := w) (base := base) T) (hr.mono (by first | decide | omega)) (takes_of rfl rfl rfl rfl) (gl_of (by kernel_rfl)) T.d_is_plan.m T.d_is_plan.F.kp T.d_is_plan.b (a_cons (e_call (fok_afresh (ok_changed (P := P) (w := w) (base := base) T)) (hr.mono (by first | decide | omega)) (takes_of rfl rfl rfl rfl) (gl_of (by kernel_rfl)) T.d_changed.m T.d_changed.F.kp T.d_changed.b (a_cons (e_v 0 rfl (.inl (by kernel_rfl))) (a_cons (e_lst (a_cons e_str a_nil)) (a_cons (e_lst (a_cons e_int (a_cons e_int a_nil))) a_nil)))) a_nil)) a_nil)))) (g_nm (i := 3) sc__law_soft_right.nd rfl (.inl (by kernel_rfl)) (.inl rfl)) calm_nm) (s_cons (s_asg (e_add (fr := false) (e_v 3 rfl (.inl (by kernel_rfl))) (e_lst (a_cons (e_v 0 rfl (.inl (by kernel_rfl))) (a_cons (e_v 1 rfl (.inl (by kernel_rfl))) (a_cons (e_v 2 rfl (.inl (by kernel_rfl))) a_nil))))) (g_nm (i := 3) sc__law_soft_right.nd rfl (.inl (by kernel_rfl)) (.inl rfl)) calm_nm) (s_one (s_ret (e_call (ok__law_same (P := P) (w := w) (base := base) T 12) (hr.mono (by first | decide | omega)) (takes_of rfl rfl rfl rfl) (gl_of (by kernel_rfl)) T.d__law_same.m T.d__law_same.F.kp T.d__law_same.b (a_cons (e_v 3 rfl (.inl (by kernel_rfl))) (a_cons (e_add (fr := false) (e_v 5 rfl (.inl (by kernel_rfl))) (e_lst (a_cons e_bl (a_cons (e_tup (a_cons (e_tup (a_cons e_int (a_cons e_int a_nil))) a_nil)) (a_cons (e_tup (a_cons e_str a_nil)) (a_cons (e_ix (e_v 4 rfl (.inl (by kernel_rfl))) e_int) (a_cons e_bl (a_cons (e_call (ok__law_lists (P := P) (w := w) (base := base) T 12) (hr.mono (by first | decide | omega)) (takes_of rfl rfl rfl rfl) (gl_of (by kernel_rfl)) T.d__law_lists.m T.d__law_lists.F.kp T.d__law_lists.b (a_cons (e_v 4 rfl (.inl (by kernel_rfl))) a_nil)) (a_cons (e_call (ok__law_lists (P := P) (w := w) (base := base) T 12) (hr.mono (by first | decide | omega)) (takes_of rfl rfl rfl rfl) (gl_of (by kernel_rfl)) T.d__law_lists.m T.d__law_lists.F.kp T.d__law_lists.b (a_cons (e_call (ok__law_put (P := P) (w := w) (base := base) T 12) (hr.mono (by first | decide | omega)) (takes_of rfl rfl rfl rfl) (gl_of (by kernel_rfl)) T.d__law_put.m T.d__law_put.F.kp T.d__law_put.b (a_cons (e_v 4 rfl (.inl (by kernel_rfl))) (a_cons (e_tup (a_cons e_int (a_cons e_int (a_cons e_int a_nil)))) (a_cons (e_tup (a_cons e_int (a_cons e_int a_nil))) a_nil)))) a_nil)) (a_cons (e_lst (a_cons e_str (a_cons e_int a_nil))) a_nil)))))))))) a_nil))))))))))))))
/-! law -/
theorem sc_law : FnScope ["script"] ["script"] (defScope (topS 80)) := ⟨rfl, rfl, rfl, by decide +kernel, rfl, by decide +kernel, by decide +kernel⟩
def b_law : MS := (sSeq (sIf (mOrT (mNotT (mT (fun _ s => (afresh r__law_told_right) [] s))) (mNotT (mT (fun _ s => (afresh r__law_refused_right) [] s)))) sBad sNil) (sRet (mCallT [(16, afresh r__law_judged_right), (17, afresh r__law_changed_right), (18, afresh r__law_soft_right)] (mBin gIx (mLst (mCons (mC (.fn 16)) (mCons (mC (.fn 17)) (mCons (mC (.fn 18)) mNil)))) (mCall (ar 2 r__law_take) (mCons (mCall (ar 2 r__law_box) (mCons (mCall (ar 2 r__law_cells) (mCons (mVar 0) (mCons (mC (.int 1)) mNil))) (mCons (mC (.int 0)) mNil))) (mCons (mC (.int 3)) mNil)))))))
def r_law : GC := runB 0 b_law
theorem ok_law (T : Tx K mg base) : FOk P w K mg base 18 T.d_law.f T.d_law.fd ["script"] r_law := by
  refine fn_ok 0 T.d_law.F sc_law rfl fun cdv A outer s H E hr => ?_
  exact (s_cons (s_if (MW.t (w_or (t_not (t_val (e_call0 (fok_afresh (ok__law_told_right (P := P) (w := w) (base := base) T)) (hr.mono (by first | decide | omega)) (takes_of rfl rfl rfl rfl) (gl_of (by kernel_rfl)) T.d__law_told_right.m T.d__law_told_right.F.kp T.d__law_told_right.b))) (w_or1 (t_not (t_val (e_call0 (fok_afresh (ok__law_refused_right (P := P) (w := w) (base := base) T)) (hr.mono (by first | decide | omega)) (takes_of rfl rfl rfl rfl) (gl_of (by kernel_rfl)) T.d__law_refused_right.m T.d__law_refused_right.F.kp T.d__law_refused_right.b)))))) ss_bad s_nil) (s_one (s_ret (e_callT (k := 16) (.cons (FnOk.mono (fok_afresh (ok__law_judged_right (P := P) (w := w) (base := base) T)) (by decide)) (t := 16) (by decide) T.s__law_judged_right T.d__law_judged_right.F.kp T.d__law_judged_right.b (.cons (FnOk.mono (fok_afresh (ok__law_changed_right (P := P) (w := w) (base := base) T)) (by decide)) (t := 17) (by decide) T.s__law_changed_right T.d__law_changed_right.F.kp T.d__law_changed_right.b (.cons (FnOk.mono (fok_afresh (ok__law_soft_right (P := P) (w := w) (base := base) T)) (by decide)) (t := 18) (by decide) T.s__law_soft_right T.d__law_soft_right.F.kp T.d__law_soft_right.b .nil))) (hr.mono (by first | decide | omega)) (takes_of rfl rfl rfl rfl) (e_ix (e_lst (a_cons (e_fn (t := 16) (gl_of (by kernel_rfl)) T.d__law_judged_right.m (by decide) T.s__law_judged_right) (a_cons (e_fn (t := 17) (gl_of (by kernel_rfl)) T.d__law_changed_right.m (by decide) T.s__law_changed_right) (a_cons (e_fn (t := 18) (gl_of (by kernel_rfl)) T.d__law_soft_right.m (by decide) T.s__law_soft_right) a_nil)))) (e_call (ok__law_take (P := P) (w := w) (base := base) T) (hr.mono (by first | decide | omega)) (takes_of rfl rfl rfl rfl) (gl_of (by kernel_rfl)) T.d__law_take.m T.d__law_take.F.kp T.d__law_take.b (a_cons (e_call (ok__law_box (P := P) (w := w) (base := base) T) (hr.mono (by first | decide | omega)) (takes_of rfl rfl rfl rfl) (gl_of (by kernel_rfl)) T.d__law_box.m T.d__law_box.F.kp T.d__law_box.b (a_cons (e_call (ok__law_cells (P := P) (w := w) (base := base) T) (hr.mono (by first | decide | omega)) (takes_of rfl rfl rfl rfl) (gl_of (by kernel_rfl)) T.d__law_cells.m T.d__law_cells.F.kp T.d__law_cells.b (a_cons (e_v 0 rfl (.inl (by kernel_rfl))) (a_cons e_int a_nil))) (a_cons e_int a_nil))) (a_cons e_int a_nil))))))))
end
theorem all_mk {P : Program} {w : World} {K : PySem.W.Frag} {h : Heap} {mg : Str → Option Value} {fa : Addr} (X : K.In h) (G : h.Ns mainGlobals mg) (hfa : mg "law" = some (.ref fa))
    {C_NoPlace : Addr} {fI_NoPlace : Addr} {ocXNoPlace kVXNoPlace dcXNoPlace pmXNoPlace cdXNoPlace ctXNoPlace : Value} {odXNoPlace anXNoPlace : Option Addr} {slXNoPlace : Array (Option Value)} {C_Unfit : Addr} {fI_Unfit : Addr} {ocXUnfit kVXUnfit dcXUnfit pmXUnfit cdXUnfit ctXUnfit : Value} {odXUnfit anXUnfit : Option Addr} {slXUnfit : Array (Option Value)} {C_CanNot : Addr} {fI_CanNot : Addr} {ocXCanNot kVXCanNot dcXCanNot pmXCanNot cdXCanNot ctXCanNot : Value} {odXCanNot anXCanNot : Option Addr} {slXCanNot : Array (Option Value)} {f_tupled : Addr} {ocDtupled kVDtupled dcDtupled pmDtupled cdDtupled ctDtupled : Value} {odDtupled anDtupled : Option Addr} {slDtupled : Array (Option Value)} {f_is_number : Addr} {ocDis_number kVDis_number dcDis_number pmDis_number cdDis_number ctDis_number : Value} {odDis_number anDis_number : Option Addr} {slDis_number : Array (Option Value)} {f_is_count : Addr} {ocDis_count kVDis_count dcDis_count pmDis_count cdDis_count ctDis_count : Value} {odDis_count anDis_count : Option Addr} {slDis_count : Array (Option Value)} {f_is_place : Addr} {ocDis_place kVDis_place dcDis_place pmDis_place cdDis_place ctDis_place : Value} {odDis_place anDis_place : Option Addr} {slDis_place : Array (Option Value)} {f_is_truth : Addr} {ocDis_truth kVDis_truth dcDis_truth pmDis_truth cdDis_truth ctDis_truth : Value} {odDis_truth anDis_truth : Option Addr} {slDis_truth : Array (Option Value)} {c_is_tuple_of P_is_tuple_of : Addr} {ot_is_tuple_of : Value} {dt_is_tuple_of : Option Addr} {vt_is_tuple_of : Array Value} {st_is_tuple_of : Array (Option Value)} {f_is_tuple_of : Addr} {ocDis_tuple_of kVDis_tuple_of dcDis_tuple_of pmDis_tuple_of ctDis_tuple_of : Value} {odDis_tuple_of anDis_tuple_of : Option Addr} {slDis_tuple_of : Array (Option Value)} {f_is_row : Addr} {ocDis_row kVDis_row dcDis_row pmDis_row cdDis_row ctDis_row : Value} {odDis_row anDis_row : Option Addr} {slDis_row : Array (Option Value)} {c_goes_up P_goes_up : Addr} {ot_goes_up : Value} {dt_goes_up : Option Addr} {vt_goes_up : Array Value} {st_goes_up : Array (Option Value)} {f_goes_up : Addr} {ocDgoes_up kVDgoes_up dcDgoes_up pmDgoes_up ctDgoes_up : Value} {odDgoes_up anDgoes_up : Option Addr} {slDgoes_up : Array (Option Value)} {f_fraction : Addr} {ocDfraction kVDfraction dcDfraction pmDfraction cdDfraction ctDfraction : Value} {odDfraction anDfraction : Option Addr} {slDfraction : Array (Option Value)} {f_is_fraction : Addr} {ocDis_fraction kVDis_fraction dcDis_fraction pmDis_fraction cdDis_fraction ctDis_fraction : Value} {odDis_fraction anDis_fraction : Option Addr} {slDis_fraction : Array (Option Value)} {f_plus : Addr} {ocDplus kVDplus dcDplus pmDplus cdDplus ctDplus : Value} {odDplus anDplus : Option Addr} {slDplus : Array (Option Value)} {f_times : Addr} {ocDtimes kVDtimes dcDtimes pmDtimes cdDtimes ctDtimes : Value} {odDtimes anDtimes : Option Addr} {slDtimes : Array (Option Value)} {f_over : Addr} {ocDover kVDover dcDover pmDover cdDover ctDover : Value} {odDover anDover : Option Addr} {slDover : Array (Option Value)} {f_less : Addr} {ocDless kVDless dcDless pmDless cdDless ctDless : Value} {odDless anDless : Option Addr} {slDless : Array (Option Value)} {f_is_from_zero : Addr} {ocDis_from_zero kVDis_from_zero dcDis_from_zero pmDis_from_zero cdDis_from_zero ctDis_from_zero : Value} {odDis_from_zero anDis_from_zero : Option Addr} {slDis_from_zero : Array (Option Value)} {f_is_most : Addr} {ocDis_most kVDis_most dcDis_most pmDis_most cdDis_most ctDis_most : Value} {odDis_most anDis_most : Option Addr} {slDis_most : Array (Option Value)} {f_is_clock : Addr} {ocDis_clock kVDis_clock dcDis_clock pmDis_clock cdDis_clock ctDis_clock : Value} {odDis_clock anDis_clock : Option Addr} {slDis_clock : Array (Option Value)} {f__is_length : Addr} {ocD_is_length kVD_is_length dcD_is_length pmD_is_length cdD_is_length ctD_is_length : Value} {odD_is_length anD_is_length : Option Addr} {slD_is_length : Array (Option Value)} {f_is_kept : Addr} {ocDis_kept kVDis_kept dcDis_kept pmDis_kept cdDis_kept ctDis_kept : Value} {odDis_kept anDis_kept : Option Addr} {slDis_kept : Array (Option Value)} {f_is_lot : Addr} {ocDis_lot kVDis_lot dcDis_lot pmDis_lot cdDis_lot ctDis_lot : Value} {odDis_lot anDis_lot : Option Addr} {slDis_lot : Array (Option Value)} {f_is_lots : Addr} {ocDis_lots kVDis_lots dcDis_lots pmDis_lots cdDis_lots ctDis_lots : Value} {odDis_lots anDis_lots : Option Addr} {slDis_lots : Array (Option Value)} {f_is_leg : Addr} {ocDis_leg kVDis_leg dcDis_leg pmDis_leg cdDis_leg ctDis_leg : Value} {odDis_leg anDis_leg : Option Addr} {slDis_leg : Array (Option Value)} {f_is_library : Addr} {ocDis_library kVDis_library dcDis_library pmDis_library cdDis_library ctDis_library : Value} {odDis_library anDis_library : Option Addr} {slDis_library : Array (Option Value)} {f__is_store : Addr} {ocD_is_store kVD_is_store dcD_is_store pmD_is_store cdD_is_store ctD_is_store : Value} {odD_is_store anD_is_store : Option Addr} {slD_is_store : Array (Option Value)} {f__is_fault : Addr} {ocD_is_fault kVD_is_fault dcD_is_fault pmD_is_fault cdD_is_fault ctD_is_fault : Value} {odD_is_fault anD_is_fault : Option Addr} {slD_is_fault : Array (Option Value)} {f_is_faults : Addr} {ocDis_faults kVDis_faults dcDis_faults pmDis_faults cdDis_faults ctDis_faults : Value} {odDis_faults anDis_faults : Option Addr} {slDis_faults : Array (Option Value)} {f_is_plan : Addr} {ocDis_plan kVDis_plan dcDis_plan pmDis_plan cdDis_plan ctDis_plan : Value} {odDis_plan anDis_plan : Option Addr} {slDis_plan : Array (Option Value)} {f__paths : Addr} {ocD_paths kVD_paths dcD_paths pmD_paths cdD_paths ctD_paths : Value} {odD_paths anD_paths : Option Addr} {slD_paths : Array (Option Value)} {f_settings : Addr} {ocDsettings kVDsettings dcDsettings pmDsettings cdDsettings ctDsettings : Value} {odDsettings anDsettings : Option Addr} {slDsettings : Array (Option Value)} {f__at : Addr} {ocD_at kVD_at dcD_at pmD_at cdD_at ctD_at : Value} {odD_at anD_at : Option Addr} {slD_at : Array (Option Value)} {f_times_of : Addr} {ocDtimes_of kVDtimes_of dcDtimes_of pmDtimes_of cdDtimes_of ctDtimes_of : Value} {odDtimes_of anDtimes_of : Option Addr} {slDtimes_of : Array (Option Value)} {c__path P__path : Addr} {ot__path : Value} {dt__path : Option Addr} {vt__path : Array Value} {st__path : Array (Option Value)} {f__path : Addr} {ocD_path kVD_path dcD_path pmD_path ctD_path : Value} {odD_path anD_path : Option Addr} {slD_path : Array (Option Value)} {f__with : Addr} {ocD_with kVD_with dcD_with pmD_with cdD_with ctD_with : Value} {odD_with anD_with : Option Addr} {slD_with : Array (Option Value)} {f_setting : Addr} {ocDsetting kVDsetting dcDsetting pmDsetting cdDsetting ctDsetting : Value} {odDsetting anDsetting : Option Addr} {slDsetting : Array (Option Value)} {f_changed : Addr} {ocDchanged kVDchanged dcDchanged pmDchanged cdDchanged ctDchanged : Value} {odDchanged anDchanged : Option Addr} {slDchanged : Array (Option Value)} {f_scaled : Addr} {ocDscaled kVDscaled dcDscaled pmDscaled cdDscaled ctDscaled : Value} {odDscaled anDscaled : Option Addr} {slDscaled : Array (Option Value)} {f_longest_belief : Addr} {ocDlongest_belief kVDlongest_belief dcDlongest_belief pmDlongest_belief cdDlongest_belief ctDlongest_belief : Value} {odDlongest_belief anDlongest_belief : Option Addr} {slDlongest_belief : Array (Option Value)} {f_check_keeper : Addr} {ocDcheck_keeper kVDcheck_keeper dcDcheck_keeper pmDcheck_keeper cdDcheck_keeper ctDcheck_keeper : Value} {odDcheck_keeper anDcheck_keeper : Option Addr} {slDcheck_keeper : Array (Option Value)} {f_shortest_keep : Addr} {ocDshortest_keep kVDshortest_keep dcDshortest_keep pmDshortest_keep cdDshortest_keep ctDshortest_keep : Value} {odDshortest_keep anDshortest_keep : Option Addr} {slDshortest_keep : Array (Option Value)} {f_can_hold : Addr} {ocDcan_hold kVDcan_hold dcDcan_hold pmDcan_hold cdDcan_hold ctDcan_hold : Value} {odDcan_hold anDcan_hold : Option Addr} {slDcan_hold : Array (Option Value)} {f__without_times : Addr} {ocD_without_times kVD_without_times dcD_without_times pmD_without_times cdD_without_times ctD_without_times : Value} {odD_without_times anD_without_times : Option Addr} {slD_without_times : Array (Option Value)} {f_same_but_times : Addr} {ocDsame_but_times kVDsame_but_times dcDsame_but_times pmDsame_but_times cdDsame_but_times ctDsame_but_times : Value} {odDsame_but_times anDsame_but_times : Option Addr} {slDsame_but_times : Array (Option Value)} {f__is_up_to : Addr} {ocD_is_up_to kVD_is_up_to dcD_is_up_to pmD_is_up_to cdD_is_up_to ctD_is_up_to : Value} {odD_is_up_to anD_is_up_to : Option Addr} {slD_is_up_to : Array (Option Value)} {f__covers_leg : Addr} {ocD_covers_leg kVD_covers_leg dcD_covers_leg pmD_covers_leg cdD_covers_leg ctD_covers_leg : Value} {odD_covers_leg anD_covers_leg : Option Addr} {slD_covers_leg : Array (Option Value)} {f_covers : Addr} {ocDcovers kVDcovers dcDcovers pmDcovers cdDcovers ctDcovers : Value} {odDcovers anDcovers : Option Addr} {slDcovers : Array (Option Value)} {f__law_box : Addr} {ocD_law_box kVD_law_box dcD_law_box pmD_law_box cdD_law_box ctD_law_box : Value} {odD_law_box anD_law_box : Option Addr} {slD_law_box : Array (Option Value)} {f__law_take : Addr} {ocD_law_take kVD_law_take dcD_law_take pmD_law_take cdD_law_take ctD_law_take : Value} {odD_law_take anD_law_take : Option Addr} {slD_law_take : Array (Option Value)} {f__law_cells : Addr} {ocD_law_cells kVD_law_cells dcD_law_cells pmD_law_cells cdD_law_cells ctD_law_cells : Value} {odD_law_cells anD_law_cells : Option Addr} {slD_law_cells : Array (Option Value)} {f__law_lists : Addr} {ocD_law_lists kVD_law_lists dcD_law_lists pmD_law_lists cdD_law_lists ctD_law_lists : Value} {odD_law_lists anD_law_lists : Option Addr} {slD_law_lists : Array (Option Value)} {f__law_same : Addr} {ocD_law_same kVD_law_same dcD_law_same pmD_law_same cdD_law_same ctD_law_same : Value} {odD_law_same anD_law_same : Option Addr} {slD_law_same : Array (Option Value)} {f__law_lone : Addr} {ocD_law_lone kVD_law_lone dcD_law_lone pmD_law_lone cdD_law_lone ctD_law_lone : Value} {odD_law_lone anD_law_lone : Option Addr} {slD_law_lone : Array (Option Value)} {f__law_put : Addr} {ocD_law_put kVD_law_put dcD_law_put pmD_law_put cdD_law_put ctD_law_put : Value} {odD_law_put anD_law_put : Option Addr} {slD_law_put : Array (Option Value)} {f__law_pair : Addr} {ocD_law_pair kVD_law_pair dcD_law_pair pmD_law_pair cdD_law_pair ctD_law_pair : Value} {odD_law_pair anD_law_pair : Option Addr} {slD_law_pair : Array (Option Value)} {f__law_bent : Addr} {ocD_law_bent kVD_law_bent dcD_law_bent pmD_law_bent cdD_law_bent ctD_law_bent : Value} {odD_law_bent anD_law_bent : Option Addr} {slD_law_bent : Array (Option Value)} {f__law_judged_right : Addr} {ocD_law_judged_right kVD_law_judged_right dcD_law_judged_right pmD_law_judged_right cdD_law_judged_right ctD_law_judged_right : Value} {odD_law_judged_right anD_law_judged_right : Option Addr} {slD_law_judged_right : Array (Option Value)} {f__law_names : Addr} {ocD_law_names kVD_law_names dcD_law_names pmD_law_names cdD_law_names ctD_law_names : Value} {odD_law_names anD_law_names : Option Addr} {slD_law_names : Array (Option Value)} {f__law_told_right : Addr} {ocD_law_told_right kVD_law_told_right dcD_law_told_right pmD_law_told_right cdD_law_told_right ctD_law_told_right : Value} {odD_law_told_right anD_law_told_right : Option Addr} {slD_law_told_right : Array (Option Value)} {f__law_changed_right : Addr} {ocD_law_changed_right kVD_law_changed_right dcD_law_changed_right pmD_law_changed_right cdD_law_changed_right ctD_law_changed_right : Value} {odD_law_changed_right anD_law_changed_right : Option Addr} {slD_law_changed_right : Array (Option Value)} {f__law_heard : Addr} {ocD_law_heard kVD_law_heard dcD_law_heard pmD_law_heard cdD_law_heard ctD_law_heard : Value} {odD_law_heard anD_law_heard : Option Addr} {slD_law_heard : Array (Option Value)} {f__law_refused_right : Addr} {ocD_law_refused_right kVD_law_refused_right dcD_law_refused_right pmD_law_refused_right cdD_law_refused_right ctD_law_refused_right : Value} {odD_law_refused_right anD_law_refused_right : Option Addr} {slD_law_refused_right : Array (Option Value)} {f__law_soft_right : Addr} {ocD_law_soft_right kVD_law_soft_right dcD_law_soft_right pmD_law_soft_right cdD_law_soft_right ctD_law_soft_right : Value} {odD_law_soft_right anD_law_soft_right : Option Addr} {slD_law_soft_right : Array (Option Value)} {f_law : Addr} {ocDlaw kVDlaw dcDlaw pmDlaw cdDlaw ctDlaw : Value} {odDlaw anDlaw : Option Addr} {slDlaw : Array (Option Value)} {ca0 : Addr} {cd0 : Option Addr} {cn0 : Nat} {cs0 : Array (Option Value)} {tk1 : Tok} {tk2 : Tok} {ca3 : Addr} {cd3 : Option Addr} {cn3 : Nat} {cs3 : Array (Option Value)} {tk4 : Tok} {tk5 : Tok} {ca6 : Addr} {cd6 : Option Addr} {cn6 : Nat} {cs6 : Array (Option Value)} {tk7 : Tok} {tk8 : Tok} {tk9 : Tok} {tk10 : Tok} {ca11 : Addr} {cd11 : Option Addr} {cn11 : Nat} {cs11 : Array (Option Value)} {ca12 : Addr} {cd12 : Option Addr} {cn12 : Nat} {cs12 : Array (Option Value)} {ca13 : Addr} {cd13 : Option Addr} {cn13 : Nat} {cs13 : Array (Option Value)} {tk14 : Tok} {ca15 : Addr} {cd15 : Option Addr} {cn15 : Nat} {cs15 : Array (Option Value)} {tk16 : Tok} {ca17 : Addr} {cd17 : Option Addr} {cn17 : Nat} {cs17 : Array (Option Value)} {ca18 : Addr} {cd18 : Option Addr} {cn18 : Nat} {cs18 : Array (Option Value)} {tk19 : Tok} {ca20 : Addr} {cd20 : Option Addr} {cn20 : Nat} {cs20 : Array (Option Value)} {tk21 : Tok} {ca22 : Addr} {cd22 : Option Addr} {cn22 : Nat} {cs22 : Array (Option Value)} {ca23 : Addr} {cd23 : Option Addr} {cn23 : Nat} {cs23 : Array (Option Value)} {tk24 : Tok} {ca25 : Addr} {cd25 : Option Addr} {cn25 : Nat} {cs25 : Array (Option Value)} {tk26 : Tok} {tk27 : Tok} {ca28 : Addr} {cd28 : Option Addr} {cn28 : Nat} {cs28 : Array (Option Value)} {ca29 : Addr} {cd29 : Option Addr} {cn29 : Nat} {cs29 : Array (Option Value)} {tk30 : Tok} {ca31 : Addr} {cd31 : Option Addr} {cn31 : Nat} {cs31 : Array (Option Value)} {tk32 : Tok} {tk33 : Tok} {ca34 : Addr} {cd34 : Option Addr} {cn34 : Nat} {cs34 : Array (Option Value)} {ca35 : Addr} {cd35 : Option Addr} {cn35 : Nat} {cs35 : Array (Option Value)} {tk36 : Tok} {ca37 : Addr} {cd37 : Option Addr} {cn37 : Nat} {cs37 : Array (Option Value)} {tk38 : Tok} {tk39 : Tok} {ca40 : Addr} {cd40 : Option Addr} {cn40 : Nat} {cs40 : Array (Option Value)} {ca41 : Addr} {cd41 : Option Addr} {cn41 : Nat} {cs41 : Array (Option Value)} {tk42 : Tok} {ca43 : Addr} {cd43 : Option Addr} {cn43 : Nat} {cs43 : Array (Option Value)} {tk44 : Tok} {tk45 : Tok} {ca46 : Addr} {cd46 : Option Addr} {cn46 : Nat} {cs46 : Array (Option Value)} {ca47 : Addr} {cd47 : Option Addr} {cn47 : Nat} {cs47 : Array (Option Value)} {tk48 : Tok} {ca49 : Addr} {cd49 : Option Addr} {cn49 : Nat} {cs49 : Array (Option Value)} {tk50 : Tok} {tk51 : Tok} {ca52 : Addr} {cd52 : Option Addr} {cn52 : Nat} {cs52 : Array (Option Value)} {tk53 : Tok} {tk54 : Tok} {tk55 : Tok} {ca56 : Addr} {cd56 : Option Addr} {cn56 : Nat} {cs56 : Array (Option Value)} {tk57 : Tok} {tk58 : Tok} {ca59 : Addr} {cd59 : Option Addr} {cn59 : Nat} {cs59 : Array (Option Value)} {tk60 : Tok} {tk61 : Tok} {ca62 : Addr} {cd62 : Option Addr} {cn62 : Nat} {cs62 : Array (Option Value)} {tk63 : Tok} {tk64 : Tok} {tk65 : Tok} {tk66 : Tok} {ca67 : Addr} {cd67 : Option Addr} {cn67 : Nat} {cs67 : Array (Option Value)} {tk68 : Tok} {tk69 : Tok} {tk70 : Tok} {tk71 : Tok} {tk72 : Tok} {tk73 : Tok}
    (a_NoPlace : PySem.W.nsIn K mainGlobals "NoPlace" = some (some (.ref C_NoPlace)))
    (b_NoPlace : PySem.W.findIn K (.ref C_NoPlace) "__init__" = some (some (.ref fI_NoPlace)))
    (lXNoPlace : K.lookup fI_NoPlace = some ⟨ocXNoPlace, odXNoPlace, .func (PySem.W.fnOf "__init__" "NoPlace.__init__" (defArgs (inClass (topS 2) 0)) (defBody (inClass (topS 2) 0)) (defScope (inClass (topS 2) 0)) .none kVXNoPlace dcXNoPlace pmXNoPlace anXNoPlace cdXNoPlace ctXNoPlace), slXNoPlace⟩)
    (ccXNoPlace : PySem.W.codeIn K cdXNoPlace "NoPlace.__init__" = true)
    (kkXNoPlace : PySem.W.keepIn K (.ref fI_NoPlace) = true)
    (c_NoPlace : PySem.W.typeIn K (.ref fI_NoPlace) = some (.type "function"))
    (d_NoPlace : PySem.W.excInitIn K C_NoPlace leL "LookupError.__new__" = true)
    (e_NoPlace : PySem.W.excOver K C_NoPlace leL = true)
    (sa_NoPlace : PySem.W.findIn K (.ref C_NoPlace) "__setattr__" = some (some (.builtin "object.__setattr__")))
    (ke_NoPlace : PySem.W.keepIn K (.ref C_NoPlace) = true)
    (hd_NoPlace : PySem.W.hasDictIn K C_NoPlace = true)
    (ga_NoPlace : PySem.W.findIn K (.ref C_NoPlace) "__getattribute__" = some (some (.builtin "BaseException.__getattribute__")))
    (gg_NoPlace : PySem.W.findIn K (.ref C_NoPlace) "__getattr__" = some none)
    (sx_NoPlace : PySem.W.subIn K (.ref C_NoPlace) (.type "BaseException") = some true)
    (cl_NoPlace : PySem.W.findIn K (.ref C_NoPlace) "__class__" = some (some (.builtin "object.__class__")))
    (ob_NoPlace : PySem.W.mroIn K C_NoPlace (.type "object") = some true)
    (ty_NoPlace : PySem.W.typeIn K (.ref C_NoPlace) = some (.type "type"))
    (tf_NoPlace : PySem.W.takerIn K C_NoPlace "place" = some none)
    (ff_NoPlace : PySem.W.findIn K (.ref C_NoPlace) "place" = some none)
    (a_Unfit : PySem.W.nsIn K mainGlobals "Unfit" = some (some (.ref C_Unfit)))
    (b_Unfit : PySem.W.findIn K (.ref C_Unfit) "__init__" = some (some (.ref fI_Unfit)))
    (lXUnfit : K.lookup fI_Unfit = some ⟨ocXUnfit, odXUnfit, .func (PySem.W.fnOf "__init__" "Unfit.__init__" (defArgs (inClass (topS 4) 0)) (defBody (inClass (topS 4) 0)) (defScope (inClass (topS 4) 0)) .none kVXUnfit dcXUnfit pmXUnfit anXUnfit cdXUnfit ctXUnfit), slXUnfit⟩)
    (ccXUnfit : PySem.W.codeIn K cdXUnfit "Unfit.__init__" = true)
    (kkXUnfit : PySem.W.keepIn K (.ref fI_Unfit) = true)
    (c_Unfit : PySem.W.typeIn K (.ref fI_Unfit) = some (.type "function"))
    (d_Unfit : PySem.W.excInitIn K C_Unfit veL "ValueError.__new__" = true)
    (e_Unfit : PySem.W.excOver K C_Unfit veL = true)
    (sa_Unfit : PySem.W.findIn K (.ref C_Unfit) "__setattr__" = some (some (.builtin "object.__setattr__")))
    (ke_Unfit : PySem.W.keepIn K (.ref C_Unfit) = true)
    (hd_Unfit : PySem.W.hasDictIn K C_Unfit = true)
    (ga_Unfit : PySem.W.findIn K (.ref C_Unfit) "__getattribute__" = some (some (.builtin "BaseException.__getattribute__")))
    (gg_Unfit : PySem.W.findIn K (.ref C_Unfit) "__getattr__" = some none)
    (sx_Unfit : PySem.W.subIn K (.ref C_Unfit) (.type "BaseException") = some true)
    (cl_Unfit : PySem.W.findIn K (.ref C_Unfit) "__class__" = some (some (.builtin "object.__class__")))
    (ob_Unfit : PySem.W.mroIn K C_Unfit (.type "object") = some true)
    (ty_Unfit : PySem.W.typeIn K (.ref C_Unfit) = some (.type "type"))
    (a_CanNot : PySem.W.nsIn K mainGlobals "CanNot" = some (some (.ref C_CanNot)))
    (b_CanNot : PySem.W.findIn K (.ref C_CanNot) "__init__" = some (some (.ref fI_CanNot)))
    (lXCanNot : K.lookup fI_CanNot = some ⟨ocXCanNot, odXCanNot, .func (PySem.W.fnOf "__init__" "CanNot.__init__" (defArgs (inClass (topS 3) 0)) (defBody (inClass (topS 3) 0)) (defScope (inClass (topS 3) 0)) .none kVXCanNot dcXCanNot pmXCanNot anXCanNot cdXCanNot ctXCanNot), slXCanNot⟩)
    (ccXCanNot : PySem.W.codeIn K cdXCanNot "CanNot.__init__" = true)
    (kkXCanNot : PySem.W.keepIn K (.ref fI_CanNot) = true)
    (c_CanNot : PySem.W.typeIn K (.ref fI_CanNot) = some (.type "function"))
    (d_CanNot : PySem.W.excInitIn K C_CanNot veL "ValueError.__new__" = true)
    (e_CanNot : PySem.W.excOver K C_CanNot veL = true)
    (sa_CanNot : PySem.W.findIn K (.ref C_CanNot) "__setattr__" = some (some (.builtin "object.__setattr__")))
    (ke_CanNot : PySem.W.keepIn K (.ref C_CanNot) = true)
    (hd_CanNot : PySem.W.hasDictIn K C_CanNot = true)
    (ga_CanNot : PySem.W.findIn K (.ref C_CanNot) "__getattribute__" = some (some (.builtin "BaseException.__getattribute__")))
    (gg_CanNot : PySem.W.findIn K (.ref C_CanNot) "__getattr__" = some none)
    (sx_CanNot : PySem.W.subIn K (.ref C_CanNot) (.type "BaseException") = some true)
    (cl_CanNot : PySem.W.findIn K (.ref C_CanNot) "__class__" = some (some (.builtin "object.__class__")))
    (ob_CanNot : PySem.W.mroIn K C_CanNot (.type "object") = some true)
    (ty_CanNot : PySem.W.typeIn K (.ref C_CanNot) = some (.type "type"))
    (v_LookupError : PySem.W.findCls K (.type "LookupError") (.type "type") "__init__" = some (.val (.builtin "LookupError.__init__")))
    (v_ValueError : PySem.W.findCls K (.type "ValueError") (.type "type") "__init__" = some (.val (.builtin "ValueError.__init__")))
    (o1 : PySem.W.specialIn K (.builtin "object.__class__") "__get__" = some (some (.builtin "getset_descriptor.__get__")))
    (o2 : PySem.W.takesIn K (.builtin "object.__class__") = some true)
    (nDtupled : PySem.W.nsIn K mainGlobals "tupled" = some (some (.ref f_tupled)))
    (lDtupled : K.lookup f_tupled = some ⟨ocDtupled, odDtupled, .func (PySem.W.fnOf "tupled" "tupled" (defArgs (topS 6)) (defBody (topS 6)) (defScope (topS 6)) .none kVDtupled dcDtupled pmDtupled anDtupled cdDtupled ctDtupled), slDtupled⟩)
    (ccDtupled : PySem.W.codeIn K cdDtupled "tupled" = true)
    (kkDtupled : PySem.W.keepIn K (.ref f_tupled) = true)
    (nDis_number : PySem.W.nsIn K mainGlobals "is_number" = some (some (.ref f_is_number)))
    (lDis_number : K.lookup f_is_number = some ⟨ocDis_number, odDis_number, .func (PySem.W.fnOf "is_number" "is_number" (defArgs (topS 7)) (defBody (topS 7)) (defScope (topS 7)) .none kVDis_number dcDis_number pmDis_number anDis_number cdDis_number ctDis_number), slDis_number⟩)
    (ccDis_number : PySem.W.codeIn K cdDis_number "is_number" = true)
    (kkDis_number : PySem.W.keepIn K (.ref f_is_number) = true)
    (nDis_count : PySem.W.nsIn K mainGlobals "is_count" = some (some (.ref f_is_count)))
    (lDis_count : K.lookup f_is_count = some ⟨ocDis_count, odDis_count, .func (PySem.W.fnOf "is_count" "is_count" (defArgs (topS 8)) (defBody (topS 8)) (defScope (topS 8)) .none kVDis_count dcDis_count pmDis_count anDis_count cdDis_count ctDis_count), slDis_count⟩)
    (ccDis_count : PySem.W.codeIn K cdDis_count "is_count" = true)
    (kkDis_count : PySem.W.keepIn K (.ref f_is_count) = true)
    (nDis_place : PySem.W.nsIn K mainGlobals "is_place" = some (some (.ref f_is_place)))
    (lDis_place : K.lookup f_is_place = some ⟨ocDis_place, odDis_place, .func (PySem.W.fnOf "is_place" "is_place" (defArgs (topS 9)) (defBody (topS 9)) (defScope (topS 9)) .none kVDis_place dcDis_place pmDis_place anDis_place cdDis_place ctDis_place), slDis_place⟩)
    (ccDis_place : PySem.W.codeIn K cdDis_place "is_place" = true)
    (kkDis_place : PySem.W.keepIn K (.ref f_is_place) = true)
    (nDis_truth : PySem.W.nsIn K mainGlobals "is_truth" = some (some (.ref f_is_truth)))
    (lDis_truth : K.lookup f_is_truth = some ⟨ocDis_truth, odDis_truth, .func (PySem.W.fnOf "is_truth" "is_truth" (defArgs (topS 10)) (defBody (topS 10)) (defScope (topS 10)) .none kVDis_truth dcDis_truth pmDis_truth anDis_truth cdDis_truth ctDis_truth), slDis_truth⟩)
    (ccDis_truth : PySem.W.codeIn K cdDis_truth "is_truth" = true)
    (kkDis_truth : PySem.W.keepIn K (.ref f_is_truth) = true)
    (nDis_tuple_of : PySem.W.nsIn K mainGlobals "is_tuple_of" = some (some (.ref f_is_tuple_of)))
    (lDis_tuple_of : K.lookup f_is_tuple_of = some ⟨ocDis_tuple_of, odDis_tuple_of, .func (PySem.W.fnOf "is_tuple_of" "is_tuple_of" (defArgs (topS 11)) (defBody (topS 11)) (defScope (topS 11)) .none kVDis_tuple_of dcDis_tuple_of pmDis_tuple_of anDis_tuple_of (.ref c_is_tuple_of) ctDis_tuple_of), slDis_tuple_of⟩)
    (ccDis_tuple_of : PySem.W.codeIn K (.ref c_is_tuple_of) "is_tuple_of" = true)
    (kkDis_tuple_of : PySem.W.keepIn K (.ref f_is_tuple_of) = true)
    (lt_is_tuple_of : K.lookup c_is_tuple_of = some ⟨ot_is_tuple_of, dt_is_tuple_of, .fields vt_is_tuple_of, st_is_tuple_of⟩)
    (ht_is_tuple_of : vt_is_tuple_of[11]? = some (.ref P_is_tuple_of))
    (nDis_row : PySem.W.nsIn K mainGlobals "is_row" = some (some (.ref f_is_row)))
    (lDis_row : K.lookup f_is_row = some ⟨ocDis_row, odDis_row, .func (PySem.W.fnOf "is_row" "is_row" (defArgs (topS 12)) (defBody (topS 12)) (defScope (topS 12)) .none kVDis_row dcDis_row pmDis_row anDis_row cdDis_row ctDis_row), slDis_row⟩)
    (ccDis_row : PySem.W.codeIn K cdDis_row "is_row" = true)
    (kkDis_row : PySem.W.keepIn K (.ref f_is_row) = true)
    (nDgoes_up : PySem.W.nsIn K mainGlobals "goes_up" = some (some (.ref f_goes_up)))
    (lDgoes_up : K.lookup f_goes_up = some ⟨ocDgoes_up, odDgoes_up, .func (PySem.W.fnOf "goes_up" "goes_up" (defArgs (topS 13)) (defBody (topS 13)) (defScope (topS 13)) .none kVDgoes_up dcDgoes_up pmDgoes_up anDgoes_up (.ref c_goes_up) ctDgoes_up), slDgoes_up⟩)
    (ccDgoes_up : PySem.W.codeIn K (.ref c_goes_up) "goes_up" = true)
    (kkDgoes_up : PySem.W.keepIn K (.ref f_goes_up) = true)
    (lt_goes_up : K.lookup c_goes_up = some ⟨ot_goes_up, dt_goes_up, .fields vt_goes_up, st_goes_up⟩)
    (ht_goes_up : vt_goes_up[11]? = some (.ref P_goes_up))
    (nDfraction : PySem.W.nsIn K mainGlobals "fraction" = some (some (.ref f_fraction)))
    (lDfraction : K.lookup f_fraction = some ⟨ocDfraction, odDfraction, .func (PySem.W.fnOf "fraction" "fraction" (defArgs (topS 17)) (defBody (topS 17)) (defScope (topS 17)) .none kVDfraction dcDfraction pmDfraction anDfraction cdDfraction ctDfraction), slDfraction⟩)
    (ccDfraction : PySem.W.codeIn K cdDfraction "fraction" = true)
    (kkDfraction : PySem.W.keepIn K (.ref f_fraction) = true)
    (nDis_fraction : PySem.W.nsIn K mainGlobals "is_fraction" = some (some (.ref f_is_fraction)))
    (lDis_fraction : K.lookup f_is_fraction = some ⟨ocDis_fraction, odDis_fraction, .func (PySem.W.fnOf "is_fraction" "is_fraction" (defArgs (topS 18)) (defBody (topS 18)) (defScope (topS 18)) .none kVDis_fraction dcDis_fraction pmDis_fraction anDis_fraction cdDis_fraction ctDis_fraction), slDis_fraction⟩)
    (ccDis_fraction : PySem.W.codeIn K cdDis_fraction "is_fraction" = true)
    (kkDis_fraction : PySem.W.keepIn K (.ref f_is_fraction) = true)
    (nDplus : PySem.W.nsIn K mainGlobals "plus" = some (some (.ref f_plus)))
    (lDplus : K.lookup f_plus = some ⟨ocDplus, odDplus, .func (PySem.W.fnOf "plus" "plus" (defArgs (topS 19)) (defBody (topS 19)) (defScope (topS 19)) .none kVDplus dcDplus pmDplus anDplus cdDplus ctDplus), slDplus⟩)
    (ccDplus : PySem.W.codeIn K cdDplus "plus" = true)
    (kkDplus : PySem.W.keepIn K (.ref f_plus) = true)
    (nDtimes : PySem.W.nsIn K mainGlobals "times" = some (some (.ref f_times)))
    (lDtimes : K.lookup f_times = some ⟨ocDtimes, odDtimes, .func (PySem.W.fnOf "times" "times" (defArgs (topS 20)) (defBody (topS 20)) (defScope (topS 20)) .none kVDtimes dcDtimes pmDtimes anDtimes cdDtimes ctDtimes), slDtimes⟩)
    (ccDtimes : PySem.W.codeIn K cdDtimes "times" = true)
    (kkDtimes : PySem.W.keepIn K (.ref f_times) = true)
    (nDover : PySem.W.nsIn K mainGlobals "over" = some (some (.ref f_over)))
    (lDover : K.lookup f_over = some ⟨ocDover, odDover, .func (PySem.W.fnOf "over" "over" (defArgs (topS 21)) (defBody (topS 21)) (defScope (topS 21)) .none kVDover dcDover pmDover anDover cdDover ctDover), slDover⟩)
    (ccDover : PySem.W.codeIn K cdDover "over" = true)
    (kkDover : PySem.W.keepIn K (.ref f_over) = true)
    (nDless : PySem.W.nsIn K mainGlobals "less" = some (some (.ref f_less)))
    (lDless : K.lookup f_less = some ⟨ocDless, odDless, .func (PySem.W.fnOf "less" "less" (defArgs (topS 22)) (defBody (topS 22)) (defScope (topS 22)) .none kVDless dcDless pmDless anDless cdDless ctDless), slDless⟩)
    (ccDless : PySem.W.codeIn K cdDless "less" = true)
    (kkDless : PySem.W.keepIn K (.ref f_less) = true)
    (nDis_from_zero : PySem.W.nsIn K mainGlobals "is_from_zero" = some (some (.ref f_is_from_zero)))
    (lDis_from_zero : K.lookup f_is_from_zero = some ⟨ocDis_from_zero, odDis_from_zero, .func (PySem.W.fnOf "is_from_zero" "is_from_zero" (defArgs (topS 23)) (defBody (topS 23)) (defScope (topS 23)) .none kVDis_from_zero dcDis_from_zero pmDis_from_zero anDis_from_zero cdDis_from_zero ctDis_from_zero), slDis_from_zero⟩)
    (ccDis_from_zero : PySem.W.codeIn K cdDis_from_zero "is_from_zero" = true)
    (kkDis_from_zero : PySem.W.keepIn K (.ref f_is_from_zero) = true)
    (nDis_most : PySem.W.nsIn K mainGlobals "is_most" = some (some (.ref f_is_most)))
    (lDis_most : K.lookup f_is_most = some ⟨ocDis_most, odDis_most, .func (PySem.W.fnOf "is_most" "is_most" (defArgs (topS 24)) (defBody (topS 24)) (defScope (topS 24)) .none kVDis_most dcDis_most pmDis_most anDis_most cdDis_most ctDis_most), slDis_most⟩)
    (ccDis_most : PySem.W.codeIn K cdDis_most "is_most" = true)
    (kkDis_most : PySem.W.keepIn K (.ref f_is_most) = true)
    (nDis_clock : PySem.W.nsIn K mainGlobals "is_clock" = some (some (.ref f_is_clock)))
    (lDis_clock : K.lookup f_is_clock = some ⟨ocDis_clock, odDis_clock, .func (PySem.W.fnOf "is_clock" "is_clock" (defArgs (topS 26)) (defBody (topS 26)) (defScope (topS 26)) .none kVDis_clock dcDis_clock pmDis_clock anDis_clock cdDis_clock ctDis_clock), slDis_clock⟩)
    (ccDis_clock : PySem.W.codeIn K cdDis_clock "is_clock" = true)
    (kkDis_clock : PySem.W.keepIn K (.ref f_is_clock) = true)
    (nD_is_length : PySem.W.nsIn K mainGlobals "_is_length" = some (some (.ref f__is_length)))
    (lD_is_length : K.lookup f__is_length = some ⟨ocD_is_length, odD_is_length, .func (PySem.W.fnOf "_is_length" "_is_length" (defArgs (topS 41)) (defBody (topS 41)) (defScope (topS 41)) .none kVD_is_length dcD_is_length pmD_is_length anD_is_length cdD_is_length ctD_is_length), slD_is_length⟩)
    (ccD_is_length : PySem.W.codeIn K cdD_is_length "_is_length" = true)
    (kkD_is_length : PySem.W.keepIn K (.ref f__is_length) = true)
    (nDis_kept : PySem.W.nsIn K mainGlobals "is_kept" = some (some (.ref f_is_kept)))
    (lDis_kept : K.lookup f_is_kept = some ⟨ocDis_kept, odDis_kept, .func (PySem.W.fnOf "is_kept" "is_kept" (defArgs (topS 40)) (defBody (topS 40)) (defScope (topS 40)) .none kVDis_kept dcDis_kept pmDis_kept anDis_kept cdDis_kept ctDis_kept), slDis_kept⟩)
    (ccDis_kept : PySem.W.codeIn K cdDis_kept "is_kept" = true)
    (kkDis_kept : PySem.W.keepIn K (.ref f_is_kept) = true)
    (nDis_lot : PySem.W.nsIn K mainGlobals "is_lot" = some (some (.ref f_is_lot)))
    (lDis_lot : K.lookup f_is_lot = some ⟨ocDis_lot, odDis_lot, .func (PySem.W.fnOf "is_lot" "is_lot" (defArgs (topS 39)) (defBody (topS 39)) (defScope (topS 39)) .none kVDis_lot dcDis_lot pmDis_lot anDis_lot cdDis_lot ctDis_lot), slDis_lot⟩)
    (ccDis_lot : PySem.W.codeIn K cdDis_lot "is_lot" = true)
    (kkDis_lot : PySem.W.keepIn K (.ref f_is_lot) = true)
    (nDis_lots : PySem.W.nsIn K mainGlobals "is_lots" = some (some (.ref f_is_lots)))
    (lDis_lots : K.lookup f_is_lots = some ⟨ocDis_lots, odDis_lots, .func (PySem.W.fnOf "is_lots" "is_lots" (defArgs (topS 38)) (defBody (topS 38)) (defScope (topS 38)) .none kVDis_lots dcDis_lots pmDis_lots anDis_lots cdDis_lots ctDis_lots), slDis_lots⟩)
    (ccDis_lots : PySem.W.codeIn K cdDis_lots "is_lots" = true)
    (kkDis_lots : PySem.W.keepIn K (.ref f_is_lots) = true)
    (nDis_leg : PySem.W.nsIn K mainGlobals "is_leg" = some (some (.ref f_is_leg)))
    (lDis_leg : K.lookup f_is_leg = some ⟨ocDis_leg, odDis_leg, .func (PySem.W.fnOf "is_leg" "is_leg" (defArgs (topS 42)) (defBody (topS 42)) (defScope (topS 42)) .none kVDis_leg dcDis_leg pmDis_leg anDis_leg cdDis_leg ctDis_leg), slDis_leg⟩)
    (ccDis_leg : PySem.W.codeIn K cdDis_leg "is_leg" = true)
    (kkDis_leg : PySem.W.keepIn K (.ref f_is_leg) = true)
    (nDis_library : PySem.W.nsIn K mainGlobals "is_library" = some (some (.ref f_is_library)))
    (lDis_library : K.lookup f_is_library = some ⟨ocDis_library, odDis_library, .func (PySem.W.fnOf "is_library" "is_library" (defArgs (topS 43)) (defBody (topS 43)) (defScope (topS 43)) .none kVDis_library dcDis_library pmDis_library anDis_library cdDis_library ctDis_library), slDis_library⟩)
    (ccDis_library : PySem.W.codeIn K cdDis_library "is_library" = true)
    (kkDis_library : PySem.W.keepIn K (.ref f_is_library) = true)
    (nD_is_store : PySem.W.nsIn K mainGlobals "_is_store" = some (some (.ref f__is_store)))
    (lD_is_store : K.lookup f__is_store = some ⟨ocD_is_store, odD_is_store, .func (PySem.W.fnOf "_is_store" "_is_store" (defArgs (topS 44)) (defBody (topS 44)) (defScope (topS 44)) .none kVD_is_store dcD_is_store pmD_is_store anD_is_store cdD_is_store ctD_is_store), slD_is_store⟩)
    (ccD_is_store : PySem.W.codeIn K cdD_is_store "_is_store" = true)
    (kkD_is_store : PySem.W.keepIn K (.ref f__is_store) = true)
    (nD_is_fault : PySem.W.nsIn K mainGlobals "_is_fault" = some (some (.ref f__is_fault)))
    (lD_is_fault : K.lookup f__is_fault = some ⟨ocD_is_fault, odD_is_fault, .func (PySem.W.fnOf "_is_fault" "_is_fault" (defArgs (topS 37)) (defBody (topS 37)) (defScope (topS 37)) .none kVD_is_fault dcD_is_fault pmD_is_fault anD_is_fault cdD_is_fault ctD_is_fault), slD_is_fault⟩)
    (ccD_is_fault : PySem.W.codeIn K cdD_is_fault "_is_fault" = true)
    (kkD_is_fault : PySem.W.keepIn K (.ref f__is_fault) = true)
    (nDis_faults : PySem.W.nsIn K mainGlobals "is_faults" = some (some (.ref f_is_faults)))
    (lDis_faults : K.lookup f_is_faults = some ⟨ocDis_faults, odDis_faults, .func (PySem.W.fnOf "is_faults" "is_faults" (defArgs (topS 36)) (defBody (topS 36)) (defScope (topS 36)) .none kVDis_faults dcDis_faults pmDis_faults anDis_faults cdDis_faults ctDis_faults), slDis_faults⟩)
    (ccDis_faults : PySem.W.codeIn K cdDis_faults "is_faults" = true)
    (kkDis_faults : PySem.W.keepIn K (.ref f_is_faults) = true)
    (nDis_plan : PySem.W.nsIn K mainGlobals "is_plan" = some (some (.ref f_is_plan)))
    (lDis_plan : K.lookup f_is_plan = some ⟨ocDis_plan, odDis_plan, .func (PySem.W.fnOf "is_plan" "is_plan" (defArgs (topS 35)) (defBody (topS 35)) (defScope (topS 35)) .none kVDis_plan dcDis_plan pmDis_plan anDis_plan cdDis_plan ctDis_plan), slDis_plan⟩)
    (ccDis_plan : PySem.W.codeIn K cdDis_plan "is_plan" = true)
    (kkDis_plan : PySem.W.keepIn K (.ref f_is_plan) = true)
    (nD_paths : PySem.W.nsIn K mainGlobals "_paths" = some (some (.ref f__paths)))
    (lD_paths : K.lookup f__paths = some ⟨ocD_paths, odD_paths, .func (PySem.W.fnOf "_paths" "_paths" (defArgs (topS 47)) (defBody (topS 47)) (defScope (topS 47)) .none kVD_paths dcD_paths pmD_paths anD_paths cdD_paths ctD_paths), slD_paths⟩)
    (ccD_paths : PySem.W.codeIn K cdD_paths "_paths" = true)
    (kkD_paths : PySem.W.keepIn K (.ref f__paths) = true)
    (nDsettings : PySem.W.nsIn K mainGlobals "settings" = some (some (.ref f_settings)))
    (lDsettings : K.lookup f_settings = some ⟨ocDsettings, odDsettings, .func (PySem.W.fnOf "settings" "settings" (defArgs (topS 45)) (defBody (topS 45)) (defScope (topS 45)) .none kVDsettings dcDsettings pmDsettings anDsettings cdDsettings ctDsettings), slDsettings⟩)
    (ccDsettings : PySem.W.codeIn K cdDsettings "settings" = true)
    (kkDsettings : PySem.W.keepIn K (.ref f_settings) = true)
    (nD_at : PySem.W.nsIn K mainGlobals "_at" = some (some (.ref f__at)))
    (lD_at : K.lookup f__at = some ⟨ocD_at, odD_at, .func (PySem.W.fnOf "_at" "_at" (defArgs (topS 49)) (defBody (topS 49)) (defScope (topS 49)) .none kVD_at dcD_at pmD_at anD_at cdD_at ctD_at), slD_at⟩)
    (ccD_at : PySem.W.codeIn K cdD_at "_at" = true)
    (kkD_at : PySem.W.keepIn K (.ref f__at) = true)
    (nDtimes_of : PySem.W.nsIn K mainGlobals "times_of" = some (some (.ref f_times_of)))
    (lDtimes_of : K.lookup f_times_of = some ⟨ocDtimes_of, odDtimes_of, .func (PySem.W.fnOf "times_of" "times_of" (defArgs (topS 46)) (defBody (topS 46)) (defScope (topS 46)) .none kVDtimes_of dcDtimes_of pmDtimes_of anDtimes_of cdDtimes_of ctDtimes_of), slDtimes_of⟩)
    (ccDtimes_of : PySem.W.codeIn K cdDtimes_of "times_of" = true)
    (kkDtimes_of : PySem.W.keepIn K (.ref f_times_of) = true)
    (nD_path : PySem.W.nsIn K mainGlobals "_path" = some (some (.ref f__path)))
    (lD_path : K.lookup f__path = some ⟨ocD_path, odD_path, .func (PySem.W.fnOf "_path" "_path" (defArgs (topS 48)) (defBody (topS 48)) (defScope (topS 48)) .none kVD_path dcD_path pmD_path anD_path (.ref c__path) ctD_path), slD_path⟩)
    (ccD_path : PySem.W.codeIn K (.ref c__path) "_path" = true)
    (kkD_path : PySem.W.keepIn K (.ref f__path) = true)
    (lt__path : K.lookup c__path = some ⟨ot__path, dt__path, .fields vt__path, st__path⟩)
    (ht__path : vt__path[11]? = some (.ref P__path))
    (nD_with : PySem.W.nsIn K mainGlobals "_with" = some (some (.ref f__with)))
    (lD_with : K.lookup f__with = some ⟨ocD_with, odD_with, .func (PySem.W.fnOf "_with" "_with" (defArgs (topS 50)) (defBody (topS 50)) (defScope (topS 50)) .none kVD_with dcD_with pmD_with anD_with cdD_with ctD_with), slD_with⟩)
    (ccD_with : PySem.W.codeIn K cdD_with "_with" = true)
    (kkD_with : PySem.W.keepIn K (.ref f__with) = true)
    (nDsetting : PySem.W.nsIn K mainGlobals "setting" = some (some (.ref f_setting)))
    (lDsetting : K.lookup f_setting = some ⟨ocDsetting, odDsetting, .func (PySem.W.fnOf "setting" "setting" (defArgs (topS 51)) (defBody (topS 51)) (defScope (topS 51)) .none kVDsetting dcDsetting pmDsetting anDsetting cdDsetting ctDsetting), slDsetting⟩)
    (ccDsetting : PySem.W.codeIn K cdDsetting "setting" = true)
    (kkDsetting : PySem.W.keepIn K (.ref f_setting) = true)
    (nDchanged : PySem.W.nsIn K mainGlobals "changed" = some (some (.ref f_changed)))
    (lDchanged : K.lookup f_changed = some ⟨ocDchanged, odDchanged, .func (PySem.W.fnOf "changed" "changed" (defArgs (topS 52)) (defBody (topS 52)) (defScope (topS 52)) .none kVDchanged dcDchanged pmDchanged anDchanged cdDchanged ctDchanged), slDchanged⟩)
    (ccDchanged : PySem.W.codeIn K cdDchanged "changed" = true)
    (kkDchanged : PySem.W.keepIn K (.ref f_changed) = true)
    (nDscaled : PySem.W.nsIn K mainGlobals "scaled" = some (some (.ref f_scaled)))
    (lDscaled : K.lookup f_scaled = some ⟨ocDscaled, odDscaled, .func (PySem.W.fnOf "scaled" "scaled" (defArgs (topS 53)) (defBody (topS 53)) (defScope (topS 53)) .none kVDscaled dcDscaled pmDscaled anDscaled cdDscaled ctDscaled), slDscaled⟩)
    (ccDscaled : PySem.W.codeIn K cdDscaled "scaled" = true)
    (kkDscaled : PySem.W.keepIn K (.ref f_scaled) = true)
    (nDlongest_belief : PySem.W.nsIn K mainGlobals "longest_belief" = some (some (.ref f_longest_belief)))
    (lDlongest_belief : K.lookup f_longest_belief = some ⟨ocDlongest_belief, odDlongest_belief, .func (PySem.W.fnOf "longest_belief" "longest_belief" (defArgs (topS 54)) (defBody (topS 54)) (defScope (topS 54)) .none kVDlongest_belief dcDlongest_belief pmDlongest_belief anDlongest_belief cdDlongest_belief ctDlongest_belief), slDlongest_belief⟩)
    (ccDlongest_belief : PySem.W.codeIn K cdDlongest_belief "longest_belief" = true)
    (kkDlongest_belief : PySem.W.keepIn K (.ref f_longest_belief) = true)
    (nDcheck_keeper : PySem.W.nsIn K mainGlobals "check_keeper" = some (some (.ref f_check_keeper)))
    (lDcheck_keeper : K.lookup f_check_keeper = some ⟨ocDcheck_keeper, odDcheck_keeper, .func (PySem.W.fnOf "check_keeper" "check_keeper" (defArgs (topS 56)) (defBody (topS 56)) (defScope (topS 56)) .none kVDcheck_keeper dcDcheck_keeper pmDcheck_keeper anDcheck_keeper cdDcheck_keeper ctDcheck_keeper), slDcheck_keeper⟩)
    (ccDcheck_keeper : PySem.W.codeIn K cdDcheck_keeper "check_keeper" = true)
    (kkDcheck_keeper : PySem.W.keepIn K (.ref f_check_keeper) = true)
    (nDshortest_keep : PySem.W.nsIn K mainGlobals "shortest_keep" = some (some (.ref f_shortest_keep)))
    (lDshortest_keep : K.lookup f_shortest_keep = some ⟨ocDshortest_keep, odDshortest_keep, .func (PySem.W.fnOf "shortest_keep" "shortest_keep" (defArgs (topS 55)) (defBody (topS 55)) (defScope (topS 55)) .none kVDshortest_keep dcDshortest_keep pmDshortest_keep anDshortest_keep cdDshortest_keep ctDshortest_keep), slDshortest_keep⟩)
    (ccDshortest_keep : PySem.W.codeIn K cdDshortest_keep "shortest_keep" = true)
    (kkDshortest_keep : PySem.W.keepIn K (.ref f_shortest_keep) = true)
    (nDcan_hold : PySem.W.nsIn K mainGlobals "can_hold" = some (some (.ref f_can_hold)))
    (lDcan_hold : K.lookup f_can_hold = some ⟨ocDcan_hold, odDcan_hold, .func (PySem.W.fnOf "can_hold" "can_hold" (defArgs (topS 57)) (defBody (topS 57)) (defScope (topS 57)) .none kVDcan_hold dcDcan_hold pmDcan_hold anDcan_hold cdDcan_hold ctDcan_hold), slDcan_hold⟩)
    (ccDcan_hold : PySem.W.codeIn K cdDcan_hold "can_hold" = true)
    (kkDcan_hold : PySem.W.keepIn K (.ref f_can_hold) = true)
    (nD_without_times : PySem.W.nsIn K mainGlobals "_without_times" = some (some (.ref f__without_times)))
    (lD_without_times : K.lookup f__without_times = some ⟨ocD_without_times, odD_without_times, .func (PySem.W.fnOf "_without_times" "_without_times" (defArgs (topS 59)) (defBody (topS 59)) (defScope (topS 59)) .none kVD_without_times dcD_without_times pmD_without_times anD_without_times cdD_without_times ctD_without_times), slD_without_times⟩)
    (ccD_without_times : PySem.W.codeIn K cdD_without_times "_without_times" = true)
    (kkD_without_times : PySem.W.keepIn K (.ref f__without_times) = true)
    (nDsame_but_times : PySem.W.nsIn K mainGlobals "same_but_times" = some (some (.ref f_same_but_times)))
    (lDsame_but_times : K.lookup f_same_but_times = some ⟨ocDsame_but_times, odDsame_but_times, .func (PySem.W.fnOf "same_but_times" "same_but_times" (defArgs (topS 58)) (defBody (topS 58)) (defScope (topS 58)) .none kVDsame_but_times dcDsame_but_times pmDsame_but_times anDsame_but_times cdDsame_but_times ctDsame_but_times), slDsame_but_times⟩)
    (ccDsame_but_times : PySem.W.codeIn K cdDsame_but_times "same_but_times" = true)
    (kkDsame_but_times : PySem.W.keepIn K (.ref f_same_but_times) = true)
    (nD_is_up_to : PySem.W.nsIn K mainGlobals "_is_up_to" = some (some (.ref f__is_up_to)))
    (lD_is_up_to : K.lookup f__is_up_to = some ⟨ocD_is_up_to, odD_is_up_to, .func (PySem.W.fnOf "_is_up_to" "_is_up_to" (defArgs (topS 62)) (defBody (topS 62)) (defScope (topS 62)) .none kVD_is_up_to dcD_is_up_to pmD_is_up_to anD_is_up_to cdD_is_up_to ctD_is_up_to), slD_is_up_to⟩)
    (ccD_is_up_to : PySem.W.codeIn K cdD_is_up_to "_is_up_to" = true)
    (kkD_is_up_to : PySem.W.keepIn K (.ref f__is_up_to) = true)
    (nD_covers_leg : PySem.W.nsIn K mainGlobals "_covers_leg" = some (some (.ref f__covers_leg)))
    (lD_covers_leg : K.lookup f__covers_leg = some ⟨ocD_covers_leg, odD_covers_leg, .func (PySem.W.fnOf "_covers_leg" "_covers_leg" (defArgs (topS 61)) (defBody (topS 61)) (defScope (topS 61)) .none kVD_covers_leg dcD_covers_leg pmD_covers_leg anD_covers_leg cdD_covers_leg ctD_covers_leg), slD_covers_leg⟩)
    (ccD_covers_leg : PySem.W.codeIn K cdD_covers_leg "_covers_leg" = true)
    (kkD_covers_leg : PySem.W.keepIn K (.ref f__covers_leg) = true)
    (nDcovers : PySem.W.nsIn K mainGlobals "covers" = some (some (.ref f_covers)))
    (lDcovers : K.lookup f_covers = some ⟨ocDcovers, odDcovers, .func (PySem.W.fnOf "covers" "covers" (defArgs (topS 60)) (defBody (topS 60)) (defScope (topS 60)) .none kVDcovers dcDcovers pmDcovers anDcovers cdDcovers ctDcovers), slDcovers⟩)
    (ccDcovers : PySem.W.codeIn K cdDcovers "covers" = true)
    (kkDcovers : PySem.W.keepIn K (.ref f_covers) = true)
    (nD_law_box : PySem.W.nsIn K mainGlobals "_law_box" = some (some (.ref f__law_box)))
    (lD_law_box : K.lookup f__law_box = some ⟨ocD_law_box, odD_law_box, .func (PySem.W.fnOf "_law_box" "_law_box" (defArgs (topS 64)) (defBody (topS 64)) (defScope (topS 64)) .none kVD_law_box dcD_law_box pmD_law_box anD_law_box cdD_law_box ctD_law_box), slD_law_box⟩)
    (ccD_law_box : PySem.W.codeIn K cdD_law_box "_law_box" = true)
    (kkD_law_box : PySem.W.keepIn K (.ref f__law_box) = true)
    (nD_law_take : PySem.W.nsIn K mainGlobals "_law_take" = some (some (.ref f__law_take)))
    (lD_law_take : K.lookup f__law_take = some ⟨ocD_law_take, odD_law_take, .func (PySem.W.fnOf "_law_take" "_law_take" (defArgs (topS 65)) (defBody (topS 65)) (defScope (topS 65)) .none kVD_law_take dcD_law_take pmD_law_take anD_law_take cdD_law_take ctD_law_take), slD_law_take⟩)
    (ccD_law_take : PySem.W.codeIn K cdD_law_take "_law_take" = true)
    (kkD_law_take : PySem.W.keepIn K (.ref f__law_take) = true)
    (nD_law_cells : PySem.W.nsIn K mainGlobals "_law_cells" = some (some (.ref f__law_cells)))
    (lD_law_cells : K.lookup f__law_cells = some ⟨ocD_law_cells, odD_law_cells, .func (PySem.W.fnOf "_law_cells" "_law_cells" (defArgs (topS 66)) (defBody (topS 66)) (defScope (topS 66)) .none kVD_law_cells dcD_law_cells pmD_law_cells anD_law_cells cdD_law_cells ctD_law_cells), slD_law_cells⟩)
    (ccD_law_cells : PySem.W.codeIn K cdD_law_cells "_law_cells" = true)
    (kkD_law_cells : PySem.W.keepIn K (.ref f__law_cells) = true)
    (nD_law_lists : PySem.W.nsIn K mainGlobals "_law_lists" = some (some (.ref f__law_lists)))
    (lD_law_lists : K.lookup f__law_lists = some ⟨ocD_law_lists, odD_law_lists, .func (PySem.W.fnOf "_law_lists" "_law_lists" (defArgs (topS 67)) (defBody (topS 67)) (defScope (topS 67)) .none kVD_law_lists dcD_law_lists pmD_law_lists anD_law_lists cdD_law_lists ctD_law_lists), slD_law_lists⟩)
    (ccD_law_lists : PySem.W.codeIn K cdD_law_lists "_law_lists" = true)
    (kkD_law_lists : PySem.W.keepIn K (.ref f__law_lists) = true)
    (nD_law_same : PySem.W.nsIn K mainGlobals "_law_same" = some (some (.ref f__law_same)))
    (lD_law_same : K.lookup f__law_same = some ⟨ocD_law_same, odD_law_same, .func (PySem.W.fnOf "_law_same" "_law_same" (defArgs (topS 68)) (defBody (topS 68)) (defScope (topS 68)) .none kVD_law_same dcD_law_same pmD_law_same anD_law_same cdD_law_same ctD_law_same), slD_law_same⟩)
    (ccD_law_same : PySem.W.codeIn K cdD_law_same "_law_same" = true)
    (kkD_law_same : PySem.W.keepIn K (.ref f__law_same) = true)
    (nD_law_lone : PySem.W.nsIn K mainGlobals "_law_lone" = some (some (.ref f__law_lone)))
    (lD_law_lone : K.lookup f__law_lone = some ⟨ocD_law_lone, odD_law_lone, .func (PySem.W.fnOf "_law_lone" "_law_lone" (defArgs (topS 69)) (defBody (topS 69)) (defScope (topS 69)) .none kVD_law_lone dcD_law_lone pmD_law_lone anD_law_lone cdD_law_lone ctD_law_lone), slD_law_lone⟩)
    (ccD_law_lone : PySem.W.codeIn K cdD_law_lone "_law_lone" = true)
    (kkD_law_lone : PySem.W.keepIn K (.ref f__law_lone) = true)
    (nD_law_put : PySem.W.nsIn K mainGlobals "_law_put" = some (some (.ref f__law_put)))
    (lD_law_put : K.lookup f__law_put = some ⟨ocD_law_put, odD_law_put, .func (PySem.W.fnOf "_law_put" "_law_put" (defArgs (topS 70)) (defBody (topS 70)) (defScope (topS 70)) .none kVD_law_put dcD_law_put pmD_law_put anD_law_put cdD_law_put ctD_law_put), slD_law_put⟩)
    (ccD_law_put : PySem.W.codeIn K cdD_law_put "_law_put" = true)
    (kkD_law_put : PySem.W.keepIn K (.ref f__law_put) = true)
    (nD_law_pair : PySem.W.nsIn K mainGlobals "_law_pair" = some (some (.ref f__law_pair)))
    (lD_law_pair : K.lookup f__law_pair = some ⟨ocD_law_pair, odD_law_pair, .func (PySem.W.fnOf "_law_pair" "_law_pair" (defArgs (topS 71)) (defBody (topS 71)) (defScope (topS 71)) .none kVD_law_pair dcD_law_pair pmD_law_pair anD_law_pair cdD_law_pair ctD_law_pair), slD_law_pair⟩)
    (ccD_law_pair : PySem.W.codeIn K cdD_law_pair "_law_pair" = true)
    (kkD_law_pair : PySem.W.keepIn K (.ref f__law_pair) = true)
    (nD_law_bent : PySem.W.nsIn K mainGlobals "_law_bent" = some (some (.ref f__law_bent)))
    (lD_law_bent : K.lookup f__law_bent = some ⟨ocD_law_bent, odD_law_bent, .func (PySem.W.fnOf "_law_bent" "_law_bent" (defArgs (topS 72)) (defBody (topS 72)) (defScope (topS 72)) .none kVD_law_bent dcD_law_bent pmD_law_bent anD_law_bent cdD_law_bent ctD_law_bent), slD_law_bent⟩)
    (ccD_law_bent : PySem.W.codeIn K cdD_law_bent "_law_bent" = true)
    (kkD_law_bent : PySem.W.keepIn K (.ref f__law_bent) = true)
    (nD_law_judged_right : PySem.W.nsIn K mainGlobals "_law_judged_right" = some (some (.ref f__law_judged_right)))
    (lD_law_judged_right : K.lookup f__law_judged_right = some ⟨ocD_law_judged_right, odD_law_judged_right, .func (PySem.W.fnOf "_law_judged_right" "_law_judged_right" (defArgs (topS 73)) (defBody (topS 73)) (defScope (topS 73)) .none kVD_law_judged_right dcD_law_judged_right pmD_law_judged_right anD_law_judged_right cdD_law_judged_right ctD_law_judged_right), slD_law_judged_right⟩)
    (ccD_law_judged_right : PySem.W.codeIn K cdD_law_judged_right "_law_judged_right" = true)
    (kkD_law_judged_right : PySem.W.keepIn K (.ref f__law_judged_right) = true)
    (nD_law_names : PySem.W.nsIn K mainGlobals "_law_names" = some (some (.ref f__law_names)))
    (lD_law_names : K.lookup f__law_names = some ⟨ocD_law_names, odD_law_names, .func (PySem.W.fnOf "_law_names" "_law_names" (defArgs (topS 74)) (defBody (topS 74)) (defScope (topS 74)) .none kVD_law_names dcD_law_names pmD_law_names anD_law_names cdD_law_names ctD_law_names), slD_law_names⟩)
    (ccD_law_names : PySem.W.codeIn K cdD_law_names "_law_names" = true)
    (kkD_law_names : PySem.W.keepIn K (.ref f__law_names) = true)
    (nD_law_told_right : PySem.W.nsIn K mainGlobals "_law_told_right" = some (some (.ref f__law_told_right)))
    (lD_law_told_right : K.lookup f__law_told_right = some ⟨ocD_law_told_right, odD_law_told_right, .func (PySem.W.fnOf "_law_told_right" "_law_told_right" (defArgs (topS 75)) (defBody (topS 75)) (defScope (topS 75)) .none kVD_law_told_right dcD_law_told_right pmD_law_told_right anD_law_told_right cdD_law_told_right ctD_law_told_right), slD_law_told_right⟩)
    (ccD_law_told_right : PySem.W.codeIn K cdD_law_told_right "_law_told_right" = true)
    (kkD_law_told_right : PySem.W.keepIn K (.ref f__law_told_right) = true)
    (nD_law_changed_right : PySem.W.nsIn K mainGlobals "_law_changed_right" = some (some (.ref f__law_changed_right)))
    (lD_law_changed_right : K.lookup f__law_changed_right = some ⟨ocD_law_changed_right, odD_law_changed_right, .func (PySem.W.fnOf "_law_changed_right" "_law_changed_right" (defArgs (topS 76)) (defBody (topS 76)) (defScope (topS 76)) .none kVD_law_changed_right dcD_law_changed_right pmD_law_changed_right anD_law_changed_right cdD_law_changed_right ctD_law_changed_right), slD_law_changed_right⟩)
    (ccD_law_changed_right : PySem.W.codeIn K cdD_law_changed_right "_law_changed_right" = true)
    (kkD_law_changed_right : PySem.W.keepIn K (.ref f__law_changed_right) = true)
    (nD_law_heard : PySem.W.nsIn K mainGlobals "_law_heard" = some (some (.ref f__law_heard)))
    (lD_law_heard : K.lookup f__law_heard = some ⟨ocD_law_heard, odD_law_heard, .func (PySem.W.fnOf "_law_heard" "_law_heard" (defArgs (topS 77)) (defBody (topS 77)) (defScope (topS 77)) .none kVD_law_heard dcD_law_heard pmD_law_heard anD_law_heard cdD_law_heard ctD_law_heard), slD_law_heard⟩)
    (ccD_law_heard : PySem.W.codeIn K cdD_law_heard "_law_heard" = true)
    (kkD_law_heard : PySem.W.keepIn K (.ref f__law_heard) = true)
    (nD_law_refused_right : PySem.W.nsIn K mainGlobals "_law_refused_right" = some (some (.ref f__law_refused_right)))
    (lD_law_refused_right : K.lookup f__law_refused_right = some ⟨ocD_law_refused_right, odD_law_refused_right, .func (PySem.W.fnOf "_law_refused_right" "_law_refused_right" (defArgs (topS 78)) (defBody (topS 78)) (defScope (topS 78)) .none kVD_law_refused_right dcD_law_refused_right pmD_law_refused_right anD_law_refused_right cdD_law_refused_right ctD_law_refused_right), slD_law_refused_right⟩)
    (ccD_law_refused_right : PySem.W.codeIn K cdD_law_refused_right "_law_refused_right" = true)
    (kkD_law_refused_right : PySem.W.keepIn K (.ref f__law_refused_right) = true)
    (nD_law_soft_right : PySem.W.nsIn K mainGlobals "_law_soft_right" = some (some (.ref f__law_soft_right)))
    (lD_law_soft_right : K.lookup f__law_soft_right = some ⟨ocD_law_soft_right, odD_law_soft_right, .func (PySem.W.fnOf "_law_soft_right" "_law_soft_right" (defArgs (topS 79)) (defBody (topS 79)) (defScope (topS 79)) .none kVD_law_soft_right dcD_law_soft_right pmD_law_soft_right anD_law_soft_right cdD_law_soft_right ctD_law_soft_right), slD_law_soft_right⟩)
    (ccD_law_soft_right : PySem.W.codeIn K cdD_law_soft_right "_law_soft_right" = true)
    (kkD_law_soft_right : PySem.W.keepIn K (.ref f__law_soft_right) = true)
    (nDlaw : PySem.W.nsIn K mainGlobals "law" = some (some (.ref f_law)))
    (lDlaw : K.lookup f_law = some ⟨ocDlaw, odDlaw, .func (PySem.W.fnOf "law" "law" (defArgs (topS 80)) (defBody (topS 80)) (defScope (topS 80)) .none kVDlaw dcDlaw pmDlaw anDlaw cdDlaw ctDlaw), slDlaw⟩)
    (ccDlaw : PySem.W.codeIn K cdDlaw "law" = true)
    (kkDlaw : PySem.W.keepIn K (.ref f_law) = true)
    (q1LookupError_NoPlace : PySem.W.kitOne K (.ref C_NoPlace) (.type "LookupError") = some true)
    (q1LookupError_CanNot : PySem.W.kitOne K (.ref C_CanNot) (.type "LookupError") = some false)
    (q1LookupError_Unfit : PySem.W.kitOne K (.ref C_Unfit) (.type "LookupError") = some false)
    (q1ValueError_NoPlace : PySem.W.kitOne K (.ref C_NoPlace) (.type "ValueError") = some false)
    (q1ValueError_CanNot : PySem.W.kitOne K (.ref C_CanNot) (.type "ValueError") = some true)
    (q1ValueError_Unfit : PySem.W.kitOne K (.ref C_Unfit) (.type "ValueError") = some true)
    (q3NoPlace_NoPlace : PySem.W.subIn K (.ref C_NoPlace) (.ref C_NoPlace) = some true)
    (q3NoPlace_CanNot : PySem.W.subIn K (.ref C_CanNot) (.ref C_NoPlace) = some false)
    (q3NoPlace_Unfit : PySem.W.subIn K (.ref C_Unfit) (.ref C_NoPlace) = some false)
    (q3Unfit_NoPlace : PySem.W.subIn K (.ref C_NoPlace) (.ref C_Unfit) = some false)
    (q3Unfit_CanNot : PySem.W.subIn K (.ref C_CanNot) (.ref C_Unfit) = some false)
    (q3Unfit_Unfit : PySem.W.subIn K (.ref C_Unfit) (.ref C_Unfit) = some true)
    (n_LookupError : PySem.W.nsIn K mainGlobals "LookupError" = some none)
    (n_ValueError : PySem.W.nsIn K mainGlobals "ValueError" = some none)
    (n_abs : PySem.W.nsIn K mainGlobals "abs" = some none)
    (n_all : PySem.W.nsIn K mainGlobals "all" = some none)
    (n_any : PySem.W.nsIn K mainGlobals "any" = some none)
    (n_bool : PySem.W.nsIn K mainGlobals "bool" = some none)
    (n_enumerate : PySem.W.nsIn K mainGlobals "enumerate" = some none)
    (n_int : PySem.W.nsIn K mainGlobals "int" = some none)
    (n_isinstance : PySem.W.nsIn K mainGlobals "isinstance" = some none)
    (n_len : PySem.W.nsIn K mainGlobals "len" = some none)
    (n_list : PySem.W.nsIn K mainGlobals "list" = some none)
    (n_range : PySem.W.nsIn K mainGlobals "range" = some none)
    (n_sorted : PySem.W.nsIn K mainGlobals "sorted" = some none)
    (n_str : PySem.W.nsIn K mainGlobals "str" = some none)
    (n_tuple : PySem.W.nsIn K mainGlobals "tuple" = some none)
    (n_zip : PySem.W.nsIn K mainGlobals "zip" = some none)
    (m_gcd : PySem.W.nsIn K mainGlobals "gcd" = some (some (.builtin "math.gcd")))
    (nx_ONE : PySem.W.nsIn K mainGlobals "ONE" = some (some (.ref ca0)))
    (lc0 : K.lookup ca0 = some ⟨.type "tuple", cd0, .seq #[(.int 1 tk1), (.int 1 tk2)] cn0, cs0⟩)
    (nx_ZERO : PySem.W.nsIn K mainGlobals "ZERO" = some (some (.ref ca3)))
    (lc3 : K.lookup ca3 = some ⟨.type "tuple", cd3, .seq #[(.int 0 tk4), (.int 1 tk5)] cn3, cs3⟩)
    (nx_FAULTS : PySem.W.nsIn K mainGlobals "FAULTS" = some (some (.ref ca6)))
    (lc6 : K.lookup ca6 = some ⟨.type "tuple", cd6, .seq #[(.str "bare grant" tk7), (.str "bare release" tk8), (.str "forgets" tk9), (.str "revives" tk10)] cn6, cs6⟩)
    (nx_SINGLE : PySem.W.nsIn K mainGlobals "SINGLE" = some (some (.ref ca11)))
    (lc13 : K.lookup ca13 = some ⟨.type "tuple", cd13, .seq #[(.str "lots" tk14)] cn13, cs13⟩)
    (lc15 : K.lookup ca15 = some ⟨.type "tuple", cd15, .seq #[(.int 0 tk16)] cn15, cs15⟩)
    (lc12 : K.lookup ca12 = some ⟨.type "tuple", cd12, .seq #[(.ref ca13), (.ref ca15)] cn12, cs12⟩)
    (lc18 : K.lookup ca18 = some ⟨.type "tuple", cd18, .seq #[(.str "faults" tk19)] cn18, cs18⟩)
    (lc20 : K.lookup ca20 = some ⟨.type "tuple", cd20, .seq #[(.int 6 tk21)] cn20, cs20⟩)
    (lc17 : K.lookup ca17 = some ⟨.type "tuple", cd17, .seq #[(.ref ca18), (.ref ca20)] cn17, cs17⟩)
    (lc23 : K.lookup ca23 = some ⟨.type "tuple", cd23, .seq #[(.str "term" tk24)] cn23, cs23⟩)
    (lc25 : K.lookup ca25 = some ⟨.type "tuple", cd25, .seq #[(.int 4 tk26), (.int 0 tk27)] cn25, cs25⟩)
    (lc22 : K.lookup ca22 = some ⟨.type "tuple", cd22, .seq #[(.ref ca23), (.ref ca25)] cn22, cs22⟩)
    (lc29 : K.lookup ca29 = some ⟨.type "tuple", cd29, .seq #[(.str "counts" tk30)] cn29, cs29⟩)
    (lc31 : K.lookup ca31 = some ⟨.type "tuple", cd31, .seq #[(.int 4 tk32), (.int 1 tk33)] cn31, cs31⟩)
    (lc28 : K.lookup ca28 = some ⟨.type "tuple", cd28, .seq #[(.ref ca29), (.ref ca31)] cn28, cs28⟩)
    (lc35 : K.lookup ca35 = some ⟨.type "tuple", cd35, .seq #[(.str "stop" tk36)] cn35, cs35⟩)
    (lc37 : K.lookup ca37 = some ⟨.type "tuple", cd37, .seq #[(.int 4 tk38), (.int 2 tk39)] cn37, cs37⟩)
    (lc34 : K.lookup ca34 = some ⟨.type "tuple", cd34, .seq #[(.ref ca35), (.ref ca37)] cn34, cs34⟩)
    (lc41 : K.lookup ca41 = some ⟨.type "tuple", cd41, .seq #[(.str "releases" tk42)] cn41, cs41⟩)
    (lc43 : K.lookup ca43 = some ⟨.type "tuple", cd43, .seq #[(.int 4 tk44), (.int 3 tk45)] cn43, cs43⟩)
    (lc40 : K.lookup ca40 = some ⟨.type "tuple", cd40, .seq #[(.ref ca41), (.ref ca43)] cn40, cs40⟩)
    (lc47 : K.lookup ca47 = some ⟨.type "tuple", cd47, .seq #[(.str "sealed" tk48)] cn47, cs47⟩)
    (lc49 : K.lookup ca49 = some ⟨.type "tuple", cd49, .seq #[(.int 4 tk50), (.int 4 tk51)] cn49, cs49⟩)
    (lc46 : K.lookup ca46 = some ⟨.type "tuple", cd46, .seq #[(.ref ca47), (.ref ca49)] cn46, cs46⟩)
    (lc11 : K.lookup ca11 = some ⟨.type "tuple", cd11, .seq #[(.ref ca12), (.ref ca17), (.ref ca22), (.ref ca28), (.ref ca34), (.ref ca40), (.ref ca46)] cn11, cs11⟩)
    (nx_KEEPER_PARTS : PySem.W.nsIn K mainGlobals "KEEPER_PARTS" = some (some (.ref ca52)))
    (lc52 : K.lookup ca52 = some ⟨.type "tuple", cd52, .seq #[(.str "length" tk53), (.str "record" tk54), (.str "grace" tk55)] cn52, cs52⟩)
    (nx_STORE_PARTS : PySem.W.nsIn K mainGlobals "STORE_PARTS" = some (some (.ref ca56)))
    (lc56 : K.lookup ca56 = some ⟨.type "tuple", cd56, .seq #[(.str "asks" tk57), (.str "keeps" tk58)] cn56, cs56⟩)
    (nx_WHO : PySem.W.nsIn K mainGlobals "WHO" = some (some (.ref ca59)))
    (lc59 : K.lookup ca59 = some ⟨.type "tuple", cd59, .seq #[(.str "client" tk60), (.str "keeper" tk61)] cn59, cs59⟩)
    (nx_LEGS : PySem.W.nsIn K mainGlobals "LEGS" = some (some (.ref ca62)))
    (lc62 : K.lookup ca62 = some ⟨.type "tuple", cd62, .seq #[(.str "ask" tk63), (.str "grant" tk64), (.str "deed" tk65), (.str "back" tk66)] cn62, cs62⟩)
    (nx_TIMES : PySem.W.nsIn K mainGlobals "TIMES" = some (some (.ref ca67)))
    (lc67 : K.lookup ca67 = some ⟨.type "tuple", cd67, .seq #[(.str "term" tk68), (.str "stop" tk69), (.str "length" tk70), (.str "grace" tk71), (.str "least" tk72), (.str "most" tk73)] cn67, cs67⟩)
    (na_is_answer : PySem.W.nsIn K mainGlobals "is_answer" = some none)
    (na_edges : PySem.W.nsIn K mainGlobals "edges" = some none) :
    ∃ fd : FuncData, (∀ (s : Shared) (v : Value), BindsTo s fd ⟨[v], []⟩ [("script", v)]) ∧ (∀ x ∈ gdefs, x ∈ (["is_tuple_of", "goes_up", "_path"] : List Str) ∨ PySem.W.tabIn K x = none) ∧ ∀ base : Heap, K.In base → base.Ns mainGlobals mg → (∀ p ∈ tabsOf K ["is_tuple_of", "goes_up", "_path"], GxR.TabB base mg p.1 p.2) → FnOk P w K mg base (L2.CX P w) 18 fa fd ["script"] (spF K 1 r_law) := by
  have e := hfa.symm.trans (PySem.W.mg_of X G nDlaw)
  cases e
  have A_NoPlace : OxA K C_NoPlace := ⟨hd_NoPlace, ga_NoPlace, gg_NoPlace, sx_NoPlace, cl_NoPlace, ob_NoPlace, ty_NoPlace⟩
  have F_NoPlace := fun_mk (st := (inClass (topS 2) 0)) lXNoPlace ccXNoPlace kkXNoPlace
  have A_Unfit : OxA K C_Unfit := ⟨hd_Unfit, ga_Unfit, gg_Unfit, sx_Unfit, cl_Unfit, ob_Unfit, ty_Unfit⟩
  have F_Unfit := fun_mk (st := (inClass (topS 4) 0)) lXUnfit ccXUnfit kkXUnfit
  have A_CanNot : OxA K C_CanNot := ⟨hd_CanNot, ga_CanNot, gg_CanNot, sx_CanNot, cl_CanNot, ob_CanNot, ty_CanNot⟩
  have F_CanNot := fun_mk (st := (inClass (topS 3) 0)) lXCanNot ccXCanNot kkXCanNot
  have F_tupled := fun_mk (st := topS 6) lDtupled ccDtupled kkDtupled
  have F_is_number := fun_mk (st := topS 7) lDis_number ccDis_number kkDis_number
  have F_is_count := fun_mk (st := topS 8) lDis_count ccDis_count kkDis_count
  have F_is_place := fun_mk (st := topS 9) lDis_place ccDis_place kkDis_place
  have F_is_truth := fun_mk (st := topS 10) lDis_truth ccDis_truth kkDis_truth
  have q_is_tuple_of : PySem.W.tabIn K "is_tuple_of" = some (c_is_tuple_of, P_is_tuple_of) := tabIn_mk nDis_tuple_of lDis_tuple_of rfl lt_is_tuple_of ht_is_tuple_of
  have F_is_tuple_of := fun_mk (st := topS 11) lDis_tuple_of ccDis_tuple_of kkDis_tuple_of
  have F_is_row := fun_mk (st := topS 12) lDis_row ccDis_row kkDis_row
  have q_goes_up : PySem.W.tabIn K "goes_up" = some (c_goes_up, P_goes_up) := tabIn_mk nDgoes_up lDgoes_up rfl lt_goes_up ht_goes_up
  have F_goes_up := fun_mk (st := topS 13) lDgoes_up ccDgoes_up kkDgoes_up
  have F_fraction := fun_mk (st := topS 17) lDfraction ccDfraction kkDfraction
  have F_is_fraction := fun_mk (st := topS 18) lDis_fraction ccDis_fraction kkDis_fraction
  have F_plus := fun_mk (st := topS 19) lDplus ccDplus kkDplus
  have F_times := fun_mk (st := topS 20) lDtimes ccDtimes kkDtimes
  have F_over := fun_mk (st := topS 21) lDover ccDover kkDover
  have F_less := fun_mk (st := topS 22) lDless ccDless kkDless
  have F_is_from_zero := fun_mk (st := topS 23) lDis_from_zero ccDis_from_zero kkDis_from_zero
  have F_is_most := fun_mk (st := topS 24) lDis_most ccDis_most kkDis_most
  have F_is_clock := fun_mk (st := topS 26) lDis_clock ccDis_clock kkDis_clock
  have F__is_length := fun_mk (st := topS 41) lD_is_length ccD_is_length kkD_is_length
  have F_is_kept := fun_mk (st := topS 40) lDis_kept ccDis_kept kkDis_kept
  have F_is_lot := fun_mk (st := topS 39) lDis_lot ccDis_lot kkDis_lot
  have F_is_lots := fun_mk (st := topS 38) lDis_lots ccDis_lots kkDis_lots
  have F_is_leg := fun_mk (st := topS 42) lDis_leg ccDis_leg kkDis_leg
  have F_is_library := fun_mk (st := topS 43) lDis_library ccDis_library kkDis_library
  have F__is_store := fun_mk (st := topS 44) lD_is_store ccD_is_store kkD_is_store
  have F__is_fault := fun_mk (st := topS 37) lD_is_fault ccD_is_fault kkD_is_fault
  have F_is_faults := fun_mk (st := topS 36) lDis_faults ccDis_faults kkDis_faults
  have F_is_plan := fun_mk (st := topS 35) lDis_plan ccDis_plan kkDis_plan
  have F__paths := fun_mk (st := topS 47) lD_paths ccD_paths kkD_paths
  have F_settings := fun_mk (st := topS 45) lDsettings ccDsettings kkDsettings
  have F__at := fun_mk (st := topS 49) lD_at ccD_at kkD_at
  have F_times_of := fun_mk (st := topS 46) lDtimes_of ccDtimes_of kkDtimes_of
  have q__path : PySem.W.tabIn K "_path" = some (c__path, P__path) := tabIn_mk nD_path lD_path rfl lt__path ht__path
  have F__path := fun_mk (st := topS 48) lD_path ccD_path kkD_path
  have F__with := fun_mk (st := topS 50) lD_with ccD_with kkD_with
  have F_setting := fun_mk (st := topS 51) lDsetting ccDsetting kkDsetting
  have F_changed := fun_mk (st := topS 52) lDchanged ccDchanged kkDchanged
  have F_scaled := fun_mk (st := topS 53) lDscaled ccDscaled kkDscaled
  have F_longest_belief := fun_mk (st := topS 54) lDlongest_belief ccDlongest_belief kkDlongest_belief
  have F_check_keeper := fun_mk (st := topS 56) lDcheck_keeper ccDcheck_keeper kkDcheck_keeper
  have F_shortest_keep := fun_mk (st := topS 55) lDshortest_keep ccDshortest_keep kkDshortest_keep
  have F_can_hold := fun_mk (st := topS 57) lDcan_hold ccDcan_hold kkDcan_hold
  have F__without_times := fun_mk (st := topS 59) lD_without_times ccD_without_times kkD_without_times
  have F_same_but_times := fun_mk (st := topS 58) lDsame_but_times ccDsame_but_times kkDsame_but_times
  have F__is_up_to := fun_mk (st := topS 62) lD_is_up_to ccD_is_up_to kkD_is_up_to
  have F__covers_leg := fun_mk (st := topS 61) lD_covers_leg ccD_covers_leg kkD_covers_leg
  have F_covers := fun_mk (st := topS 60) lDcovers ccDcovers kkDcovers
  have F__law_box := fun_mk (st := topS 64) lD_law_box ccD_law_box kkD_law_box
  have F__law_take := fun_mk (st := topS 65) lD_law_take ccD_law_take kkD_law_take
  have F__law_cells := fun_mk (st := topS 66) lD_law_cells ccD_law_cells kkD_law_cells
  have F__law_lists := fun_mk (st := topS 67) lD_law_lists ccD_law_lists kkD_law_lists
  have F__law_same := fun_mk (st := topS 68) lD_law_same ccD_law_same kkD_law_same
  have F__law_lone := fun_mk (st := topS 69) lD_law_lone ccD_law_lone kkD_law_lone
  have F__law_put := fun_mk (st := topS 70) lD_law_put ccD_law_put kkD_law_put
  have F__law_pair := fun_mk (st := topS 71) lD_law_pair ccD_law_pair kkD_law_pair
  have F__law_bent := fun_mk (st := topS 72) lD_law_bent ccD_law_bent kkD_law_bent
  have F__law_judged_right := fun_mk (st := topS 73) lD_law_judged_right ccD_law_judged_right kkD_law_judged_right
  have F__law_names := fun_mk (st := topS 74) lD_law_names ccD_law_names kkD_law_names
  have F__law_told_right := fun_mk (st := topS 75) lD_law_told_right ccD_law_told_right kkD_law_told_right
  have F__law_changed_right := fun_mk (st := topS 76) lD_law_changed_right ccD_law_changed_right kkD_law_changed_right
  have F__law_heard := fun_mk (st := topS 77) lD_law_heard ccD_law_heard kkD_law_heard
  have F__law_refused_right := fun_mk (st := topS 78) lD_law_refused_right ccD_law_refused_right kkD_law_refused_right
  have F__law_soft_right := fun_mk (st := topS 79) lD_law_soft_right ccD_law_soft_right kkD_law_soft_right
  have F_law := fun_mk (st := topS 80) lDlaw ccDlaw kkDlaw
  refine ⟨PySem.W.fnOf "law" "law" (defArgs (topS 80)) (defBody (topS 80)) (defScope (topS 80)) .none kVDlaw dcDlaw pmDlaw anDlaw cdDlaw ctDlaw, fun s v => .of_eq rfl, fun x hx => ?_, fun base _ _ TB => ?_⟩
  · simp only [gdefs, List.mem_cons, List.not_mem_nil, or_false] at hx
    rcases hx with rfl | rfl | rfl | rfl | rfl
    · exact .inl (by decide)
    · exact .inl (by decide)
    · exact .inl (by decide)
    · exact .inr (tabIn_no na_is_answer)
    · exact .inr (tabIn_no na_edges)
  have T : Σ' T : Tx K mg base, T.d_law.f = fa ∧ T.d_law.fd = PySem.W.fnOf "law" "law" (defArgs (topS 80)) (defBody (topS 80)) (defScope (topS 80)) .none kVDlaw dcDlaw pmDlaw anDlaw cdDlaw ctDlaw := ⟨{
    d_tupled := ⟨f_tupled, _, F_tupled, PySem.W.mg_of X G nDtupled, F_tupled.binds (ps := ["value"]) fun _ _ _ _ _ _ us hl => match us, hl with | [_], _ => rfl⟩
    d_is_number := ⟨f_is_number, _, F_is_number, PySem.W.mg_of X G nDis_number, F_is_number.binds (ps := ["thing"]) fun _ _ _ _ _ _ us hl => match us, hl with | [_], _ => rfl⟩
    d_is_count := ⟨f_is_count, _, F_is_count, PySem.W.mg_of X G nDis_count, F_is_count.binds (ps := ["thing"]) fun _ _ _ _ _ _ us hl => match us, hl with | [_], _ => rfl⟩
    d_is_place := ⟨f_is_place, _, F_is_place, PySem.W.mg_of X G nDis_place, F_is_place.binds (ps := ["many", "thing"]) fun _ _ _ _ _ _ us hl => match us, hl with | [_, _], _ => rfl⟩
    s_is_truth := nDis_truth
    d_is_truth := ⟨f_is_truth, _, F_is_truth, PySem.W.mg_of X G nDis_truth, F_is_truth.binds (ps := ["thing"]) fun _ _ _ _ _ _ us hl => match us, hl with | [_], _ => rfl⟩
    g_is_tuple_of := ⟨c_is_tuple_of, P_is_tuple_of, rfl, TB _ (List.mem_filterMap.mpr ⟨"is_tuple_of", by decide, q_is_tuple_of⟩), ⟨"is_tuple_of", by decide, c_is_tuple_of, q_is_tuple_of⟩⟩
    d_is_tuple_of := ⟨f_is_tuple_of, _, F_is_tuple_of, PySem.W.mg_of X G nDis_tuple_of, F_is_tuple_of.binds (ps := ["test", "thing"]) fun _ _ _ _ _ _ us hl => match us, hl with | [_, _], _ => rfl⟩
    d_is_row := ⟨f_is_row, _, F_is_row, PySem.W.mg_of X G nDis_row, F_is_row.binds (ps := ["many", "thing"]) fun _ _ _ _ _ _ us hl => match us, hl with | [_, _], _ => rfl⟩
    g_goes_up := ⟨c_goes_up, P_goes_up, rfl, TB _ (List.mem_filterMap.mpr ⟨"goes_up", by decide, q_goes_up⟩), ⟨"goes_up", by decide, c_goes_up, q_goes_up⟩⟩
    d_goes_up := ⟨f_goes_up, _, F_goes_up, PySem.W.mg_of X G nDgoes_up, F_goes_up.binds (ps := ["row"]) fun _ _ _ _ _ _ us hl => match us, hl with | [_], _ => rfl⟩
    d_fraction := ⟨f_fraction, _, F_fraction, PySem.W.mg_of X G nDfraction, F_fraction.binds (ps := ["top", "below"]) fun _ _ _ _ _ _ us hl => match us, hl with | [_, _], _ => rfl⟩
    s_is_fraction := nDis_fraction
    d_is_fraction := ⟨f_is_fraction, _, F_is_fraction, PySem.W.mg_of X G nDis_fraction, F_is_fraction.binds (ps := ["thing"]) fun _ _ _ _ _ _ us hl => match us, hl with | [_], _ => rfl⟩
    d_plus := ⟨f_plus, _, F_plus, PySem.W.mg_of X G nDplus, F_plus.binds (ps := ["x", "y"]) fun _ _ _ _ _ _ us hl => match us, hl with | [_, _], _ => rfl⟩
    d_times := ⟨f_times, _, F_times, PySem.W.mg_of X G nDtimes, F_times.binds (ps := ["x", "y"]) fun _ _ _ _ _ _ us hl => match us, hl with | [_, _], _ => rfl⟩
    d_over := ⟨f_over, _, F_over, PySem.W.mg_of X G nDover, F_over.binds (ps := ["x", "y"]) fun _ _ _ _ _ _ us hl => match us, hl with | [_, _], _ => rfl⟩
    d_less := ⟨f_less, _, F_less, PySem.W.mg_of X G nDless, F_less.binds (ps := ["x", "y"]) fun _ _ _ _ _ _ us hl => match us, hl with | [_, _], _ => rfl⟩
    d_is_from_zero := ⟨f_is_from_zero, _, F_is_from_zero, PySem.W.mg_of X G nDis_from_zero, F_is_from_zero.binds (ps := ["thing"]) fun _ _ _ _ _ _ us hl => match us, hl with | [_], _ => rfl⟩
    d_is_most := ⟨f_is_most, _, F_is_most, PySem.W.mg_of X G nDis_most, F_is_most.binds (ps := ["least_one", "thing"]) fun _ _ _ _ _ _ us hl => match us, hl with | [_, _], _ => rfl⟩
    s_is_clock := nDis_clock
    d_is_clock := ⟨f_is_clock, _, F_is_clock, PySem.W.mg_of X G nDis_clock, F_is_clock.binds (ps := ["thing"]) fun _ _ _ _ _ _ us hl => match us, hl with | [_], _ => rfl⟩
    d__is_length := ⟨f__is_length, _, F__is_length, PySem.W.mg_of X G nD_is_length, F__is_length.binds (ps := ["thing"]) fun _ _ _ _ _ _ us hl => match us, hl with | [_], _ => rfl⟩
    s_is_kept := nDis_kept
    d_is_kept := ⟨f_is_kept, _, F_is_kept, PySem.W.mg_of X G nDis_kept, F_is_kept.binds (ps := ["thing"]) fun _ _ _ _ _ _ us hl => match us, hl with | [_], _ => rfl⟩
    d_is_lot := ⟨f_is_lot, _, F_is_lot, PySem.W.mg_of X G nDis_lot, F_is_lot.binds (ps := ["many", "thing"]) fun _ _ _ _ _ _ us hl => match us, hl with | [_, _], _ => rfl⟩
    d_is_lots := ⟨f_is_lots, _, F_is_lots, PySem.W.mg_of X G nDis_lots, F_is_lots.binds (ps := ["many", "thing"]) fun _ _ _ _ _ _ us hl => match us, hl with | [_, _], _ => rfl⟩
    s_is_leg := nDis_leg
    d_is_leg := ⟨f_is_leg, _, F_is_leg, PySem.W.mg_of X G nDis_leg, F_is_leg.binds (ps := ["thing"]) fun _ _ _ _ _ _ us hl => match us, hl with | [_], _ => rfl⟩
    d_is_library := ⟨f_is_library, _, F_is_library, PySem.W.mg_of X G nDis_library, F_is_library.binds (ps := ["thing"]) fun _ _ _ _ _ _ us hl => match us, hl with | [_], _ => rfl⟩
    s__is_store := nD_is_store
    d__is_store := ⟨f__is_store, _, F__is_store, PySem.W.mg_of X G nD_is_store, F__is_store.binds (ps := ["thing"]) fun _ _ _ _ _ _ us hl => match us, hl with | [_], _ => rfl⟩
    s__is_fault := nD_is_fault
    d__is_fault := ⟨f__is_fault, _, F__is_fault, PySem.W.mg_of X G nD_is_fault, F__is_fault.binds (ps := ["thing"]) fun _ _ _ _ _ _ us hl => match us, hl with | [_], _ => rfl⟩
    d_is_faults := ⟨f_is_faults, _, F_is_faults, PySem.W.mg_of X G nDis_faults, F_is_faults.binds (ps := ["thing"]) fun _ _ _ _ _ _ us hl => match us, hl with | [_], _ => rfl⟩
    d_is_plan := ⟨f_is_plan, _, F_is_plan, PySem.W.mg_of X G nDis_plan, F_is_plan.binds (ps := ["thing"]) fun _ _ _ _ _ _ us hl => match us, hl with | [_], _ => rfl⟩
    d__paths := ⟨f__paths, _, F__paths, PySem.W.mg_of X G nD_paths, F__paths.binds (ps := ["plan"]) fun _ _ _ _ _ _ us hl => match us, hl with | [_], _ => rfl⟩
    d_settings := ⟨f_settings, _, F_settings, PySem.W.mg_of X G nDsettings, F_settings.binds (ps := ["plan"]) fun _ _ _ _ _ _ us hl => match us, hl with | [_], _ => rfl⟩
    d__at := ⟨f__at, _, F__at, PySem.W.mg_of X G nD_at, F__at.binds (ps := ["value", "path"]) fun _ _ _ _ _ _ us hl => match us, hl with | [_, _], _ => rfl⟩
    d_times_of := ⟨f_times_of, _, F_times_of, PySem.W.mg_of X G nDtimes_of, F_times_of.binds (ps := ["plan"]) fun _ _ _ _ _ _ us hl => match us, hl with | [_], _ => rfl⟩
    g__path := ⟨c__path, P__path, rfl, TB _ (List.mem_filterMap.mpr ⟨"_path", by decide, q__path⟩), ⟨"_path", by decide, c__path, q__path⟩⟩
    d__path := ⟨f__path, _, F__path, PySem.W.mg_of X G nD_path, F__path.binds (ps := ["plan", "name"]) fun _ _ _ _ _ _ us hl => match us, hl with | [_, _], _ => rfl⟩
    d__with := ⟨f__with, _, F__with, PySem.W.mg_of X G nD_with, F__with.binds (ps := ["value", "path", "new"]) fun _ _ _ _ _ _ us hl => match us, hl with | [_, _, _], _ => rfl⟩
    d_setting := ⟨f_setting, _, F_setting, PySem.W.mg_of X G nDsetting, F_setting.binds (ps := ["plan", "name"]) fun _ _ _ _ _ _ us hl => match us, hl with | [_, _], _ => rfl⟩
    d_changed := ⟨f_changed, _, F_changed, PySem.W.mg_of X G nDchanged, F_changed.binds (ps := ["plan", "name", "value"]) fun _ _ _ _ _ _ us hl => match us, hl with | [_, _, _], _ => rfl⟩
    d_scaled := ⟨f_scaled, _, F_scaled, PySem.W.mg_of X G nDscaled, F_scaled.binds (ps := ["plan", "factor"]) fun _ _ _ _ _ _ us hl => match us, hl with | [_, _], _ => rfl⟩
    d_longest_belief := ⟨f_longest_belief, _, F_longest_belief, PySem.W.mg_of X G nDlongest_belief, F_longest_belief.binds (ps := ["plan"]) fun _ _ _ _ _ _ us hl => match us, hl with | [_], _ => rfl⟩
    d_check_keeper := ⟨f_check_keeper, _, F_check_keeper, PySem.W.mg_of X G nDcheck_keeper, F_check_keeper.binds (ps := ["plan", "keeper"]) fun _ _ _ _ _ _ us hl => match us, hl with | [_, _], _ => rfl⟩
    d_shortest_keep := ⟨f_shortest_keep, _, F_shortest_keep, PySem.W.mg_of X G nDshortest_keep, F_shortest_keep.binds (ps := ["plan", "keeper"]) fun _ _ _ _ _ _ us hl => match us, hl with | [_, _], _ => rfl⟩
    d_can_hold := ⟨f_can_hold, _, F_can_hold, PySem.W.mg_of X G nDcan_hold, F_can_hold.binds (ps := ["plan"]) fun _ _ _ _ _ _ us hl => match us, hl with | [_], _ => rfl⟩
    d__without_times := ⟨f__without_times, _, F__without_times, PySem.W.mg_of X G nD_without_times, F__without_times.binds (ps := ["plan"]) fun _ _ _ _ _ _ us hl => match us, hl with | [_], _ => rfl⟩
    d_same_but_times := ⟨f_same_but_times, _, F_same_but_times, PySem.W.mg_of X G nDsame_but_times, F_same_but_times.binds (ps := ["plan", "other"]) fun _ _ _ _ _ _ us hl => match us, hl with | [_, _], _ => rfl⟩
    d__is_up_to := ⟨f__is_up_to, _, F__is_up_to, PySem.W.mg_of X G nD_is_up_to, F__is_up_to.binds (ps := ["most", "other"]) fun _ _ _ _ _ _ us hl => match us, hl with | [_, _], _ => rfl⟩
    d__covers_leg := ⟨f__covers_leg, _, F__covers_leg, PySem.W.mg_of X G nD_covers_leg, F__covers_leg.binds (ps := ["leg", "wider"]) fun _ _ _ _ _ _ us hl => match us, hl with | [_, _], _ => rfl⟩
    d_covers := ⟨f_covers, _, F_covers, PySem.W.mg_of X G nDcovers, F_covers.binds (ps := ["plan", "other"]) fun _ _ _ _ _ _ us hl => match us, hl with | [_, _], _ => rfl⟩
    d__law_box := ⟨f__law_box, _, F__law_box, PySem.W.mg_of X G nD_law_box, F__law_box.binds (ps := ["script", "k"]) fun _ _ _ _ _ _ us hl => match us, hl with | [_, _], _ => rfl⟩
    d__law_take := ⟨f__law_take, _, F__law_take, PySem.W.mg_of X G nD_law_take, F__law_take.binds (ps := ["urn", "below"]) fun _ _ _ _ _ _ us hl => match us, hl with | [_, _], _ => rfl⟩
    d__law_cells := ⟨f__law_cells, _, F__law_cells, PySem.W.mg_of X G nD_law_cells, F__law_cells.binds (ps := ["script", "many"]) fun _ _ _ _ _ _ us hl => match us, hl with | [_, _], _ => rfl⟩
    d__law_lists := ⟨f__law_lists, _, F__law_lists, PySem.W.mg_of X G nD_law_lists, F__law_lists.binds (ps := ["matter"]) fun _ _ _ _ _ _ us hl => match us, hl with | [_], _ => rfl⟩
    d__law_same := ⟨f__law_same, _, F__law_same, PySem.W.mg_of X G nD_law_same, F__law_same.binds (ps := ["got", "due"]) fun _ _ _ _ _ _ us hl => match us, hl with | [_, _], _ => rfl⟩
    d__law_lone := ⟨f__law_lone, _, F__law_lone, PySem.W.mg_of X G nD_law_lone, F__law_lone.binds (ps := []) fun _ _ _ _ _ _ us hl => match us, hl with | [], _ => rfl⟩
    d__law_put := ⟨f__law_put, _, F__law_put, PySem.W.mg_of X G nD_law_put, F__law_put.binds (ps := ["whole", "path", "value"]) fun _ _ _ _ _ _ us hl => match us, hl with | [_, _, _], _ => rfl⟩
    d__law_pair := ⟨f__law_pair, _, F__law_pair, PySem.W.mg_of X G nD_law_pair, F__law_pair.binds (ps := []) fun _ _ _ _ _ _ us hl => match us, hl with | [], _ => rfl⟩
    d__law_bent := ⟨f__law_bent, _, F__law_bent, PySem.W.mg_of X G nD_law_bent, F__law_bent.binds (ps := []) fun _ _ _ _ _ _ us hl => match us, hl with | [], _ => rfl⟩
    s__law_judged_right := nD_law_judged_right
    d__law_judged_right := ⟨f__law_judged_right, _, F__law_judged_right, PySem.W.mg_of X G nD_law_judged_right, F__law_judged_right.binds (ps := []) fun _ _ _ _ _ _ us hl => match us, hl with | [], _ => rfl⟩
    d__law_names := ⟨f__law_names, _, F__law_names, PySem.W.mg_of X G nD_law_names, F__law_names.binds (ps := []) fun _ _ _ _ _ _ us hl => match us, hl with | [], _ => rfl⟩
    d__law_told_right := ⟨f__law_told_right, _, F__law_told_right, PySem.W.mg_of X G nD_law_told_right, F__law_told_right.binds (ps := []) fun _ _ _ _ _ _ us hl => match us, hl with | [], _ => rfl⟩
    s__law_changed_right := nD_law_changed_right
    d__law_changed_right := ⟨f__law_changed_right, _, F__law_changed_right, PySem.W.mg_of X G nD_law_changed_right, F__law_changed_right.binds (ps := []) fun _ _ _ _ _ _ us hl => match us, hl with | [], _ => rfl⟩
    d__law_heard := ⟨f__law_heard, _, F__law_heard, PySem.W.mg_of X G nD_law_heard, F__law_heard.binds (ps := ["door", "its"]) fun _ _ _ _ _ _ us hl => match us, hl with | [_, _], _ => rfl⟩
    d__law_refused_right := ⟨f__law_refused_right, _, F__law_refused_right, PySem.W.mg_of X G nD_law_refused_right, F__law_refused_right.binds (ps := []) fun _ _ _ _ _ _ us hl => match us, hl with | [], _ => rfl⟩
    s__law_soft_right := nD_law_soft_right
    d__law_soft_right := ⟨f__law_soft_right, _, F__law_soft_right, PySem.W.mg_of X G nD_law_soft_right, F__law_soft_right.binds (ps := []) fun _ _ _ _ _ _ us hl => match us, hl with | [], _ => rfl⟩
    d_law := ⟨fa, _, F_law, PySem.W.mg_of X G nDlaw, F_law.binds (ps := ["script"]) fun _ _ _ _ _ _ us hl => match us, hl with | [_], _ => rfl⟩
    c_NoPlace := ⟨C_NoPlace, fI_NoPlace, _, PySem.W.mg_of X G a_NoPlace, a_NoPlace, ⟨d_NoPlace, e_NoPlace, sa_NoPlace, ke_NoPlace, A_NoPlace⟩, b_NoPlace, c_NoPlace, F_NoPlace, F_NoPlace.binds (ps := ["self", "place"]) fun _ _ _ _ _ _ us hl => match us, hl with | [_, _], _ => rfl⟩
    t_NoPlace := tf_NoPlace
    k_NoPlace := fun _ _ _ => .of_eq rfl
    c_Unfit := ⟨C_Unfit, fI_Unfit, _, PySem.W.mg_of X G a_Unfit, a_Unfit, ⟨d_Unfit, e_Unfit, sa_Unfit, ke_Unfit, A_Unfit⟩, b_Unfit, c_Unfit, F_Unfit, F_Unfit.binds (ps := ["self"]) fun _ _ _ _ _ _ us hl => match us, hl with | [_], _ => rfl⟩
    c_CanNot := ⟨C_CanNot, fI_CanNot, _, PySem.W.mg_of X G a_CanNot, a_CanNot, ⟨d_CanNot, e_CanNot, sa_CanNot, ke_CanNot, A_CanNot⟩, b_CanNot, c_CanNot, F_CanNot, F_CanNot.binds (ps := ["self"]) fun _ _ _ _ _ _ us hl => match us, hl with | [_], _ => rfl⟩
    v_LookupError := v_LookupError
    v_ValueError := v_ValueError
    ox := ⟨o1, o2⟩
    i_LookupError := (tab_one [("NoPlace", true), ("CanNot", false), ("Unfit", false)] (by refine .cons a_NoPlace A_NoPlace q1LookupError_NoPlace ?_; refine .cons a_CanNot A_CanNot q1LookupError_CanNot ?_; refine .cons a_Unfit A_Unfit q1LookupError_Unfit ?_; exact .nil))
    i_ValueError := (tab_one [("NoPlace", false), ("CanNot", true), ("Unfit", true)] (by refine .cons a_NoPlace A_NoPlace q1ValueError_NoPlace ?_; refine .cons a_CanNot A_CanNot q1ValueError_CanNot ?_; refine .cons a_Unfit A_Unfit q1ValueError_Unfit ?_; exact .nil))
    h_NoPlace := tab_xm [("NoPlace", true), ("CanNot", false), ("Unfit", false)] (by refine .cons a_NoPlace (exm_own A_NoPlace q3NoPlace_NoPlace) ?_; refine .cons a_CanNot (exm_own A_NoPlace q3NoPlace_CanNot) ?_; refine .cons a_Unfit (exm_own A_NoPlace q3NoPlace_Unfit) ?_; exact .nil)
    h_Unfit := tab_xm [("NoPlace", false), ("CanNot", false), ("Unfit", true)] (by refine .cons a_NoPlace (exm_own A_Unfit q3Unfit_NoPlace) ?_; refine .cons a_CanNot (exm_own A_Unfit q3Unfit_CanNot) ?_; refine .cons a_Unfit (exm_own A_Unfit q3Unfit_Unfit) ?_; exact .nil)
    w_is_plan := fun _ ws hl => match ws, hl with | [_], _ => .of_eq rfl
    w_times_of := fun _ ws hl => match ws, hl with | [_], _ => .of_eq rfl
    w_settings := fun _ ws hl => match ws, hl with | [_], _ => .of_eq rfl
    w_can_hold := fun _ ws hl => match ws, hl with | [_], _ => .of_eq rfl
    w_longest_belief := fun _ ws hl => match ws, hl with | [_], _ => .of_eq rfl
    wp_scaled_factor_plan := fun _ ws hl => match ws, hl with | [_, _], _ => .of_eq rfl
    wp_changed_value_name_plan := fun _ ws hl => match ws, hl with | [_, _, _], _ => .of_eq rfl
    wp_setting_name_plan := fun _ ws hl => match ws, hl with | [_, _], _ => .of_eq rfl
    wp_covers_other_plan := fun _ ws hl => match ws, hl with | [_, _], _ => .of_eq rfl
    wp_same_but_times_other_plan := fun _ ws hl => match ws, hl with | [_, _], _ => .of_eq rfl
    wp_shortest_keep_keeper_plan := fun _ ws hl => match ws, hl with | [_, _], _ => .of_eq rfl
    f_place := tab_fld (by refine .cons a_NoPlace A_NoPlace ff_NoPlace ?_; exact .nil)
    n_LookupError := PySem.W.mg_none_of X G n_LookupError
    n_ValueError := PySem.W.mg_none_of X G n_ValueError
    n_abs := PySem.W.mg_none_of X G n_abs
    n_all := PySem.W.mg_none_of X G n_all
    n_any := PySem.W.mg_none_of X G n_any
    n_bool := PySem.W.mg_none_of X G n_bool
    n_enumerate := PySem.W.mg_none_of X G n_enumerate
    n_int := PySem.W.mg_none_of X G n_int
    n_isinstance := PySem.W.mg_none_of X G n_isinstance
    n_len := PySem.W.mg_none_of X G n_len
    n_list := PySem.W.mg_none_of X G n_list
    n_range := PySem.W.mg_none_of X G n_range
    n_sorted := PySem.W.mg_none_of X G n_sorted
    n_str := PySem.W.mg_none_of X G n_str
    n_tuple := PySem.W.mg_none_of X G n_tuple
    n_zip := PySem.W.mg_none_of X G n_zip
    m_gcd := PySem.W.mg_of X G m_gcd
    x_ONE := cst_of X G nx_ONE (cv_tup lc0 (cv_cons cv_int (cv_cons cv_int cv_nil)) rfl)
    x_ZERO := cst_of X G nx_ZERO (cv_tup lc3 (cv_cons cv_int (cv_cons cv_int cv_nil)) rfl)
    x_FAULTS := cst_of X G nx_FAULTS (cv_tup lc6 (cv_cons cv_str (cv_cons cv_str (cv_cons cv_str (cv_cons cv_str cv_nil)))) rfl)
    x_SINGLE := cst_of X G nx_SINGLE (cv_tup lc11 (cv_cons (cv_tup lc12 (cv_cons (cv_tup lc13 (cv_cons cv_str cv_nil) rfl) (cv_cons (cv_tup lc15 (cv_cons cv_int cv_nil) rfl) cv_nil)) rfl) (cv_cons (cv_tup lc17 (cv_cons (cv_tup lc18 (cv_cons cv_str cv_nil) rfl) (cv_cons (cv_tup lc20 (cv_cons cv_int cv_nil) rfl) cv_nil)) rfl) (cv_cons (cv_tup lc22 (cv_cons (cv_tup lc23 (cv_cons cv_str cv_nil) rfl) (cv_cons (cv_tup lc25 (cv_cons cv_int (cv_cons cv_int cv_nil)) rfl) cv_nil)) rfl) (cv_cons (cv_tup lc28 (cv_cons (cv_tup lc29 (cv_cons cv_str cv_nil) rfl) (cv_cons (cv_tup lc31 (cv_cons cv_int (cv_cons cv_int cv_nil)) rfl) cv_nil)) rfl) (cv_cons (cv_tup lc34 (cv_cons (cv_tup lc35 (cv_cons cv_str cv_nil) rfl) (cv_cons (cv_tup lc37 (cv_cons cv_int (cv_cons cv_int cv_nil)) rfl) cv_nil)) rfl) (cv_cons (cv_tup lc40 (cv_cons (cv_tup lc41 (cv_cons cv_str cv_nil) rfl) (cv_cons (cv_tup lc43 (cv_cons cv_int (cv_cons cv_int cv_nil)) rfl) cv_nil)) rfl) (cv_cons (cv_tup lc46 (cv_cons (cv_tup lc47 (cv_cons cv_str cv_nil) rfl) (cv_cons (cv_tup lc49 (cv_cons cv_int (cv_cons cv_int cv_nil)) rfl) cv_nil)) rfl) cv_nil))))))) rfl)
    x_KEEPER_PARTS := cst_of X G nx_KEEPER_PARTS (cv_tup lc52 (cv_cons cv_str (cv_cons cv_str (cv_cons cv_str cv_nil))) rfl)
    x_STORE_PARTS := cst_of X G nx_STORE_PARTS (cv_tup lc56 (cv_cons cv_str (cv_cons cv_str cv_nil)) rfl)
    x_WHO := cst_of X G nx_WHO (cv_tup lc59 (cv_cons cv_str (cv_cons cv_str cv_nil)) rfl)
    x_LEGS := cst_of X G nx_LEGS (cv_tup lc62 (cv_cons cv_str (cv_cons cv_str (cv_cons cv_str (cv_cons cv_str cv_nil)))) rfl)
    x_TIMES := cst_of X G nx_TIMES (cv_tup lc67 (cv_cons cv_str (cv_cons cv_str (cv_cons cv_str (cv_cons cv_str (cv_cons cv_str (cv_cons cv_str cv_nil)))))) rfl) }, rfl, rfl⟩
  obtain ⟨T, t1, t2⟩ := T
  exact t1 ▸ t2 ▸ ok_law (P := P) (w := w) (base := base) T
def isT : R PV → Bool
  | .ok (.bl true) _ => true
  | _ => false

/-! the urn of a script -/
theorem bits_lt {z : Int} {n : Nat} (h : Builtin.Int.intBits z ≤ n) : z.natAbs < 2 ^ n := by
  unfold Builtin.Int.intBits at h
  by_cases q : (z == 0) = true
  · have : z = 0 := by simpa using q
    subst this
    exact Nat.two_pow_pos n
  · rw [if_neg q] at h
    have hz : z ≠ 0 := fun e => q (by simp [e])
    have h0 : z.natAbs ≠ 0 := by omega
    have h1 := Nat.lt_log2_self (n := z.natAbs)
    exact Nat.lt_of_lt_of_le h1 (Nat.pow_le_pow_right (by decide) h)
theorem log2_lt' {x n : Nat} (h : x < 2 ^ n) (h0 : 0 < n) : x.log2 < n := by
  by_cases q : x = 0
  · subst q; exact h0
  · exact (Nat.log2_lt q).mpr h
theorem cMul_of {x y : Int} {a b : Nat} (hx : x.natAbs < 2 ^ a) (hy : y.natAbs < 2 ^ b) (ha : 0 < a) (hb : 0 < b) (h : a + b ≤ 100000000) : cMul x y = true := by
  have h1 := log2_lt' hx ha
  have h2 := log2_lt' hy hb
  exact Nat.ble_eq_true_of_le (by omega)
theorem getR {s : Sto} (b : Bx) : (s ++ [b])[s.length]? = some b := by simp
def BIG : Nat := 2 ^ 1048576
theorem big_pow (k : Nat) : BIG * 2 ^ k = 2 ^ (1048576 + k) := (Nat.pow_add 2 1048576 k).symm
def cellI (J : List PV) : MIt := enuI fun i _ => nthC J i
theorem cellI_eq (J : List PV) (i : Nat) (s : Sto) : cellI J i s = match J[i]? with | some v => some (.tup [.int (i : Nat), v]) | none => none := by
  unfold cellI enuI
  simp only [nthC_eq]
  try (cases J[i]? <;> rfl)
theorem cut1 (n : Int) (r : List Int) : cutP ((n :: r).map PV.int) none (some 1) = [.int n] := by
  unfold cutP
  simp [HT.sIx]
theorem cutR (n : Int) (r : List Int) (h : r.length ≤ 62) : cutP ((n :: r).map PV.int) (some 1) (some 63) = r.map PV.int := by
  unfold cutP
  simp [HT.sIx]
  rw [show min 63 (r.length + 1) - 1 = r.length by omega]
  rw [← List.map_take, List.take_length]
def cellB : MS := (sSeq (sAsg (mBin gMod (mCall gInt (mCons (mVar 3) mNil)) (mVar 1)) (gNm 5)) (sAsg (mBin (gAdd false) (mBin gIx (mVar 2) (mBin gMod (mVar 5) (mCall gLen (mCons (mVar 2) mNil)))) (mBin (gMul false) (mVar 4) (mBin (gAdd false) (mVar 3) (mC (.int 2))))) (gSb (mVar 2) (mBin gMod (mVar 5) (mCall gLen (mCons (mVar 2) mNil))))))
theorem cell_turn (s : Sto) (m i : Nat) (c z : Int) (a : PV) (o : Option PV) (o3 o4 : Option PV) (hs : s[m]? = some (.l [.int c])) (hm : m < s.length) (hc : cMul z ((i : Nat) + 2) = true) :
    cellB [some a, some (.int 1), some (.box m), some (.int (i : Nat)), some (.int z), o] s = .nx [some a, some (.int 1), some (.box m), some (.int (i : Nat)), some (.int z), some (.int 0)] (s.set m (.l [.int (c + z * ((i : Nat) + 2))])) := by
  have e1 : cMod (i : Int) 1 = true := rfl
  have e2 : cMod 0 1 = true := rfl
  have e3 : ((i : Nat) : Int) % 1 = 0 := by omega
  unfold cellB
  simp [sSeq, sAsg, mBin, mVar, nthR_eq, mC, mCall, mCons, mNil, gInt, gMod, gI, e1, e3, R.bind, R.fl, gNm, setR_eq, gSb, R.noex, gLen, getQ, getF, lsO, hs, e2, gIx, atC_eq, atI, ixN, gAdd, gMul, hc]
theorem cell_loop (B : Nat) (hB : ∀ z : Int, z.natAbs < B → ∀ i : Nat, i ≤ 62 → cMul z ((i : Nat) + 2) = true) (L : List Int) (a : PV) : ∀ (k i N m : Nat) (c : Int) (s : Sto) (o3 o4 o5 : Option PV), i + k = L.length → L.length ≤ 62 → (∀ z ∈ L, z.natAbs < B) → k + 1 ≤ N → s[m]? = some (.l [.int c]) → c.natAbs ≤ B * (1 + 64 * i) →
    ∃ (c' : Int) (o3' o4' o5' : Option PV), forL (cellI (L.map .int)) (gTp 2 (gC (gNm 3) (gC (gNm 4) gN0))) cellB N i [some a, some (.int 1), some (.box m), o3, o4, o5] s = .nx [some a, some (.int 1), some (.box m), o3', o4', o5'] (s.set m (.l [.int c'])) ∧ c'.natAbs ≤ B * (1 + 64 * L.length)
  | 0, i, N, m, c, s, o3, o4, o5, e, hL, hz, hN, hs, hc => by
    obtain ⟨N, rfl⟩ : ∃ q, N = q + 1 := ⟨N - 1, by omega⟩
    refine ⟨c, o3, o4, o5, ?_, by rw [← e]; exact hc⟩
    unfold forL
    rw [cellI_eq, List.getElem?_eq_none (by simp; omega)]
    show Fl.nx _ s = Fl.nx _ _
    congr 1
    have hm := (List.getElem?_eq_some_iff.mp hs).1
    apply List.ext_getElem?
    intro j
    by_cases q : m = j
    · subst q; rw [List.getElem?_set_self hm, hs]
    · rw [List.getElem?_set_ne q]
  | k + 1, i, N, m, c, s, o3, o4, o5, e, hL, hz, hN, hs, hc => by
    obtain ⟨N, rfl⟩ : ∃ q, N = q + 1 := ⟨N - 1, by omega⟩
    have hi : i < L.length := by omega
    have hzi := hz L[i] (List.getElem_mem hi)
    have hm : m < s.length := (List.getElem?_eq_some_iff.mp hs).1
    have cm : cMul L[i] ((i : Nat) + 2) = true := hB _ hzi i (by omega)
    have st := cell_turn s m i c L[i] a o5 o3 o4 hs hm cm
    have hc' : (c + L[i] * ((i : Nat) + 2)).natAbs ≤ B * (1 + 64 * (i + 1)) := by
      have h1 := Int.natAbs_add_le c (L[i] * ((i : Nat) + 2))
      rw [Int.natAbs_mul] at h1
      have h2 : ((i : Nat) + 2 : Int).natAbs = i + 2 := by omega
      rw [h2] at h1
      have h3 : L[i].natAbs * (i + 2) ≤ B * 64 := Nat.mul_le_mul (Nat.le_of_lt hzi) (by omega)
      have h4 : B * (1 + 64 * (i + 1)) = B * (1 + 64 * i) + B * 64 := by rw [← Nat.mul_add]; congr 1
      omega
    obtain ⟨c', o3', o4', o5', h, hb⟩ := cell_loop B hB L a k (i + 1) N m (c + L[i] * ((i : Nat) + 2)) (s.set m (.l [.int (c + L[i] * ((i : Nat) + 2))])) (some (.int (i : Nat))) (some (.int L[i])) (some (.int 0)) (by omega) hL hz (by omega) (by simp [hm]) hc'
    refine ⟨c', o3', o4', o5', ?_, hb⟩
    unfold forL
    rw [cellI_eq, List.getElem?_map, List.getElem?_eq_getElem hi]
    simp only [Option.map_some, gTp, gC, gNm, gN0, R.bind, R.noex, R.fl, setR_eq, List.set, List.length_cons, List.length_nil]
    show (match cellB [some a, some (.int 1), some (.box m), some (.int (i : Nat)), some (.int L[i]), o5] s with | _ => _) = _
    rw [st]
    rw [List.set_set] at h
    exact h
theorem first_ok (b : M) (xs : List PV) (env : Mi.Env) (s : Sto) (hm : mSl false (mVar 0) mPN (mPS (mVar 1)) env s = .ok (.lst xs) s) :
    mOrV (mCall (gList true) (mCons (mSl false (mVar 0) mPN (mPS (mVar 1))) mNil)) b env s = bif xs.isEmpty then b env (s ++ [Bx.l xs]) else R.ok (PV.box s.length) (s ++ [Bx.l xs]) := by
  unfold mOrV mCall mCons mNil
  rw [hm]
  have t : tru (s ++ [Bx.l xs]) (PV.box s.length) = some (!xs.isEmpty) := by
    show truB (s ++ [Bx.l xs])[s.length]? = _
    rw [getR]
    rfl
  show (match tru (s ++ [Bx.l xs]) (PV.box s.length) with | some c => bif c then R.ok (PV.box s.length) (s ++ [Bx.l xs]) else b env (s ++ [Bx.l xs]) | none => .bad) = _
  rw [t]
  cases xs.isEmpty <;> rfl
theorem sSeq_eq (a b : MS) (env : Mi.Env) (s : Sto) : sSeq a b env s = (match a env s with | .nx e s1 => b e s1 | r => r) := rfl
theorem sSeq_nx {a b : MS} {env e : Mi.Env} {s s1 : Sto} (h : a env s = .nx e s1) : sSeq a b env s = b e s1 := by rw [sSeq_eq, h]
theorem sAsg_nm {m : M} {i : Nat} {env : Mi.Env} {s s1 : Sto} {v : PV} (h : m env s = .ok v s1) : sAsg m (gNm i) env s = .nx (setR env i (some v)) s1 := by
  unfold sAsg
  rw [h]
  rfl
theorem sFor_ok {N : Nat} {mi : MI} {g : MG} {b : MS} {env : Mi.Env} {s s1 : Sto} {J : MIt} (h : mi env s = .ok J s1) : sFor N mi g b env s = forL J g b N 0 env s1 := by
  unfold sFor
  rw [h]
  rfl
theorem iEnq_lst {m : M} {env : Mi.Env} {s s1 : Sto} {xs : List PV} (h : m env s = .ok (.lst xs) s1) : iEnq (mCons m mNil) env s = .ok (cellI xs) s1 := by
  unfold iEnq mCons
  rw [h]
  rfl
theorem cells_ok (ns : List Int) (hl : ns.length ≤ 63) (hb : ∀ z ∈ ns, Builtin.Int.intBits z ≤ 1048576) (s : Sto) :
    ∃ (c : Int) (v : PV) (s' : Sto), r__law_cells [.fro (ns.map .int), .int 1] s = .ok v s' ∧ getQ s' v = some [.int c] ∧ c.natAbs < 2 ^ 1048600 := by
  have e0 : r__law_cells [.fro (ns.map .int), .int 1] s = Mi.ret (b__law_cells [some (.fro (ns.map .int)), some (.int 1), none, none, none, none] s) := rfl
  have hr0 : ∀ r : List Int, r.length ≤ 62 → True := fun _ _ => trivial
  rw [e0]
  cases ns with
  | nil =>
    refine ⟨0, .lst [.int 0], s ++ [Bx.l []], ?_, rfl, Nat.two_pow_pos _⟩
    have k1 := first_ok (mLst (mCons (mC (.int 0)) mNil)) [] [some (.fro (([] : List Int).map .int)), some (.int 1), none, none, none, none] s rfl
    have k2 : (bif ([] : List PV).isEmpty then mLst (mCons (mC (.int 0)) mNil) [some (.fro (([] : List Int).map .int)), some (.int 1), none, none, none, none] (s ++ [Bx.l []]) else .ok (.box s.length) (s ++ [Bx.l []])) = .ok (.lst [.int 0]) (s ++ [Bx.l []]) := rfl
    unfold b__law_cells
    rw [sSeq_nx (sAsg_nm (k1.trans k2))]
    rfl
  | cons n r =>
    have hr : r.length ≤ 62 := by simpa using hl
    have hzr : ∀ z ∈ r, z.natAbs < BIG := fun z hz => bits_lt (hb z (List.mem_cons_of_mem _ hz))
    have hzn : n.natAbs < BIG := bits_lt (hb n List.mem_cons_self)
    have e : (s ++ [Bx.l [PV.int n]])[s.length]? = some (Bx.l [.int n]) := getR _
    have hB : ∀ z : Int, z.natAbs < BIG → ∀ i : Nat, i ≤ 62 → cMul z ((i : Nat) + 2) = true := fun z hz i hi => cMul_of (a := 1048576) (b := 7) hz (by rw [show ((i : Nat) + 2 : Int).natAbs = i + 2 by omega]; omega) (by decide) (by decide) (by decide)
    obtain ⟨c', o3', o4', o5', h, hc⟩ := cell_loop BIG hB r (.fro ((n :: r).map .int)) r.length 0 100000 s.length n (s ++ [Bx.l [.int n]]) none none none (by omega) hr hzr (by omega) e (by omega)
    refine ⟨c', .box s.length, (s ++ [Bx.l [.int n]]).set s.length (Bx.l [.int c']), ?_, ?_, ?_⟩
    · have m1 : mSl false (mVar 0) mPN (mPS (mVar 1)) [some (.fro ((n :: r).map .int)), some (.int 1), none, none, none, none] s = .ok (.lst [.int n]) s := by
        show Mi.fresh false (cutP ((n :: r).map .int) none (some 1)) s = _
        rw [cut1]
        rfl
      have k1 := first_ok (mLst (mCons (mC (.int 0)) mNil)) [.int n] [some (.fro ((n :: r).map .int)), some (.int 1), none, none, none, none] s m1
      have k2 : (bif [PV.int n].isEmpty then mLst (mCons (mC (.int 0)) mNil) [some (.fro ((n :: r).map .int)), some (.int 1), none, none, none, none] (s ++ [Bx.l [.int n]]) else .ok (.box s.length) (s ++ [Bx.l [.int n]])) = .ok (.box s.length) (s ++ [Bx.l [.int n]]) := rfl
      have m2 : mSl false (mVar 0) (mPS (mVar 1)) (mPS (mC (.int 63))) [some (.fro ((n :: r).map .int)), some (.int 1), some (.box s.length), none, none, none] (s ++ [Bx.l [.int n]]) = .ok (.lst (r.map .int)) (s ++ [Bx.l [.int n]]) := by
        show Mi.fresh false (cutP ((n :: r).map .int) (some 1) (some 63)) _ = _
        rw [cutR n r hr]
        rfl
      unfold b__law_cells
      rw [sSeq_nx (sAsg_nm (k1.trans k2))]
      have k3 := (sFor_ok (N := 100000) (g := gTp 2 (gC (gNm 3) (gC (gNm 4) gN0))) (b := cellB) (iEnq_lst m2)).trans h
      show Mi.ret (sSeq (sFor 100000 (iEnq (mCons (mSl false (mVar 0) (mPS (mVar 1)) (mPS (mC (.int 63)))) mNil)) (gTp 2 (gC (gNm 3) (gC (gNm 4) gN0))) cellB) (sRet (mVar 2)) [some (.fro ((n :: r).map .int)), some (.int 1), some (.box s.length), none, none, none] (s ++ [Bx.l [.int n]])) = _
      rw [sSeq_nx k3]
      rfl
    · show lsO (((s ++ [Bx.l [.int n]]).set s.length (Bx.l [.int c']))[s.length]?) = _
      rw [List.getElem?_set_self (by simp)]
      rfl
    · have : BIG * (1 + 64 * r.length) ≤ BIG * 2 ^ 13 := Nat.mul_le_mul (Nat.le_refl _) (by omega)
      have h2 := big_pow 13
      have h3 : (2 : Nat) ^ (1048576 + 13) < 2 ^ 1048600 := Nat.pow_lt_pow_right (by decide) (by decide)
      exact Nat.lt_of_le_of_lt hc (Nat.lt_of_le_of_lt this (by rw [h2]; exact h3))

theorem box_ok (v : PV) (c : Int) (s : Sto) (hv : getQ s v = some [.int c]) (hc : c.natAbs < 2 ^ 1048600) :
    ∃ a b : Int, r__law_box [v, .int 0] s = .ok (PV.box s.length) (s ++ [Bx.l [.int a, .int b, .int 0]]) ∧ 0 ≤ b ∧ b < 2 ^ 62 := by
  have p18 : cPow 10 18 = true := rfl
  have m1 : cMod c 2305843009213693951 = true := rfl
  have m2 : cMul 39373 0 = true := by decide +kernel
  have ab : (if c < 0 then -c else c).natAbs = c.natAbs := by split <;> omega
  have m3 : ∀ b : Bool, cMul (if c < 0 then -c else c) (if b = true then 1 else 0) = true := fun b => cMul_of (a := 1048600) (b := 2) (by rw [ab]; exact hc) (by cases b <;> decide) (by decide) (by decide) (by decide)
  have h0 := Int.emod_nonneg c (b := 2305843009213693951) (by decide)
  have h1 := Int.emod_lt_of_pos c (b := 2305843009213693951) (by decide)
  have k3 : Nat.ble 3 sizeLine = true := rfl
  have e0 : r__law_box [v, .int 0] s = Mi.ret (b__law_box [some v, some (.int 0), none] s) := rfl
  refine ⟨(if c < 0 then -c else c) * (if decide ((if c < 0 then -c else c) ≥ 10 ^ (Int.toNat 18)) = true then 1 else 0), c % 2305843009213693951 + 39373 * 0 + 2325011, ?_, by omega, by omega⟩
  rw [e0]
  have g1 : gLen [v] s = .ok (.int 1) s := by
    unfold gLen
    simp only [hv]
    rfl
  have g2 : gIx v (.int 0) s = .ok (.int c) s := by
    unfold gIx
    simp only [hv]
    rfl
  unfold b__law_box
  have st : sAsg (mIf (mT (mBin gLt (mVar 1) (mCall gLen (mCons (mVar 0) mNil)))) (mBin gIx (mVar 0) (mVar 1)) mBad) (gNm 2) [some v, some (.int 0), none] s = .nx [some v, some (.int 0), some (.int c)] s := by
    have t1 : mT (mBin gLt (mVar 1) (mCall gLen (mCons (mVar 0) mNil))) [some v, some (.int 0), none] s = .ok true s := by
      show ((gLen [v] s).bind fun y s2 => gLt (.int 0) y s2).bind vB = _
      rw [g1]
      rfl
    refine sAsg_nm ?_
    unfold mIf
    rw [t1]
    exact g2
  rw [sSeq_nx st]
  simp only [sRet, mBox, mCons, mNil, mBin, mCall, mVar, nthR, mC, R.bind, gAbs, gPow, gI, p18, cond_true, gGe, gI0, gInt, gMul, m3, gMod, m1, m2, gAdd, List.length_cons, List.length_nil, k3, R.fl, Mi.ret]
def Urn (s : Sto) (n : Nat) (c : Nat) : Prop := ∃ u0 u1 u2 : Int, s[n]? = some (Bx.l [.int u0, .int u1, .int u2]) ∧ 0 ≤ u1 ∧ u1 < 2 ^ 62 ∧ 0 ≤ u2 ∧ u2 ≤ c
theorem take_ok (s : Sto) (n c : Nat) (m : Int) (hu : Urn s n c) (hc : c < 10000) (h0 : 0 < m) (hm : m < 2 ^ 110) :
    ∃ (r : Int) (l : List PV), r__law_take [.box n, .int m] s = .ok (.int r) (s.set n (Bx.l l)) ∧ 0 ≤ r ∧ r < m ∧ Urn (s.set n (Bx.l l)) n (c + 1) := by
  obtain ⟨u0, u1, u2, hs, a1, a2, b1, b2⟩ := hu
  have hn : n < s.length := (List.getElem?_eq_some_iff.mp hs).1
  have cm : ∀ i : Int, cMod i m = true := fun i => by
    obtain ⟨k, rfl⟩ := Int.eq_ofNat_of_zero_le (Int.le_of_lt h0)
    have : k ≠ 0 := by omega
    show (bif Nat.beq k 0 then false else true) = true
    cases k with
    | zero => exact absurd rfl this
    | succ k => rfl
  have cd : ∀ i : Int, cDiv i m = true := fun i => by
    obtain ⟨k, rfl⟩ := Int.eq_ofNat_of_zero_le (Int.le_of_lt h0)
    have : k ≠ 0 := by omega
    have lk : k.log2 < 110 := (Nat.log2_lt this).mpr (by omega)
    show (bif Nat.beq k 0 then false else Nat.ble (k.log2 + 1) 9000) = true
    cases k with
    | zero => exact absurd rfl this
    | succ k => exact Nat.ble_eq_true_of_le (by omega)
  by_cases hp : u0 > 0
  · refine ⟨u0 % m, [.int (u0.fdiv m), .int u1, .int u2], ?_, Int.emod_nonneg _ (by omega), Int.emod_lt_of_pos _ h0, ⟨u0.fdiv m, u1, u2, by simp [hn], a1, a2, b1, by omega⟩⟩
    simp [r__law_take, runB, b__law_take, start', sSeq, sIf, mT, mBin, mVar, nthR_eq, mC, gIx, getQ, getF, lsO, hs, atC_eq, atI, ixN, R.bind, R.fl, gGt, gI0, vB, hp, sAsg, gMod, gI, mCall, mCons, mNil, gInt, cm, cd, gNm, setR_eq, gDiv, gSb, R.noex, sRet, Mi.ret]
  · have q : ∀ {x y : Int}, 0 ≤ x → x < 2 ^ 100 → 0 ≤ y → y < 2 ^ 100 → cMul x y = true := fun {x y} h1 h2 h3 h4 => cMul_of (a := 100) (b := 100) (by omega) (by omega) (by decide) (by decide) (by decide)
    have o0 := Int.emod_nonneg ((u1 + 48271 * (u2 + 1)) * (39373 + (u2 + 1))) (b := 2147483647) (by decide)
    have o1 := Int.emod_lt_of_pos ((u1 + 48271 * (u2 + 1)) * (39373 + (u2 + 1))) (b := 2147483647) (by decide)
    have f0 := Int.emod_nonneg ((u1 + 48271 * (u2 + 1)) * (39373 + (u2 + 1)) % 2147483647) (b := 40009) (by decide)
    have f1 := Int.emod_lt_of_pos ((u1 + 48271 * (u2 + 1)) * (39373 + (u2 + 1)) % 2147483647) (b := 40009) (by decide)
    have d0 : 0 ≤ u1.fdiv 1000003 ∧ u1.fdiv 1000003 ≤ u1 := by
      rw [Int.fdiv_eq_ediv_of_nonneg u1 (by decide)]
      exact ⟨Int.ediv_nonneg a1 (by decide), Int.ediv_le_self _ a1⟩
    have t0 := Int.emod_nonneg ((((u1 + 48271 * (u2 + 1)) * (39373 + (u2 + 1)) % 2147483647) + (u2 + 1) + u1.fdiv 1000003) * (((u1 + 48271 * (u2 + 1)) * (39373 + (u2 + 1)) % 2147483647) % 40009 + 7)) (b := 2147483629) (by decide)
    have t1 := Int.emod_lt_of_pos ((((u1 + 48271 * (u2 + 1)) * (39373 + (u2 + 1)) % 2147483647) + (u2 + 1) + u1.fdiv 1000003) * (((u1 + 48271 * (u2 + 1)) * (39373 + (u2 + 1)) % 2147483647) % 40009 + 7)) (b := 2147483629) (by decide)
    have hset : ∀ l : List PV, (s.set n (Bx.l l))[n]? = some (Bx.l l) := fun l => by simp [hn]
    have m1 : cMul 48271 (u2 + 1) = true := q (by decide) (by decide) (by omega) (by omega)
    have m2 : cMul (u1 + 48271 * (u2 + 1)) (39373 + (u2 + 1)) = true := q (by omega) (by omega) (by omega) (by omega)
    have m3 : cMul (((u1 + 48271 * (u2 + 1)) * (39373 + (u2 + 1)) % 2147483647) + (u2 + 1) + u1.fdiv 1000003) (((u1 + 48271 * (u2 + 1)) * (39373 + (u2 + 1)) % 2147483647) % 40009 + 7) = true := q (by omega) (by omega) (by omega) (by omega)
    have m4 : cMul ((((u1 + 48271 * (u2 + 1)) * (39373 + (u2 + 1)) % 2147483647) + (u2 + 1) + u1.fdiv 1000003) * (((u1 + 48271 * (u2 + 1)) * (39373 + (u2 + 1)) % 2147483647) % 40009 + 7) % 2147483629) 48271 = true := q t0 (by omega) (by decide) (by decide)
    have c1 : ∀ i, cMod i 2147483647 = true := fun _ => rfl
    have c2 : ∀ i, cMod i 40009 = true := fun _ => rfl
    have c3 : ∀ i, cMod i 2147483629 = true := fun _ => rfl
    have c4 : ∀ i, cMod i 2147483587 = true := fun _ => rfl
    have c5 : ∀ i, cDiv i 1000003 = true := fun _ => rfl
    have c6 : ∀ i, cDiv i 64 = true := fun _ => rfl
    refine ⟨(((((((u1 + 48271 * (u2 + 1)) * (39373 + (u2 + 1)) % 2147483647) + (u2 + 1) + u1.fdiv 1000003) * (((u1 + 48271 * (u2 + 1)) * (39373 + (u2 + 1)) % 2147483647) % 40009 + 7) % 2147483629) * 48271 + ((u1 + 48271 * (u2 + 1)) * (39373 + (u2 + 1)) % 2147483647)) % 2147483587).fdiv 64) % m, [.int u0, .int u1, .int (u2 + 1)], ?_, Int.emod_nonneg _ (by omega), Int.emod_lt_of_pos _ h0, ⟨u0, u1, u2 + 1, hset _, a1, a2, by omega, by omega⟩⟩
    simp [r__law_take, runB, b__law_take, start', sSeq, sIf, mT, mBin, mVar, nthR_eq, mC, gIx, getQ, getF, lsO, hs, hset, atC_eq, atI, ixN, R.bind, R.fl, gGt, gI0, vB, hp, sAsg, gMod, gI, mCall, mCons, mNil, gInt, cm, gNm, setR_eq, gDiv, gSb, R.noex, sRet, Mi.ret, sNil, gAdd, gMul, m1, m2, m3, m4, c1, c2, c3, c4, c5, c6]

theorem mCons_eq (m : M) (ms : MA) (env : Mi.Env) (s : Sto) : mCons m ms env s = (m env s).bind fun v s1 => (ms env s1).bind fun vs s2 => .ok (v :: vs) s2 := rfl
theorem pick_ok (ns : List Int) (hl : ns.length ≤ 63) (hb : ∀ z ∈ ns, Builtin.Int.intBits z ≤ 1048576) (m : Int) (h0 : 0 < m) (hm : m < 2 ^ 110) (env : Mi.Env) (s : Sto) (he : nthR env 0 = some (some (.fro (ns.map .int)))) :
    ∃ r s', mCall (ar 2 r__law_take) (mCons (mCall (ar 2 r__law_box) (mCons (mCall (ar 2 r__law_cells) (mCons (mVar 0) (mCons (mC (.int 1)) mNil))) (mCons (mC (.int 0)) mNil))) (mCons (mC (.int m)) mNil)) env s = .ok (.int r) s' ∧ 0 ≤ r ∧ r < m := by
  obtain ⟨c, v, s1, h1, h2, h3⟩ := cells_ok ns hl hb s
  obtain ⟨a, b, k1, k2, k3⟩ := box_ok v c s1 h2 h3
  obtain ⟨r, l, t1, t2, t3, _⟩ := take_ok (s1 ++ [Bx.l [.int a, .int b, .int 0]]) s1.length 0 m ⟨a, b, 0, getR _, k2, k3, by decide, by decide⟩ (by decide) h0 hm
  have e1 : mCall (ar 2 r__law_cells) (mCons (mVar 0) (mCons (mC (.int 1)) mNil)) env s = .ok v s1 := by
    unfold mCall mCons mVar
    rw [he]
    exact h1
  have e2 : mCall (ar 2 r__law_box) (mCons (mCall (ar 2 r__law_cells) (mCons (mVar 0) (mCons (mC (.int 1)) mNil))) (mCons (mC (.int 0)) mNil)) env s = .ok (PV.box s1.length) (s1 ++ [Bx.l [.int a, .int b, .int 0]]) := by
    rw [show mCall (ar 2 r__law_box) (mCons (mCall (ar 2 r__law_cells) (mCons (mVar 0) (mCons (mC (.int 1)) mNil))) (mCons (mC (.int 0)) mNil)) env s = ((mCons (mCall (ar 2 r__law_cells) (mCons (mVar 0) (mCons (mC (.int 1)) mNil))) (mCons (mC (.int 0)) mNil)) env s).bind (ar 2 r__law_box) from rfl]
    rw [show (mCons (mCall (ar 2 r__law_cells) (mCons (mVar 0) (mCons (mC (.int 1)) mNil))) (mCons (mC (.int 0)) mNil)) env s = .ok [v, .int 0] s1 by rw [mCons_eq, e1]; rfl]
    exact k1
  refine ⟨r, (s1 ++ [Bx.l [.int a, .int b, .int 0]]).set s1.length (Bx.l l), ?_, t2, t3⟩
  rw [show ∀ (g : GC) (ms : MA), mCall g ms env s = (ms env s).bind g from fun _ _ => rfl]
  rw [show (mCons (mCall (ar 2 r__law_box) (mCons (mCall (ar 2 r__law_cells) (mCons (mVar 0) (mCons (mC (.int 1)) mNil))) (mCons (mC (.int 0)) mNil))) (mCons (mC (.int m)) mNil)) env s = .ok [PV.box s1.length, .int m] (s1 ++ [Bx.l [.int a, .int b, .int 0]]) by rw [mCons_eq, e2]; rfl]
  exact t1
theorem af_true {run : GC} (h : isT (run [] []) = true) (s : Sto) : afresh run [] s = .ok (.bl true) s := by
  unfold isT at h
  split at h
  · rename_i e
    unfold afresh
    show (match run [] [] with | .ok v _ => bif tupOnly v then R.ok v s else .bad | .ex e _ => bif tupsOnly (e.flds.map fun p : Str × PV => p.2) then .ex e s else .bad | .bad => .bad) = _
    rw [e]
    rfl
  · cases h
theorem part__law_told_right : isT (r__law_told_right [] []) = true := by kernel_rfl
theorem part__law_refused_right : isT (r__law_refused_right [] []) = true := by kernel_rfl
theorem part__law_judged_right : isT (r__law_judged_right [] []) = true := by kernel_rfl
theorem part__law_changed_right : isT (r__law_changed_right [] []) = true := by kernel_rfl
theorem part__law_soft_right : isT (r__law_soft_right [] []) = true := by kernel_rfl
theorem law_true (ns : List Int) (hl : ns.length ≤ 63) (hb : ∀ z ∈ ns, Builtin.Int.intBits z ≤ 1048576) : isT (r_law [.fro (ns.map .int)] []) = true := by
  have e0 : r_law [.fro (ns.map .int)] [] = Mi.ret (b_law [some (.fro (ns.map .int))] []) := rfl
  rw [e0]
  obtain ⟨r, s', hT, r0, r1⟩ := pick_ok ns hl hb 3 (by decide) (by decide) [some (.fro (ns.map .int))] [] rfl
  have a0 : ∀ s, afresh r__law_told_right [] s = .ok (.bl true) s := af_true part__law_told_right
  have a1 : ∀ s, afresh r__law_refused_right [] s = .ok (.bl true) s := af_true part__law_refused_right
  have hI : ∀ (t : MT) (k : MS), t [some (.fro (ns.map .int))] [] = .ok false [] → sSeq (sIf t sBad sNil) k [some (.fro (ns.map .int))] [] = k [some (.fro (ns.map .int))] [] := fun t k h => by
    rw [sSeq_eq]
    unfold sIf
    rw [h]
    rfl
  unfold b_law
  rw [hI _ _ (by
    simp only [mOrT, mNotT, mT, a0, a1, R.bind, vB, Bool.not_true, cond_false])]
  have hx : (mBin gIx (mLst (mCons (mC (.fn 16)) (mCons (mC (.fn 17)) (mCons (mC (.fn 18)) mNil)))) (mCall (ar 2 r__law_take) (mCons (mCall (ar 2 r__law_box) (mCons (mCall (ar 2 r__law_cells) (mCons (mVar 0) (mCons (mC (.int 1)) mNil))) (mCons (mC (.int 0)) mNil))) (mCons (mC (.int 3)) mNil)))) [some (.fro (ns.map .int))] [] = (gIx (.lst [.fn 16, .fn 17, .fn 18]) (.int r) s') := by
    unfold mBin
    rw [show mLst (mCons (mC (.fn 16)) (mCons (mC (.fn 17)) (mCons (mC (.fn 18)) mNil))) [some (.fro (ns.map .int))] [] = .ok (.lst [.fn 16, .fn 17, .fn 18]) [] from rfl]
    dsimp only [R.bind]
    rw [hT]
  have hr : r = 0 ∨ r = 1 ∨ r = 2 := by omega
  rcases hr with rfl | rfl | rfl
  · have hy := hx.trans (show gIx (.lst [.fn 16, .fn 17, .fn 18]) (.int 0) s' = .ok (.fn 16) s' from rfl)
    unfold sRet mCallT
    rw [hy]
    show isT (Mi.ret (R.fl _ (afresh r__law_judged_right [] s') _)) = true
    rw [af_true part__law_judged_right]
    rfl
  · have hy := hx.trans (show gIx (.lst [.fn 16, .fn 17, .fn 18]) (.int 1) s' = .ok (.fn 17) s' from rfl)
    unfold sRet mCallT
    rw [hy]
    show isT (Mi.ret (R.fl _ (afresh r__law_changed_right [] s') _)) = true
    rw [af_true part__law_changed_right]
    rfl
  · have hy := hx.trans (show gIx (.lst [.fn 16, .fn 17, .fn 18]) (.int 2) s' = .ok (.fn 18) s' from rfl)
    unfold sRet mCallT
    rw [hy]
    show isT (Mi.ret (R.fl _ (afresh r__law_soft_right [] s') _)) = true
    rw [af_true part__law_soft_right]
    rfl
theorem ints_ok {K : PySem.W.Frag} {H : Hp} {ρ : Rh} : ∀ ns : List Int, RVs K H ρ (ns.map PV.int) (ns.map V.int)
  | [] => rfl
  | n :: ns => ⟨_, _, rfl, rfl, ints_ok ns⟩
theorem walk {l : PySem.W.OpenLaw} {q : Program} {loose : List Str} {XP : (Str → Option Value) → Heap → Prop} {YP : World → Heap → Prop} {d : DefRec} {K : Params → PySem.W.Frag} (hn : l.most = some 63) (hdf : d.params.defaults = [])
    (nK : ∀ p, PySem.W.noTabs (K p) = true) (hrec : ((["is_tuple_of", "goes_up", "_path"] : List Str).all fun x => ((recsOf q).find? fun e => e.name == x).isSome) = true) (hY : ∀ (w : World) (h : Heap), YP w h → (K w.params).In h)
    (F : ∀ (w : World) (mg : Str → Option Value) (fa : Addr) (h : Heap), (K w.params).In h → h.Ns mainGlobals mg → mg d.name = some (.ref fa) →
      ∃ fd : FuncData, (∀ (s : Shared) (u : Value), BindsTo s fd ⟨[u], []⟩ [("script", u)]) ∧ (∀ x ∈ gdefs, x ∈ (["is_tuple_of", "goes_up", "_path"] : List Str) ∨ PySem.W.tabIn (K w.params) x = none) ∧
        ∀ base : Heap, (K w.params).In base → base.Ns mainGlobals mg → (∀ p ∈ tabsOf (K w.params) ["is_tuple_of", "goes_up", "_path"], GxR.TabB base mg p.1 p.2) → FnOk l.prog w (K w.params) mg base (L2.CX l.prog w) 18 fa fd ["script"] (spF (K w.params) 1 r_law)) :
    PySem.W.WalkO q loose XP YP l.row.toRowW d [] (fun f vs => PySem.call f vs) :=
  walk_ofX (n := 63) (k := 18) (x := "script") (pres := ["is_tuple_of", "goes_up", "_path"]) (CX := fun w => L2.CX l.prog w) (sp := fun w => spF (K w.params) 1 r_law) hn (by decide) hdf ⟨rfl, by decide, by decide⟩ nK (fun x hx => List.all_eq_true.mp hrec x hx) hY F (fun w H a ns ts hl hb B hall hts => by
    refine ⟨rfl, [.fro (ns.map .int)], ⟨[], [], 0⟩, [], ⟨_, _, rfl, ⟨a, _, rfl, B.sq.imp (fun h => ⟨h, by simp, by simp⟩) (fun h => .inr h), ints_ok ns⟩, rfl⟩, ⟨by simp, rfl, fun n a xs e => by simp at e, fun a e => by simp at e, fun a h => ⟨B.tab a (hall a h), by simp, by simp⟩⟩, ?_⟩
    have t := law_true ns hl hb
    unfold isT at t
    split at t
    · rename_i e
      rw [e]
      intro H' ρ' _ S' x hx
      refine ⟨hx, fun b hb => ?_⟩
      obtain ⟨c, y, h1, h2⟩ := hts b hb
      refine (S'.tb b ⟨y, ?_, c, h1⟩).1
      revert h2
      generalize y = z
      revert z
      decide
    · cases t) fun _ _ _ _ _ ⟨_, _, _, _, _, _, _, _, _, _, _, _, z⟩ => z
end Lw
open PySem PySem.W PyProof.Rows
set_option maxRecDepth 100000 in
set_option maxHeartbeats 0 in
theorem PySem.Challenge.cw_plainlock_k20_plans_by_hand_and_refused_holds : PySem.Challenge.rw_plainlock_k20_plans_by_hand_and_refused.Holds := by
  w_on; o_law; k_head; (case hw => w_witness2)
  k_fill
  refine Lw.walk (l := PySem.Challenge.rw_plainlock_k20_plans_by_hand_and_refused) rfl rfl (fun _ => by kernel_rfl) (by kernel_rfl) (fun w h Y => PySem.W.kIn_of Y) ?F
  case F =>
    intro w mg fa h KX G hmg
    refine' Lw.all_mk KX G hmg ?a_NoPlace ?b_NoPlace ?lXNoPlace ?ccXNoPlace ?kkXNoPlace ?c_NoPlace ?d_NoPlace ?e_NoPlace ?sa_NoPlace ?ke_NoPlace ?hd_NoPlace ?ga_NoPlace ?gg_NoPlace ?sx_NoPlace ?cl_NoPlace ?ob_NoPlace ?ty_NoPlace ?tf_NoPlace ?ff_NoPlace ?a_Unfit ?b_Unfit ?lXUnfit ?ccXUnfit ?kkXUnfit ?c_Unfit ?d_Unfit ?e_Unfit ?sa_Unfit ?ke_Unfit ?hd_Unfit ?ga_Unfit ?gg_Unfit ?sx_Unfit ?cl_Unfit ?ob_Unfit ?ty_Unfit ?a_CanNot ?b_CanNot ?lXCanNot ?ccXCanNot ?kkXCanNot ?c_CanNot ?d_CanNot ?e_CanNot ?sa_CanNot ?ke_CanNot ?hd_CanNot ?ga_CanNot ?gg_CanNot ?sx_CanNot ?cl_CanNot ?ob_CanNot ?ty_CanNot ?v_LookupError ?v_ValueError ?o1 ?o2 ?nDtupled ?lDtupled ?ccDtupled ?kkDtupled ?nDis_number ?lDis_number ?ccDis_number ?kkDis_number ?nDis_count ?lDis_count ?ccDis_count ?kkDis_count ?nDis_place ?lDis_place ?ccDis_place ?kkDis_place ?nDis_truth ?lDis_truth ?ccDis_truth ?kkDis_truth ?nDis_tuple_of ?lDis_tuple_of ?ccDis_tuple_of ?kkDis_tuple_of ?lt_is_tuple_of ?ht_is_tuple_of ?nDis_row ?lDis_row ?ccDis_row ?kkDis_row ?nDgoes_up ?lDgoes_up ?ccDgoes_up ?kkDgoes_up ?lt_goes_up ?ht_goes_up ?nDfraction ?lDfraction ?ccDfraction ?kkDfraction ?nDis_fraction ?lDis_fraction ?ccDis_fraction ?kkDis_fraction ?nDplus ?lDplus ?ccDplus ?kkDplus ?nDtimes ?lDtimes ?ccDtimes ?kkDtimes ?nDover ?lDover ?ccDover ?kkDover ?nDless ?lDless ?ccDless ?kkDless ?nDis_from_zero ?lDis_from_zero ?ccDis_from_zero ?kkDis_from_zero ?nDis_most ?lDis_most ?ccDis_most ?kkDis_most ?nDis_clock ?lDis_clock ?ccDis_clock ?kkDis_clock ?nD_is_length ?lD_is_length ?ccD_is_length ?kkD_is_length ?nDis_kept ?lDis_kept ?ccDis_kept ?kkDis_kept ?nDis_lot ?lDis_lot ?ccDis_lot ?kkDis_lot ?nDis_lots ?lDis_lots ?ccDis_lots ?kkDis_lots ?nDis_leg ?lDis_leg ?ccDis_leg ?kkDis_leg ?nDis_library ?lDis_library ?ccDis_library ?kkDis_library ?nD_is_store ?lD_is_store ?ccD_is_store ?kkD_is_store ?nD_is_fault ?lD_is_fault ?ccD_is_fault ?kkD_is_fault ?nDis_faults ?lDis_faults ?ccDis_faults ?kkDis_faults ?nDis_plan ?lDis_plan ?ccDis_plan ?kkDis_plan ?nD_paths ?lD_paths ?ccD_paths ?kkD_paths ?nDsettings ?lDsettings ?ccDsettings ?kkDsettings ?nD_at ?lD_at ?ccD_at ?kkD_at ?nDtimes_of ?lDtimes_of ?ccDtimes_of ?kkDtimes_of ?nD_path ?lD_path ?ccD_path ?kkD_path ?lt__path ?ht__path ?nD_with ?lD_with ?ccD_with ?kkD_with ?nDsetting ?lDsetting ?ccDsetting ?kkDsetting ?nDchanged ?lDchanged ?ccDchanged ?kkDchanged ?nDscaled ?lDscaled ?ccDscaled ?kkDscaled ?nDlongest_belief ?lDlongest_belief ?ccDlongest_belief ?kkDlongest_belief ?nDcheck_keeper ?lDcheck_keeper ?ccDcheck_keeper ?kkDcheck_keeper ?nDshortest_keep ?lDshortest_keep ?ccDshortest_keep ?kkDshortest_keep ?nDcan_hold ?lDcan_hold ?ccDcan_hold ?kkDcan_hold ?nD_without_times ?lD_without_times ?ccD_without_times ?kkD_without_times ?nDsame_but_times ?lDsame_but_times ?ccDsame_but_times ?kkDsame_but_times ?nD_is_up_to ?lD_is_up_to ?ccD_is_up_to ?kkD_is_up_to ?nD_covers_leg ?lD_covers_leg ?ccD_covers_leg ?kkD_covers_leg ?nDcovers ?lDcovers ?ccDcovers ?kkDcovers ?nD_law_box ?lD_law_box ?ccD_law_box ?kkD_law_box ?nD_law_take ?lD_law_take ?ccD_law_take ?kkD_law_take ?nD_law_cells ?lD_law_cells ?ccD_law_cells ?kkD_law_cells ?nD_law_lists ?lD_law_lists ?ccD_law_lists ?kkD_law_lists ?nD_law_same ?lD_law_same ?ccD_law_same ?kkD_law_same ?nD_law_lone ?lD_law_lone ?ccD_law_lone ?kkD_law_lone ?nD_law_put ?lD_law_put ?ccD_law_put ?kkD_law_put ?nD_law_pair ?lD_law_pair ?ccD_law_pair ?kkD_law_pair ?nD_law_bent ?lD_law_bent ?ccD_law_bent ?kkD_law_bent ?nD_law_judged_right ?lD_law_judged_right ?ccD_law_judged_right ?kkD_law_judged_right ?nD_law_names ?lD_law_names ?ccD_law_names ?kkD_law_names ?nD_law_told_right ?lD_law_told_right ?ccD_law_told_right ?kkD_law_told_right ?nD_law_changed_right ?lD_law_changed_right ?ccD_law_changed_right ?kkD_law_changed_right ?nD_law_heard ?lD_law_heard ?ccD_law_heard ?kkD_law_heard ?nD_law_refused_right ?lD_law_refused_right ?ccD_law_refused_right ?kkD_law_refused_right ?nD_law_soft_right ?lD_law_soft_right ?ccD_law_soft_right ?kkD_law_soft_right ?nDlaw ?lDlaw ?ccDlaw ?kkDlaw ?q1LookupError_NoPlace ?q1LookupError_CanNot ?q1LookupError_Unfit ?q1ValueError_NoPlace ?q1ValueError_CanNot ?q1ValueError_Unfit ?q3NoPlace_NoPlace ?q3NoPlace_CanNot ?q3NoPlace_Unfit ?q3Unfit_NoPlace ?q3Unfit_CanNot ?q3Unfit_Unfit ?n_LookupError ?n_ValueError ?n_abs ?n_all ?n_any ?n_bool ?n_enumerate ?n_int ?n_isinstance ?n_len ?n_list ?n_range ?n_sorted ?n_str ?n_tuple ?n_zip ?m_gcd ?nx_ONE ?lc0 ?nx_ZERO ?lc3 ?nx_FAULTS ?lc6 ?nx_SINGLE ?lc13 ?lc15 ?lc12 ?lc18 ?lc20 ?lc17 ?lc23 ?lc25 ?lc22 ?lc29 ?lc31 ?lc28 ?lc35 ?lc37 ?lc34 ?lc41 ?lc43 ?lc40 ?lc47 ?lc49 ?lc46 ?lc11 ?nx_KEEPER_PARTS ?lc52 ?nx_STORE_PARTS ?lc56 ?nx_WHO ?lc59 ?nx_LEGS ?lc62 ?nx_TIMES ?lc67 ?na_is_answer ?na_edges
    (case a_NoPlace => k_is)
    (case b_NoPlace => k_is)
    (case lXNoPlace => k_is)
    (case ccXNoPlace => k_is)
    (case kkXNoPlace => k_is)
    (case c_NoPlace => k_is)
    (case d_NoPlace => kx_is)
    (case e_NoPlace => kx_is)
    (case sa_NoPlace => k_is)
    (case ke_NoPlace => k_is)
    (case hd_NoPlace => k_is)
    (case ga_NoPlace => k_is)
    (case gg_NoPlace => k_is)
    (case sx_NoPlace => k_is)
    (case cl_NoPlace => k_is)
    (case ob_NoPlace => k_is)
    (case ty_NoPlace => k_is)
    (case tf_NoPlace => k_is)
    (case ff_NoPlace => k_is)
    (case a_Unfit => k_is)
    (case b_Unfit => k_is)
    (case lXUnfit => k_is)
    (case ccXUnfit => k_is)
    (case kkXUnfit => k_is)
    (case c_Unfit => k_is)
    (case d_Unfit => kx_is)
    (case e_Unfit => kx_is)
    (case sa_Unfit => k_is)
    (case ke_Unfit => k_is)
    (case hd_Unfit => k_is)
    (case ga_Unfit => k_is)
    (case gg_Unfit => k_is)
    (case sx_Unfit => k_is)
    (case cl_Unfit => k_is)
    (case ob_Unfit => k_is)
    (case ty_Unfit => k_is)
    (case a_CanNot => k_is)
    (case b_CanNot => k_is)
    (case lXCanNot => k_is)
    (case ccXCanNot => k_is)
    (case kkXCanNot => k_is)
    (case c_CanNot => k_is)
    (case d_CanNot => kx_is)
    (case e_CanNot => kx_is)
    (case sa_CanNot => k_is)
    (case ke_CanNot => k_is)
    (case hd_CanNot => k_is)
    (case ga_CanNot => k_is)
    (case gg_CanNot => k_is)
    (case sx_CanNot => k_is)
    (case cl_CanNot => k_is)
    (case ob_CanNot => k_is)
    (case ty_CanNot => k_is)
    (case v_LookupError => k_is)
    (case v_ValueError => k_is)
    (case o1 => k_is)
    (case o2 => k_is)
    (case nDtupled => k_is)
    (case lDtupled => k_is)
    (case ccDtupled => k_is)
    (case kkDtupled => k_is)
    (case nDis_number => k_is)
    (case lDis_number => k_is)
    (case ccDis_number => k_is)
    (case kkDis_number => k_is)
    (case nDis_count => k_is)
    (case lDis_count => k_is)
    (case ccDis_count => k_is)
    (case kkDis_count => k_is)
    (case nDis_place => k_is)
    (case lDis_place => k_is)
    (case ccDis_place => k_is)
    (case kkDis_place => k_is)
    (case nDis_truth => k_is)
    (case lDis_truth => k_is)
    (case ccDis_truth => k_is)
    (case kkDis_truth => k_is)
    (case nDis_tuple_of => k_is)
    (case lDis_tuple_of => k_is)
    (case ccDis_tuple_of => k_is)
    (case kkDis_tuple_of => k_is)
    (case lt_is_tuple_of => k_is)
    (case ht_is_tuple_of => rfl)
    (case nDis_row => k_is)
    (case lDis_row => k_is)
    (case ccDis_row => k_is)
    (case kkDis_row => k_is)
    (case nDgoes_up => k_is)
    (case lDgoes_up => k_is)
    (case ccDgoes_up => k_is)
    (case kkDgoes_up => k_is)
    (case lt_goes_up => k_is)
    (case ht_goes_up => rfl)
    (case nDfraction => k_is)
    (case lDfraction => k_is)
    (case ccDfraction => k_is)
    (case kkDfraction => k_is)
    (case nDis_fraction => k_is)
    (case lDis_fraction => k_is)
    (case ccDis_fraction => k_is)
    (case kkDis_fraction => k_is)
    (case nDplus => k_is)
    (case lDplus => k_is)
    (case ccDplus => k_is)
    (case kkDplus => k_is)
    (case nDtimes => k_is)
    (case lDtimes => k_is)
    (case ccDtimes => k_is)
    (case kkDtimes => k_is)
    (case nDover => k_is)
    (case lDover => k_is)
    (case ccDover => k_is)
    (case kkDover => k_is)
    (case nDless => k_is)
    (case lDless => k_is)
    (case ccDless => k_is)
    (case kkDless => k_is)
    (case nDis_from_zero => k_is)
    (case lDis_from_zero => k_is)
    (case ccDis_from_zero => k_is)
    (case kkDis_from_zero => k_is)
    (case nDis_most => k_is)
    (case lDis_most => k_is)
    (case ccDis_most => k_is)
    (case kkDis_most => k_is)
    (case nDis_clock => k_is)
    (case lDis_clock => k_is)
    (case ccDis_clock => k_is)
    (case kkDis_clock => k_is)
    (case nD_is_length => k_is)
    (case lD_is_length => k_is)
    (case ccD_is_length => k_is)
    (case kkD_is_length => k_is)
    (case nDis_kept => k_is)
    (case lDis_kept => k_is)
    (case ccDis_kept => k_is)
    (case kkDis_kept => k_is)
    (case nDis_lot => k_is)
    (case lDis_lot => k_is)
    (case ccDis_lot => k_is)
    (case kkDis_lot => k_is)
    (case nDis_lots => k_is)
    (case lDis_lots => k_is)
    (case ccDis_lots => k_is)
    (case kkDis_lots => k_is)
    (case nDis_leg => k_is)
    (case lDis_leg => k_is)
    (case ccDis_leg => k_is)
    (case kkDis_leg => k_is)
    (case nDis_library => k_is)
    (case lDis_library => k_is)
    (case ccDis_library => k_is)
    (case kkDis_library => k_is)
    (case nD_is_store => k_is)
    (case lD_is_store => k_is)
    (case ccD_is_store => k_is)
    (case kkD_is_store => k_is)
    (case nD_is_fault => k_is)
    (case lD_is_fault => k_is)
    (case ccD_is_fault => k_is)
    (case kkD_is_fault => k_is)
    (case nDis_faults => k_is)
    (case lDis_faults => k_is)
    (case ccDis_faults => k_is)
    (case kkDis_faults => k_is)
    (case nDis_plan => k_is)
    (case lDis_plan => k_is)
    (case ccDis_plan => k_is)
    (case kkDis_plan => k_is)
    (case nD_paths => k_is)
    (case lD_paths => k_is)
    (case ccD_paths => k_is)
    (case kkD_paths => k_is)
    (case nDsettings => k_is)
    (case lDsettings => k_is)
    (case ccDsettings => k_is)
    (case kkDsettings => k_is)
    (case nD_at => k_is)
    (case lD_at => k_is)
    (case ccD_at => k_is)
    (case kkD_at => k_is)
    (case nDtimes_of => k_is)
    (case lDtimes_of => k_is)
    (case ccDtimes_of => k_is)
    (case kkDtimes_of => k_is)
    (case nD_path => k_is)
    (case lD_path => k_is)
    (case ccD_path => k_is)
    (case kkD_path => k_is)
    (case lt__path => k_is)
    (case ht__path => rfl)
    (case nD_with => k_is)
    (case lD_with => k_is)
    (case ccD_with => k_is)
    (case kkD_with => k_is)
    (case nDsetting => k_is)
    (case lDsetting => k_is)
    (case ccDsetting => k_is)
    (case kkDsetting => k_is)
    (case nDchanged => k_is)
    (case lDchanged => k_is)
    (case ccDchanged => k_is)
    (case kkDchanged => k_is)
    (case nDscaled => k_is)
    (case lDscaled => k_is)
    (case ccDscaled => k_is)
    (case kkDscaled => k_is)
    (case nDlongest_belief => k_is)
    (case lDlongest_belief => k_is)
    (case ccDlongest_belief => k_is)
    (case kkDlongest_belief => k_is)
    (case nDcheck_keeper => k_is)
    (case lDcheck_keeper => k_is)
    (case ccDcheck_keeper => k_is)
    (case kkDcheck_keeper => k_is)
    (case nDshortest_keep => k_is)
    (case lDshortest_keep => k_is)
    (case ccDshortest_keep => k_is)
    (case kkDshortest_keep => k_is)
    (case nDcan_hold => k_is)
    (case lDcan_hold => k_is)
    (case ccDcan_hold => k_is)
    (case kkDcan_hold => k_is)
    (case nD_without_times => k_is)
    (case lD_without_times => k_is)
    (case ccD_without_times => k_is)
    (case kkD_without_times => k_is)
    (case nDsame_but_times => k_is)
    (case lDsame_but_times => k_is)
    (case ccDsame_but_times => k_is)
    (case kkDsame_but_times => k_is)
    (case nD_is_up_to => k_is)
    (case lD_is_up_to => k_is)
    (case ccD_is_up_to => k_is)
    (case kkD_is_up_to => k_is)
    (case nD_covers_leg => k_is)
    (case lD_covers_leg => k_is)
    (case ccD_covers_leg => k_is)
    (case kkD_covers_leg => k_is)
    (case nDcovers => k_is)
    (case lDcovers => k_is)
    (case ccDcovers => k_is)
    (case kkDcovers => k_is)
    (case nD_law_box => k_is)
    (case lD_law_box => k_is)
    (case ccD_law_box => k_is)
    (case kkD_law_box => k_is)
    (case nD_law_take => k_is)
    (case lD_law_take => k_is)
    (case ccD_law_take => k_is)
    (case kkD_law_take => k_is)
    (case nD_law_cells => k_is)
    (case lD_law_cells => k_is)
    (case ccD_law_cells => k_is)
    (case kkD_law_cells => k_is)
    (case nD_law_lists => k_is)
    (case lD_law_lists => k_is)
    (case ccD_law_lists => k_is)
    (case kkD_law_lists => k_is)
    (case nD_law_same => k_is)
    (case lD_law_same => k_is)
    (case ccD_law_same => k_is)
    (case kkD_law_same => k_is)
    (case nD_law_lone => k_is)
    (case lD_law_lone => k_is)
    (case ccD_law_lone => k_is)
    (case kkD_law_lone => k_is)
    (case nD_law_put => k_is)
    (case lD_law_put => k_is)
    (case ccD_law_put => k_is)
    (case kkD_law_put => k_is)
    (case nD_law_pair => k_is)
    (case lD_law_pair => k_is)
    (case ccD_law_pair => k_is)
    (case kkD_law_pair => k_is)
    (case nD_law_bent => k_is)
    (case lD_law_bent => k_is)
    (case ccD_law_bent => k_is)
    (case kkD_law_bent => k_is)
    (case nD_law_judged_right => k_is)
    (case lD_law_judged_right => k_is)
    (case ccD_law_judged_right => k_is)
    (case kkD_law_judged_right => k_is)
    (case nD_law_names => k_is)
    (case lD_law_names => k_is)
    (case ccD_law_names => k_is)
    (case kkD_law_names => k_is)
    (case nD_law_told_right => k_is)
    (case lD_law_told_right => k_is)
    (case ccD_law_told_right => k_is)
    (case kkD_law_told_right => k_is)
    (case nD_law_changed_right => k_is)
    (case lD_law_changed_right => k_is)
    (case ccD_law_changed_right => k_is)
    (case kkD_law_changed_right => k_is)
    (case nD_law_heard => k_is)
    (case lD_law_heard => k_is)
    (case ccD_law_heard => k_is)
    (case kkD_law_heard => k_is)
    (case nD_law_refused_right => k_is)
    (case lD_law_refused_right => k_is)
    (case ccD_law_refused_right => k_is)
    (case kkD_law_refused_right => k_is)
    (case nD_law_soft_right => k_is)
    (case lD_law_soft_right => k_is)
    (case ccD_law_soft_right => k_is)
    (case kkD_law_soft_right => k_is)
    (case nDlaw => k_is)
    (case lDlaw => k_is)
    (case ccDlaw => k_is)
    (case kkDlaw => k_is)
    (case q1LookupError_NoPlace => kit_is)
    (case q1LookupError_CanNot => kit_is)
    (case q1LookupError_Unfit => kit_is)
    (case q1ValueError_NoPlace => kit_is)
    (case q1ValueError_CanNot => kit_is)
    (case q1ValueError_Unfit => kit_is)
    (case q3NoPlace_NoPlace => k_is)
    (case q3NoPlace_CanNot => k_is)
    (case q3NoPlace_Unfit => k_is)
    (case q3Unfit_NoPlace => k_is)
    (case q3Unfit_CanNot => k_is)
    (case q3Unfit_Unfit => k_is)
    (case n_LookupError => k_is)
    (case n_ValueError => k_is)
    (case n_abs => k_is)
    (case n_all => k_is)
    (case n_any => k_is)
    (case n_bool => k_is)
    (case n_enumerate => k_is)
    (case n_int => k_is)
    (case n_isinstance => k_is)
    (case n_len => k_is)
    (case n_list => k_is)
    (case n_range => k_is)
    (case n_sorted => k_is)
    (case n_str => k_is)
    (case n_tuple => k_is)
    (case n_zip => k_is)
    (case m_gcd => k_is)
    (case nx_ONE => k_is)
    (case nx_ZERO => k_is)
    (case nx_FAULTS => k_is)
    (case nx_SINGLE => k_is)
    (case nx_KEEPER_PARTS => k_is)
    (case nx_STORE_PARTS => k_is)
    (case nx_WHO => k_is)
    (case nx_LEGS => k_is)
    (case nx_TIMES => k_is)
    (case na_is_answer => k_is)
    (case na_edges => k_is)
    (case lc0 => k_is)
    (case lc3 => k_is)
    (case lc6 => k_is)
    (case lc11 => k_is)
    (case lc12 => k_is)
    (case lc13 => k_is)
    (case lc15 => k_is)
    (case lc17 => k_is)
    (case lc18 => k_is)
    (case lc20 => k_is)
    (case lc22 => k_is)
    (case lc23 => k_is)
    (case lc25 => k_is)
    (case lc28 => k_is)
    (case lc29 => k_is)
    (case lc31 => k_is)
    (case lc34 => k_is)
    (case lc35 => k_is)
    (case lc37 => k_is)
    (case lc40 => k_is)
    (case lc41 => k_is)
    (case lc43 => k_is)
    (case lc46 => k_is)
    (case lc47 => k_is)
    (case lc49 => k_is)
    (case lc52 => k_is)
    (case lc56 => k_is)
    (case lc59 => k_is)
    (case lc62 => k_is)
    (case lc67 => k_is)
