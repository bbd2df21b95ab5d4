import PyProof.Rows.All
import HandS.AnyAll
import HandS.GenList
import HandS.ForExc
import Wide.All
import OpenK.AllK
import Wide.FinOn
import HandS.ExcInit
import HandS.Dict
import HandS.Wide
import HandS.TupAny
import HandS.TupMul
import HandS.IsInst
import HandS.Gcd
import HandS.Flow
import HandS.ExcOwn
import HandS.TryOnly
import HandS.Zip
import HandS.Comp
import KE.KExcInit
import HandS.ExcField
import KE.KExcIs
import KE.KIsAll
import HandS.EndBits
import HandS.CallLocal
import HandS.SetKeys
import HandS.More
import HandS.SortInts
import HandS.Style
import KE.KSortedM
import HandS.WordsDict
import HandS.TryMany
import PyProof.FactsAll.list_4
import HandS.Deep
import KE.GoesEnum
import KE.DataCmp
import KE.SortData
import HandS.Iter
import HandS.Rev
import HandS.WideBits
import HandS.Conv
import HandS.Sort
import HandS.DictComp
import HandS.ClsMeth
import KE.RegKIsAll
import PySem.Challenge.RW_plainlock_k01_whole_fractions_beside_own
set_option Elab.async false
set_option linter.all false
set_option maxRecDepth 100000
set_option maxHeartbeats 4000000
set_option autoImplicit false
/-! G0: all, any of a generator expression whose elements may do whatever they like. -/
namespace G0
open PySem PySem.Spec PyProof.Rows L2
/-- a code object's table: any, as long as it is one -/
def tabOk (P : Addr) : Heap → Prop := fun h => ∃ ps : Array Value, h.get? P = some (PySem.W.tabObj ps) ∧ TriplesOk ps.toList
theorem tabOk_stable {P : Addr} (h1 h2 : Heap) (x : tabOk P h1) (k : ∀ o, h1.get? P = some o → h2.get? P = some o) : tabOk P h2 := by
  obtain ⟨ps, e, t⟩ := x
  exact ⟨ps, k _ e, t⟩
theorem tabOk_obj {prog : Program} {w : World} {H : Hp} {h : Heap} {P : Addr} (x : tabOk P h) : ObjOk prog w H h P (.ext (tabOk P)) :=
  ⟨x, (let ⟨_, e, _⟩ := x; ⟨_, e⟩), tabOk_stable⟩
section
variable {X : Cx} {pins : List (Addr × Obj)} {σ : L2.St} {H : Hp} {s : Shared}
/-- the table may have grown; all else stands -/
theorem inv_tab {P : Addr} {h' : Heap} {g' : Array GenState} {d' : Drawn} {t' : Nat} (I : Inv X pins σ H s) (hP : H P = some (.ext (tabOk P))) (k : ∀ b o, b ≠ P → s.heap.get? b = some o → h'.get? b = some o) (hm : tabOk P h') (hg : AllBare g') :
    Inv X pins σ H { s with heap := h', gens := g', drawn := d', toks := t' } := by
  have nN : ∀ b, H b = none → b ≠ P := fun b e z => by rw [z, hP] at e; cases e
  have nO : ∀ b u, H b = some u → (∀ φ, u ≠ .ext φ) → b ≠ P := fun b u e q z => by
    rw [z, hP] at e
    exact q _ (Option.some.inj e).symm
  obtain ⟨ps, em, et⟩ := id hm
  refine I.step (g' := g') (d' := d') (ch := []) (fun b hb => by cases hb) (fun b o _ _ _ e n => k b o (nN b n) e) (fun b o _ _ _ e n => ⟨o.slots, k b o (nN b n) e⟩) (fun _ _ _ _ n => n) (fun b o _ e => ?_) (fun _ _ e => e) (fun _ _ _ e => e) (fun b qs e => ⟨#[], by rw [e]; simp⟩) (fun m hn => ?_) (fun b u e => ?_) hg
  · by_cases hb : b = P
    · exact ⟨_, hb ▸ em⟩
    · exact ⟨o, k b o hb e⟩
  · obtain ⟨ob, es, ep, ho, r⟩ := hn
    exact ⟨ob, es, ep, k _ ob (nN _ I.free) ho, r⟩
  · by_cases hb : b = P
    · subst hb
      rw [hP] at e; cases e
      exact tabOk_obj hm
    · refine (I.hok b u e).stay (fun c v hc q => k c v ?_ q) (fun _ q => q) fun _ _ q => q
      rcases hc with z | z
      · rw [z]; exact hb
      · exact nO c _ z (fun φ q => by cases q)
theorem inv_re {s' : Shared} (I : Inv X pins σ H s) (hh : s'.heap = s.heap) (os : s'.os = s.os) (hb : AllBare s'.gens) : Inv X pins σ H s' :=
  ⟨I.ok, os.trans I.os, hb, by rw [hh]; exact I.base, by rw [hh]; exact I.loc, by rw [hh]; exact I.cell, I.free, I.freeC, by rw [hh]; exact I.pin, by rw [hh]; exact I.hok, I.len⟩
end

/-- the context of a generator expression's body -/
abbrev gX (X : Cx) (A : Around) (s : Shared) (H : Hp) (cenv : Env) (fp : List Addr) : Cx := { X with A := A, s_0 := s, H_0 := H, env := cenv, outer := X.stack, stack := cenv :: X.stack, ex := fp, fn := fun _ => false, calm := true, pn := [], xe := fun _ _ => False }
/-- what is asked of a generator expression's scope -/
structure GSc (X : Cx) (scope : Scope) (own : List (Str × Nat)) : Prop where
  ok : BlkOk X.N X.env.scope scope own
  co : scope.isCoroutine = false
  cell : ∀ y ∈ scope.names, y.2 ≠ .cell
  dot : scope.names.lookup (".0" : Str) = some NameKind.local
section
variable {X : Cx} {pins : List (Addr × Obj)} {σ : L2.St} {H : Hp} {s : Shared}
theorem gen_start {scope : Scope} {own : List (Str × Nat)} {fp : List Addr} {A' : Around} {s' : Shared} {a : Addr} {go : Obj} {code : Value} {m : Str → Option Value} (I : Inv X pins σ H s) (S : GSc X scope own) (hN : X.N.Nodup)
    (hfp : ∀ b ∈ fp, FpOk X pins H b ∧ b < s.heap.objs.size) (hA : A'.handled = none) (hfr : A'.frames = some (genEnv scope (cloFrom X.env.cells scope.names []) s.heap.objs.size code builtinsNs X.env :: X.stack))
    (hC : s'.heap.Ns s.heap.objs.size m) (kp : ∀ b o, s.heap.get? b = some o → s'.heap.get? b = some o) (ha : s'.heap.get? a = some go) (hlt : s.heap.objs.size < a) (hgo : ∀ v, go.data ≠ .cell v) (os : s'.os = s.os) (hb : AllBare s'.gens) :
    Inv (gX X A' s H (genEnv scope (cloFrom X.env.cells scope.names []) s.heap.objs.size code builtinsNs X.env) fp) [(a, go)] (wipe σ (own.map (·.2))) H s' := by
  have ok := S.ok
  have cm : ∀ {y c}, (y, c) ∈ cloFrom X.env.cells scope.names [] → (y, NameKind.free) ∈ scope.names ∧ X.env.cells.lookup y = some c ∧ c < s.heap.objs.size := fun {y c} hm => by
    rcases cloFrom_mem hm with hm | ⟨h1, rfl⟩
    · cases hm
    · have : ∃ c, X.env.cells.lookup y = some c := (ok.free (y, .free) h1 rfl).elim (fun k => I.ok.has _ (.inl k)) fun k => I.ok.has _ (.inr k)
      obtain ⟨c, hc⟩ := this
      rw [hc]
      obtain ⟨w, z⟩ := I.cell _ _ hc
      exact ⟨h1, rfl, z.lt⟩
  have cl : ∀ {y c}, (cloFrom X.env.cells scope.names []).lookup y = some c → (y, NameKind.free) ∈ scope.names ∧ X.env.cells.lookup y = some c ∧ c < s.heap.objs.size := fun e => cm (PySem.mem_of_lookup e)
  have look : ∀ {y}, scope.names.lookup y = some .free → ∃ c, (cloFrom X.env.cells scope.names []).lookup y = some c ∧ X.env.cells.lookup y = some c := fun {y} hl => by
    obtain ⟨c', e'⟩ := L2.mem_lookup (cloFrom_has (cells := X.env.cells) (acc := []) (PySem.mem_of_lookup hl))
    exact ⟨c', e', (cl e').2.1⟩
  refine ⟨⟨I.ok.mod, ok.kind, I.ok.glob, rfl, Nat.le_refl _, fun y z c e1 e2 => I.ok.inj y z c (cl e1).2.1 (cl e2).2.1, fun y hy => ?_, fun y c z e => (by cases z), fun _ => hA, hfr, .inr ⟨rfl, rfl⟩, fun b hbm => ⟨Nat.ne_of_lt (hfp b hbm).2, fun y c e => (hfp b hbm).1.2.2.2.2.1 y c (cl e).2.1⟩, I.bs, Nat.le_trans I.ok.bsz I.sz, fun b o e hbm => ?_, fun b hbm z => ?_, I.stack, I.stkFree⟩,
    os, hb, Un.kept kp, ⟨m, hC, fun i y av e1 e2 e3 => ?_⟩, fun y c e => ?_, I.hok.fresh (Nat.le_refl _), fun y c e => I.freeC y c (cl e).2.1, fun p hp => ?_, I.hok.kept kp, by rw [wipe_length]; exact I.len⟩
  · rcases hy with hy | hy
    · exact absurd rfl (S.cell _ (PySem.mem_of_lookup hy))
    · obtain ⟨c, h1, _⟩ := look hy
      exact ⟨c, h1⟩
  · rcases (hfp b hbm).1.2.2.2.1 with z | z
    · exact I.ok.noex b o e z
    · exact absurd (Nat.lt_of_lt_of_le (Heap.lt_size e) (Nat.le_trans I.ok.bsz z)) (Nat.lt_irrefl _)
  · rcases List.mem_cons.mp (I.stkSub b z) with z | z
    · exact (hfp b hbm).1.2.1 z
    · exact (hfp b hbm).1.2.2.1 z
  · obtain ⟨e2, hne⟩ := wipe_some e2
    have no : ∀ k, scope.names.lookup y = some k → ¬ (k = .local ∨ k = .cell) := fun k hk hh => by
      rcases ok.own _ (PySem.mem_of_lookup hk) hh with e' | e'
      · obtain ⟨p, hp, hpy⟩ := List.mem_map.mp e'
        have e3 := ok.ix p hp
        have : p.1 = y := hpy
        rw [this] at e3
        exact hne (List.mem_map.mpr ⟨p, hp, nodup_ix hN e3 e1⟩)
      · exact e' (List.mem_of_getElem? e1)
    have hfr : scope.names.lookup y = some .free := by
      rcases e3 with e3 | e3 | e3
      · exact absurd (.inl rfl) (no _ e3)
      · exact absurd (.inr rfl) (no _ e3)
      · exact e3
    obtain ⟨m', hn, hl⟩ := I.loc
    have hv : Vis X.env.scope y := (ok.free _ (PySem.mem_of_lookup hfr) rfl).elim (fun k => .inr (.inl k)) (fun k => .inr (.inr k))
    obtain ⟨w, r, q⟩ := hl i y av e1 e2 hv
    refine ⟨w, r, .inr ⟨.inr hfr, ?_⟩⟩
    obtain ⟨c, h1, h2⟩ := look hfr
    rcases q with ⟨k, _⟩ | ⟨_, c', e', z⟩
    · have k : X.env.scope.names.lookup y = some .local := k
      rcases ok.free _ (PySem.mem_of_lookup hfr) rfl with k' | k' <;> rw [show X.env.scope.names.lookup y = _ from k'] at k <;> cases k
    · rw [h2] at e'; cases e'
      exact ⟨c, h1, z.keeps kp⟩
  · obtain ⟨w, z⟩ := I.cell y c (cl e).2.1
    exact ⟨w, z.keeps kp⟩
  · have hp : p ∈ ([] : List (Addr × Obj)) ++ [(a, go)] := hp
    rw [List.nil_append] at hp
    rw [List.mem_singleton.mp hp]
    refine ⟨ha, I.hok.fresh (Nat.le_of_lt hlt), Nat.ne_of_gt hlt, fun z => ?_, hgo⟩
    obtain ⟨_, o, ho, _⟩ := I.stack.mem z
    exact absurd (Nat.lt_trans hlt (Heap.lt_size ho)) (Nat.lt_irrefl _)

/-- the turns of a generator expression whose elements are truth values: on as long as they are not st, to the end with Qe, with Qs at the first one that is st -/
def tGen (st : Bool) (wi : TI) (g : TG) (te : TE) (vs : List Nat) : TE := fun σ H Q => wi σ H fun J H1 => ∃ W : Nat → Nat → Hp → Prop, (∃ m, W 0 m H1) ∧ ∀ i m H, W i m H →
  (J.stop i H ∧ Q (.bl (!st)) H) ∨ (J.go i H ∧ ∃ Nx : Hp → Prop, (∀ H', Nx H' → ∃ m', m' < m ∧ W (i + 1) m' H') ∧ ∀ x H', J.yld i H x H' → g x (wipe σ vs) H' fun σ2 H2 => wipe σ2 vs = wipe σ vs ∧
    te σ2 H2 fun y H3 => ∃ b, y = .bl b ∧ bif b == st then Q (.bl st) H3 else Nx H3)
/-- where a generator sleeps at turn i -/
def At (Y : Cx) (a : Addr) (go : Obj) (σ : L2.St) (fp : List Addr) (tn : Nat → Heap → Prop) (W : Nat → Nat → Hp → Prop) (i m : Nat) (s : Shared) : Prop :=
  ∃ H, Inv Y [(a, go)] σ H s ∧ tn i s.heap ∧ (∀ b ∈ fp, H b = none) ∧ W i m H
/-- the protocol: a truth value is handed out -/
def gY (Y : Cx) (a : Addr) (go : Obj) (σ : L2.St) (fp : List Addr) (tn : Nat → Heap → Prop) (W : Nat → Nat → Hp → Prop) (st : Bool) (Q : VK) : Protocol := fun _ _ v s κ =>
  ∃ b, v = .bool b ∧ s.heap.NoLimit ∧ s.heap.get? a = some go ∧ AllBare s.gens ∧ bif b == st then (∃ H, Inv Y [(a, go)] σ H s ∧ Q (.bl st) H) else
    (∃ i m, At Y a go σ fp tn W i m s) ∧ ∀ s', s'.heap = s.heap → s'.os = s.os → AllBare s'.gens → κ (.send .none) s'
def gR (Y : Cx) (a : Addr) (go : Obj) (σ : L2.St) (st : Bool) (Q : VK) : GenEnd := fun _ _ r s => r = .ok .next ∧ ∃ H, Inv Y [(a, go)] σ H s ∧ Q (.bl (!st)) H
theorem gen_turns {A : Around} {s4 : Shared} {H4 : Hp} {cenv : PySem.Env} {fp : List Addr} {a it : Addr} {go : Obj} {σ0 : L2.St} {tn : Nat → Heap → Prop} {J : It} {W : Nat → Nat → Hp → Prop} {st : Bool} {Q : VK} {elt tg iter : Expr} {scope : Scope} {pos : Pos} {g : TG} {te : TE} {vs : List Nat}
    (hco : cenv.scope.isCoroutine = false)
    (T : Turn X.prog X.w X.K tg J fp it tn) (pg : PG (gX X (A.over (.compLoop (.GeneratorExp elt [⟨tg, iter, [], 0⟩] scope pos) 0 (.ref it) .none cenv) []) s4 H4 cenv fp) tg g)
    (pe : PE (gX X (A.over (.compLoop (.GeneratorExp elt [⟨tg, iter, [], 0⟩] scope pos) 0 (.ref it) .none cenv) []) s4 H4 cenv fp) elt te)
    (hne : ∀ b ∈ fp, b ≠ a)
    (turn : ∀ i m H, W i m H → (J.stop i H ∧ Q (.bl (!st)) H) ∨ (J.go i H ∧ ∃ Nx : Hp → Prop, (∀ H', Nx H' → ∃ m', m' < m ∧ W (i + 1) m' H') ∧ ∀ x H', J.yld i H x H' → g x (wipe σ0 vs) H' fun σ2 H2 => wipe σ2 vs = wipe σ0 vs ∧
      te σ2 H2 fun y H3 => ∃ b, y = .bl b ∧ bif b == st then Q (.bl st) H3 else Nx H3)) :
    ∀ (m n i : Nat) (s₀ s : Shared), m < n → At (gX X (A.over (.compLoop (.GeneratorExp elt [⟨tg, iter, [], 0⟩] scope pos) 0 (.ref it) .none cenv) []) s4 H4 cenv fp) a go (wipe σ0 vs) fp tn W i m s →
      Seg (model X.prog X.w) A (gR (gX X (A.over (.compLoop (.GeneratorExp elt [⟨tg, iter, [], 0⟩] scope pos) 0 (.ref it) .none cenv) []) s4 H4 cenv fp) a go (wipe σ0 vs) st Q) (gY (gX X (A.over (.compLoop (.GeneratorExp elt [⟨tg, iter, [], 0⟩] scope pos) 0 (.ref it) .none cenv) []) s4 H4 cenv fp) a go (wipe σ0 vs) fp tn W st Q) n s₀
        (.compLoop (.GeneratorExp elt [⟨tg, iter, [], 0⟩] scope pos) 0 (.ref it) .none cenv) ((model X.prog X.w).den (.compLoop (.GeneratorExp elt [⟨tg, iter, [], 0⟩] scope pos) 0 (.ref it) .none cenv)) [] s := by
  generalize hY : gX X (A.over (.compLoop (.GeneratorExp elt [⟨tg, iter, [], 0⟩] scope pos) 0 (.ref it) .none cenv) []) s4 H4 cenv fp = Y at pg pe ⊢
  have yA : Y.A = A.over (.compLoop (.GeneratorExp elt [⟨tg, iter, [], 0⟩] scope pos) 0 (.ref it) .none cenv) [] := by rw [← hY]
  have yP : Y.prog = X.prog := by rw [← hY]
  have yw : Y.w = X.w := by rw [← hY]
  have yK : Y.K = X.K := by rw [← hY]
  have ye : Y.env = cenv := by rw [← hY]
  have yc : Y.calm = true := by rw [← hY]
  have yx : Y.ex = fp := by rw [← hY]
  have yn : Y.pn = [] := by rw [← hY]
  have yxe : Y.xe = fun _ _ => False := by rw [← hY]
  have fpok : ∀ {σ' : L2.St} {H' : Hp} {s' : Shared}, Inv Y [(a, go)] σ' H' s' → (∀ b ∈ fp, H' b = none) → ∀ b ∈ fp, FpOk Y [(a, go)] H' b := fun {σ' H' s'} I' hn b hb => by
    have hbx : b ∈ Y.ex := by rw [yx]; exact hb
    refine ⟨hn b hb, (I'.ok.exf b hbx).1, I'.ok.exfs b hbx, .inl hbx, fun x c e => (I'.ok.exf b hbx).2 x c e, fun p hp => ?_⟩
    rw [yn, List.nil_append] at hp
    rw [List.mem_singleton.mp hp]
    exact fun z => hne b hb z.symm
  intro m
  induction m using Nat.strongRecOn with
  | ind m ih =>
    intro n i s₀ s hmn ⟨H5, I5, st5, n5, w5⟩
    obtain ⟨n, rfl⟩ : ∃ k, n = k + 1 := ⟨n - 1, by omega⟩
    show Seg _ A _ _ _ s₀ _ ((compTurn (.GeneratorExp elt [⟨tg, iter, [], 0⟩] scope pos) 0 (.ref it) .none cenv).onRaise (leaving cenv)) [] s
    rw [compTurn_gen, Sem.onRaise_eq_wrap]
    refine seg_bind_wrap (wpAny_standAt ?_)
    rcases turn i m H5 w5 with ⟨stop, qq⟩ | ⟨go', Nx, hNx, step⟩
    · have td := T.done Y yP yw yK yc i [(a, go)] s _ H5 (fun _ _ => False) I5 (fpok I5 n5) st5 stop
      rw [yA] at td
      refine seg_bind_wrap (thnF td fun r s6 ⟨hr, I6⟩ => ?_)
      subst hr
      exact seg_end (.ok .next) ⟨rfl, H5, I6, qq⟩
    · have ti := T.item Y yP yw yK yc i [(a, go)] s _ H5 (fun _ _ => False) I5 (fpok I5 n5) st5 go'
      rw [yA] at ti
      refine seg_bind_wrap (thnF ti fun r s6 ⟨u, hr, h6⟩ => ?_)
      subst hr
      refine seg_bind_wrap (thnF h6 fun _ s7 ⟨x, H7, I7, r7, y7, st7, n7⟩ => ?_)
      have I7' := I7.pinned (fpok I7 n7) (T.obj _ _ st7)
      have pgr := pg.run _ s7 _ H7 x u _ I7' r7 (step x H7 y7)
      rw [yA, yP, yw, ye, yxe] at pgr
      refine seg_bind_wrap (thnF pgr fun _ s8 ⟨σ8, H8, I8, hw8, q8⟩ => ?_)
      refine seg_bind_wrap (wpAny_tests_nil ?_)
      simp only [if_true]
      have hy : ∀ v, yieldOut cenv v = yieldValue v := fun v => by simp only [yieldOut, hco, Bool.false_eq_true, if_false]
      simp only [hy]
      rw [Sem.bind_eq_wrap', Sem.bind_eq_wrap', Sem.wrap_wrap, Sem.wrap_wrap]
      have per := pe.run _ s8 σ8 H8 _ I8 q8
      rw [yA, yP, yw, ye, yxe] at per
      refine seg_wrap (thnF per fun y s10 ⟨yv, H10, I10, r10, b, eb, q10⟩ => ?_)
      subst eb
      obtain rfl : y = .bool b := r10
      have pin' : ∀ b ∈ fp, ∀ o, s7.heap.get? b = some o → s10.heap.get? b = some o ∧ H10 b = none := fun b hb o e =>
        let z := I10.pin (b, o) (List.mem_append_right _ (List.mem_append_right _ (mem_pinsAt hb e)))
        ⟨z.1, z.2.1⟩
      have hl : (wipe σ0 vs).length = σ8.length := by rw [← hw8, wipe_length]
      have I11 : Inv Y [(a, go)] (wipe σ0 vs) H10 s10 := (I10.unpinned (pins := [(a, go)])).weak hl fun j v e => by
        rw [← hw8] at e
        exact (wipe_some e).1
      refine seg_at (seg_yield rfl rfl rfl ⟨b, rfl, I11.nolimit, (I11.pin (a, go) (List.mem_append_right _ List.mem_cons_self)).1, I11.bare, ?_⟩)
      cases hb : (b == st) with
      | true =>
        rw [hb] at q10
        exact ⟨H10, I11, q10⟩
      | false =>
        rw [hb] at q10
        obtain ⟨m', hm, w'⟩ := hNx H10 q10
        have st11 : tn (i + 1) s10.heap := T.keep _ _ _ st7 fun b hb o e => (pin' b hb o e).1
        have n11 : ∀ b ∈ fp, H10 b = none := fun b hb => by
          obtain ⟨o, e, _⟩ := T.obj _ _ st7 b hb
          exact (pin' b hb o e).2
        refine ⟨⟨i + 1, m', H10, I11, st11, n11, w'⟩, fun s' e1 e2 e3 => seg_again rfl (ih m' hm n (i + 1) s' s' (by omega) ⟨H10, inv_re I11 e1 e2 e3, by rw [e1]; exact st11, n11, w'⟩)⟩

theorem all_drain {Y : Cx} {A : Around} {a : Addr} {g : Nat} {go : Obj} {σ0 : L2.St} {fp : List Addr} {tn : Nat → Heap → Prop} {W : Nat → Nat → Hp → Prop} {Q : VK} {R : Result → Shared → Prop} (hh : A.handled = none) (hd : A.depth < recursionLimit)
    (isg : ∀ h : Heap, h.get? a = some go → h.IsGen a g)
    (fin : ∀ s' H b, Inv Y [(a, go)] σ0 H s' → Q (.bl b) H → R (.ok (.ret (.bool b))) s') :
    ∀ (n : Nat) (s : Shared), s.heap.get? a = some go → s.heap.NoLimit → (∃ gs, s.gens[g]? = some gs ∧ gs.Goes (model X.prog X.w) A.in1.in1 (gR Y a go σ0 false Q) (gY Y a go σ0 fp tn W false Q) n (.send .none) (s.setGen g .running)) →
      codeAny (model X.prog X.w) A (.builtin "all.loop" ⟨[.ref a], []⟩) R s := by
  have goes : ∀ {gs : GenState} {n : Nat} {s : Shared}, gs.Goes (model X.prog X.w) A.in1.in1 (gR Y a go σ0 false Q) (gY Y a go σ0 fp tn W false Q) n (.send .none) s →
      gs.Goes (model X.prog X.w) A.in1.in1 (fun n s₀ r s₁ => r = .ok .next ∧ (fun (_ : Nat) (_ s₁ : Shared) => ∃ H, Inv Y [(a, go)] σ0 H s₁ ∧ Q (.bl (!false)) H) n s₀ s₁) (gY Y a go σ0 fp tn W false Q) n (.send .none) s := fun h => h
  intro n
  induction n with
  | zero =>
    intro s ha hl ⟨gs, hgs, hgo⟩
    have hg := isg _ ha
    refine codeAny_builtin (F.entry_all_loop) ?_; rw [Around.under_plainId (F.plain_all_loop) _]
    show wpAny _ A.in1 (pyNext (.ref a) >>= _) _ _ s
    refine wpAny_bind (wpAny_pyNext_genexpQ (A := A.in1) hh hl hd hg hgs (goes hgo) (fun v s₁ gs' hbare hv => ?_) (fun s₁ hp h' hk => ?_))
    · obtain ⟨b, rfl, hl1, ha1, hb1, q⟩ := hv
      cases hb : (b == false) with
      | true =>
        rw [hb] at q
        obtain ⟨H, I, q⟩ := q
        obtain rfl : b = false := by simpa using hb
        refine wpAny_bind (wpAny_holding (wpAny_truthy_bool ?_)); refine wpAny_bind (wpAny_letGo ?_)
        simp only [Bool.false_eq_true, if_false, if_true]
        refine wpAny_bind (wpAny_rule (wpAny_pure ?_)); exact fin _ H _ (inv_re I rfl rfl (allBare_setGen hb1 hbare)) q
      | false =>
        rw [hb] at q
        exact (q.2 s₁ rfl rfl hb1).elim
    · obtain ⟨H, I, q⟩ := hp
      refine wpAny_bind (wpAny_rule (wpAny_pure ?_)); exact fin _ H _ ((inv_re (s' := s₁.setGen g .finished) I rfl rfl (allBare_setGen I.bare rfl)).kept (t' := s₁.toks) hk) q
  | succ n ih =>
    intro s ha hl ⟨gs, hgs, hgo⟩
    have hg := isg _ ha
    have hgl : g < s.gens.size := (Array.getElem?_eq_some_iff.mp hgs).1
    refine codeAny_builtin (F.entry_all_loop) ?_; rw [Around.under_plainId (F.plain_all_loop) _]
    show wpAny _ A.in1 (pyNext (.ref a) >>= _) _ _ s
    refine wpAny_bind (GenW.wpAny_gsz (n := g + 1) hgl (wpAny_pyNext_genexpQ (A := A.in1) hh hl hd hg hgs (goes hgo) (fun v s₁ gs' hbare hv => ?_) (fun s₁ hp h' hk => ?_)))
    · intro hsz
      obtain ⟨b, rfl, hl1, ha1, hb1, q⟩ := hv
      cases hb : (b == false) with
      | true =>
        rw [hb] at q
        obtain ⟨H, I, q⟩ := q
        obtain rfl : b = false := by simpa using hb
        refine wpAny_bind (wpAny_holding (wpAny_truthy_bool ?_)); refine wpAny_bind (wpAny_letGo ?_)
        simp only [Bool.false_eq_true, if_false, if_true]
        refine wpAny_bind (wpAny_rule (wpAny_pure ?_)); exact fin _ H _ (inv_re I rfl rfl (allBare_setGen hb1 hbare)) q
      | false =>
        rw [hb] at q
        obtain rfl : b = true := by cases b <;> first | rfl | cases hb
        have hsz1 : g < s₁.gens.size := by
          have q1 : (s₁.setGen g gs').gens.size = s₁.gens.size := GenW.setGen_size _ _ _
          have q2 : g + 1 ≤ (s₁.setGen g gs').gens.size := hsz
          omega
        refine wpAny_bind (wpAny_holding (wpAny_truthy_bool ?_)); refine wpAny_bind (wpAny_letGo ?_)
        simp only [Bool.false_eq_true, if_false, if_true]
        refine wpAny_pure ⟨plainId_quiet (F.plain_all_loop) _, ih _ ha1 hl1 ⟨gs', setGen_at hsz1, ?_⟩⟩
        exact q.2 _ rfl rfl (allBare_setGen (s := s₁.setGen g gs') (allBare_setGen hb1 hbare) rfl)
    · intro hsz
      obtain ⟨H, I, q⟩ := hp
      refine wpAny_bind (wpAny_rule (wpAny_pure ?_)); exact fin _ H _ ((inv_re (s' := s₁.setGen g .finished) I rfl rfl (allBare_setGen I.bare rfl)).kept (t' := s₁.toks) hk) q

theorem any_drain {Y : Cx} {A : Around} {a : Addr} {g : Nat} {go : Obj} {σ0 : L2.St} {fp : List Addr} {tn : Nat → Heap → Prop} {W : Nat → Nat → Hp → Prop} {Q : VK} {R : Result → Shared → Prop} (hh : A.handled = none) (hd : A.depth < recursionLimit)
    (isg : ∀ h : Heap, h.get? a = some go → h.IsGen a g)
    (fin : ∀ s' H b, Inv Y [(a, go)] σ0 H s' → Q (.bl b) H → R (.ok (.ret (.bool b))) s') :
    ∀ (n : Nat) (s : Shared), s.heap.get? a = some go → s.heap.NoLimit → (∃ gs, s.gens[g]? = some gs ∧ gs.Goes (model X.prog X.w) A.in1.in1 (gR Y a go σ0 true Q) (gY Y a go σ0 fp tn W true Q) n (.send .none) (s.setGen g .running)) →
      codeAny (model X.prog X.w) A (.builtin "any.loop" ⟨[.ref a], []⟩) R s := by
  have goes : ∀ {gs : GenState} {n : Nat} {s : Shared}, gs.Goes (model X.prog X.w) A.in1.in1 (gR Y a go σ0 true Q) (gY Y a go σ0 fp tn W true Q) n (.send .none) s →
      gs.Goes (model X.prog X.w) A.in1.in1 (fun n s₀ r s₁ => r = .ok .next ∧ (fun (_ : Nat) (_ s₁ : Shared) => ∃ H, Inv Y [(a, go)] σ0 H s₁ ∧ Q (.bl (!true)) H) n s₀ s₁) (gY Y a go σ0 fp tn W true Q) n (.send .none) s := fun h => h
  intro n
  induction n with
  | zero =>
    intro s ha hl ⟨gs, hgs, hgo⟩
    have hg := isg _ ha
    refine codeAny_builtin (F.entry_any_loop) ?_; rw [Around.under_plainId (F.plain_any_loop) _]
    show wpAny _ A.in1 (pyNext (.ref a) >>= _) _ _ s
    refine wpAny_bind (wpAny_pyNext_genexpQ (A := A.in1) hh hl hd hg hgs (goes hgo) (fun v s₁ gs' hbare hv => ?_) (fun s₁ hp h' hk => ?_))
    · obtain ⟨b, rfl, hl1, ha1, hb1, q⟩ := hv
      cases hb : (b == true) with
      | true =>
        rw [hb] at q
        obtain ⟨H, I, q⟩ := q
        obtain rfl : b = true := by simpa using hb
        refine wpAny_bind (wpAny_holding (wpAny_truthy_bool ?_)); refine wpAny_bind (wpAny_letGo ?_)
        simp only [Bool.false_eq_true, if_false, if_true]
        refine wpAny_bind (wpAny_rule (wpAny_pure ?_)); exact fin _ H _ (inv_re I rfl rfl (allBare_setGen hb1 hbare)) q
      | false =>
        rw [hb] at q
        exact (q.2 s₁ rfl rfl hb1).elim
    · obtain ⟨H, I, q⟩ := hp
      refine wpAny_bind (wpAny_rule (wpAny_pure ?_)); exact fin _ H _ ((inv_re (s' := s₁.setGen g .finished) I rfl rfl (allBare_setGen I.bare rfl)).kept (t' := s₁.toks) hk) q
  | succ n ih =>
    intro s ha hl ⟨gs, hgs, hgo⟩
    have hg := isg _ ha
    have hgl : g < s.gens.size := (Array.getElem?_eq_some_iff.mp hgs).1
    refine codeAny_builtin (F.entry_any_loop) ?_; rw [Around.under_plainId (F.plain_any_loop) _]
    show wpAny _ A.in1 (pyNext (.ref a) >>= _) _ _ s
    refine wpAny_bind (GenW.wpAny_gsz (n := g + 1) hgl (wpAny_pyNext_genexpQ (A := A.in1) hh hl hd hg hgs (goes hgo) (fun v s₁ gs' hbare hv => ?_) (fun s₁ hp h' hk => ?_)))
    · intro hsz
      obtain ⟨b, rfl, hl1, ha1, hb1, q⟩ := hv
      cases hb : (b == true) with
      | true =>
        rw [hb] at q
        obtain ⟨H, I, q⟩ := q
        obtain rfl : b = true := by simpa using hb
        refine wpAny_bind (wpAny_holding (wpAny_truthy_bool ?_)); refine wpAny_bind (wpAny_letGo ?_)
        simp only [Bool.false_eq_true, if_false, if_true]
        refine wpAny_bind (wpAny_rule (wpAny_pure ?_)); exact fin _ H _ (inv_re I rfl rfl (allBare_setGen hb1 hbare)) q
      | false =>
        rw [hb] at q
        obtain rfl : b = false := by cases b <;> first | rfl | cases hb
        have hsz1 : g < s₁.gens.size := by
          have q1 : (s₁.setGen g gs').gens.size = s₁.gens.size := GenW.setGen_size _ _ _
          have q2 : g + 1 ≤ (s₁.setGen g gs').gens.size := hsz
          omega
        refine wpAny_bind (wpAny_holding (wpAny_truthy_bool ?_)); refine wpAny_bind (wpAny_letGo ?_)
        simp only [Bool.false_eq_true, if_false, if_true]
        refine wpAny_pure ⟨plainId_quiet (F.plain_any_loop) _, ih _ ha1 hl1 ⟨gs', setGen_at hsz1, ?_⟩⟩
        exact q.2 _ rfl rfl (allBare_setGen (s := s₁.setGen g gs') (allBare_setGen hb1 hbare) rfl)
    · intro hsz
      obtain ⟨H, I, q⟩ := hp
      refine wpAny_bind (wpAny_rule (wpAny_pure ?_)); exact fin _ H _ ((inv_re (s' := s₁.setGen g .finished) I rfl rfl (allBare_setGen I.bare rfl)).kept (t' := s₁.toks) hk) q


/-- the reading with the table at P -/
def tGenP (P : Addr) (st : Bool) (wi : TI) (g : TG) (te : TE) (vs : List Nat) : TE := fun σ H Q => wi σ H fun J H1 => H1 P = some (.ext (tabOk P)) ∧ ∃ W : Nat → Nat → Hp → Prop, (∃ m, W 0 m H1) ∧ ∀ i m H, W i m H →
  (J.stop i H ∧ Q (.bl (!st)) H) ∨ (J.go i H ∧ ∃ Nx : Hp → Prop, (∀ H', Nx H' → ∃ m', m' < m ∧ W (i + 1) m' H') ∧ ∀ x H', J.yld i H x H' → g x (wipe σ vs) H' fun σ2 H2 => wipe σ2 vs = wipe σ vs ∧
    te σ2 H2 fun y H3 => ∃ b, y = .bl b ∧ bif b == st then Q (.bl st) H3 else Nx H3)
abbrev gEnv (X : Cx) (scope : Scope) (C : Addr) (code : Value) : PySem.Env := genEnv scope (cloFrom X.env.cells scope.names []) C code builtinsNs X.env
/-- the generator that was made, ready to be woken -/
structure Ready (X : Cx) (pins : List (Addr × Obj)) (σ : L2.St) (st : Bool) (Q : VK) (a : Addr) (s : Shared) : Prop where
  ex : ∃ (Y : Cx) (g : Nat) (go : Obj) (σ0 : L2.St) (fp : List Addr) (tn : Nat → Heap → Prop) (W : Nat → Nat → Hp → Prop) (n : Nat) (gs : GenState), s.heap.get? a = some go ∧ (∀ h : Heap, h.get? a = some go → h.IsGen a g) ∧ s.heap.NoLimit ∧
    s.gens[g]? = some gs ∧ gs.Goes (model X.prog X.w) X.A.in1.in1 (gR Y a go σ0 st Q) (gY Y a go σ0 fp tn W st Q) n (.send .none) (s.setGen g .running) ∧
    ∀ s' H b, Inv Y [(a, go)] σ0 H s' → Q (.bl b) H → EP X pins σ Q (.bool b) s'
theorem gen_make {k : Nat} {st : Bool} {c P : Addr} {elt tg iter : Expr} {scope : Scope} {own : List (Str × Nat)} {gpos : Pos} {wi : TI} {g : TG} {te : TE} {Q : VK} {Q' : Value → Shared → Prop}
    (hr : Room (k + 1) X.A) (TB : GxR.TabB X.base X.mg c P) (hcode : X.env.code = .ref c) (S : GSc X scope own) (hN : X.N.Nodup) (hi : PI X tg iter wi)
    (hg : ∀ (A' : Around) (s : Shared) (H : Hp) (C : Addr) (code : Value) (fp : List Addr), Room k A' → PG (gX X A' s H (gEnv X scope C code) fp) tg g)
    (he : ∀ (A' : Around) (s : Shared) (H : Hp) (C : Addr) (code : Value) (fp : List Addr), Room k A' → PE (gX X A' s H (gEnv X scope C code) fp) elt te)
    (hs : ∀ v, genFold iter X.env v = pure v) (I : Inv X pins σ H s) (h : tGenP P st wi g te (own.map (·.2)) σ H Q) (hQ : ∀ a s5, Ready X pins σ st Q a s5 → Q' (.ref a) s5) :
    wpAny (model X.prog X.w) X.A (eval (.GeneratorExp elt [⟨tg, iter, [], 0⟩] scope gpos) X.env) Q' X.xe s := by
  have hfree : ∀ y ∈ scope.names, y.2 = .free → ∃ c, X.env.cells.lookup y.1 = some c := fun y hy e => by
    rcases S.ok.free y hy e with q | q
    · exact I.ok.has _ (.inl q)
    · exact I.ok.has _ (.inr q)
  refine wpAny_GeneratorExp_make S.co (closure_ok hfree) S.cell S.dot S.ok.kind (by have := hr.dp; omega) ?_ hs
  refine thn (hi.run pins s σ H _ I h) fun xv s1 hx => thn hx fun itv s2 h2 => ?_
  obtain ⟨it, fp, tn, J, H2, rfl, I2, T, st2, f2, hP, W, ⟨m0, w0⟩, turn⟩ := h2
  refine ⟨I2.nolimit, ?_⟩
  obtain ⟨⟨ps, hPs, hPt⟩, _⟩ := I2.hok P _ hP
  have cd : PySem.W.CodeHd s2.heap c P := TB.code.keeps I2.bk
  have main : ∀ (code : Value) (h3 : Heap) (tk : Nat), (∀ b o, b ≠ P → s2.heap.get? b = some o → h3.get? b = some o) → tabOk P h3 → s2.heap.objs.size ≤ h3.objs.size →
      wpAny (model X.prog X.w) X.A (builtinsFor X.env.globals X.env.builtins) (fun bi s₄ =>
        ∀ h', h'.Ns s₄.heap.objs.size (fun y => if y = ".0" then some (.ref it) else none) → Heap.SameBut s₄.heap.objs.size (s₄.heap.push { cls := .type "frame", data := .dict #[] }) h' →
          Q' (.ref h'.objs.size) { s₄ with
            gens := s₄.gens.push (.fresh (.compStart (.GeneratorExp elt [⟨tg, iter, [], 0⟩] scope gpos) 0 (.ref it) .none (genEnv scope (cloFrom X.env.cells scope.names []) s₄.heap.objs.size code bi X.env))),
            toks := s₄.toks + 1 + 1 + 1,
            heap := h'.push { cls := .type "generator", data := .fields #[.int s₄.gens.size 0, .str "<genexpr>" (s₄.toks + 1), .str (X.env.qual ++ "<genexpr>") (s₄.toks + 1 + 1)] } }) X.xe { s2 with heap := h3, toks := tk } := by
    intro code h3 tk k3 t3 z3
    have I3 : Inv X pins σ H2 { s2 with heap := h3, toks := tk } := inv_tab (g' := s2.gens) (d' := s2.drawn) (t' := tk) I2 hP k3 t3 I2.bare
    obtain ⟨bm, ob, e1, e2, e3, e4, e5, e6, e7, e8⟩ := TB.bm
    refine wpAny_builtinsFor (m := X.mg) (by rw [I3.ok.glob]; exact I3.mod.glob.keeps I3.bk) e1 e2 (I3.bk _ _ e5) e6 e7 e8 ?_
    intro h' hn' hs'
    generalize hs3 : ({ s2 with heap := h3, toks := tk } : Shared) = s3 at I3 hn' hs' ⊢
    have hh3 : s3.heap = h3 := by rw [← hs3]
    have hsz : h'.objs.size = s3.heap.objs.size + 1 := by rw [hs'.1, Heap.size_push]
    have keep' : ∀ b o, s3.heap.get? b = some o → h'.get? b = some o := fun b o e => hs'.extBut b o (Nat.ne_of_lt (Heap.lt_size e)) (Heap.get?_push_of_some _ e)
    have nP : ∀ b ∈ fp, b ≠ P := fun b hb z => by
      have q := (f2 b hb).1
      rw [z, hP] at q; cases q
    have st3 : tn 0 s3.heap := T.keep _ _ _ st2 fun b hb o e => by rw [hh3]; exact k3 b o (nP b hb) e
    have f3 : ∀ b ∈ fp, FpOk X pins H2 b ∧ b < s3.heap.objs.size := fun b hb => ⟨f2 b hb, by
      obtain ⟨o, e, _⟩ := T.obj _ _ st3 b hb
      exact Heap.lt_size e⟩
    generalize hgo : ({ cls := .type "generator", data := .fields #[.int s3.gens.size 0, .str "<genexpr>" (s3.toks + 1), .str (X.env.qual ++ "<genexpr>") (s3.toks + 1 + 1)] } : Obj) = go
    generalize hce : genEnv scope (cloFrom X.env.cells scope.names []) s3.heap.objs.size code builtinsNs X.env = cenv
    generalize hs6 : ({ s3 with gens := s3.gens.push (.fresh (.compStart (.GeneratorExp elt [⟨tg, iter, [], 0⟩] scope gpos) 0 (.ref it) .none cenv)), toks := s3.toks + 1 + 1 + 1, heap := h'.push go } : Shared) = s6
    have gh6 : s6.heap = h'.push go := by rw [← hs6]
    have ha6 : s6.heap.get? h'.objs.size = some go := by rw [gh6]; exact Heap.get?_push_size _ (by rw [← hgo]; rfl)
    have kp6 : ∀ b o, s3.heap.get? b = some o → s6.heap.get? b = some o := fun b o e => by rw [gh6]; exact Heap.get?_push_of_some _ (keep' b o e)
    have bare6 : AllBare s6.gens := by rw [← hs6]; exact I3.bare.push rfl
    have os6 : s6.os = s3.os := by rw [← hs6]
    have rA : Room k (X.A.in1.in1.over (.compLoop (.GeneratorExp elt [⟨tg, iter, [], 0⟩] scope gpos) 0 (.ref it) .none cenv) []) := ⟨hr.hd, by have := hr.dp; show X.A.depth + 0 + 1 + 3 * k + 5 < _; omega, by have := hr.un; show X.A.units + 1 + 1 + 0 + 3 + 16 * k + 200 < _; omega⟩
    have fA : (X.A.in1.in1.over (.compLoop (.GeneratorExp elt [⟨tg, iter, [], 0⟩] scope gpos) 0 (.ref it) .none cenv) []).frames = some (cenv :: X.stack) := by
      show pushEnvs [cenv] (pushEnvs [] X.A.frames) = _
      rw [I.ok.frames]; rfl
    have I6 : Inv (gX X (X.A.in1.in1.over (.compLoop (.GeneratorExp elt [⟨tg, iter, [], 0⟩] scope gpos) 0 (.ref it) .none cenv) []) s3 H2 cenv fp) [(h'.objs.size, go)] (wipe σ (own.map (·.2))) H2 s6 := by
      subst hce
      exact gen_start I3 S hN f3 hr.hd fA (by rw [gh6]; exact hn'.push _) kp6 ha6 (by omega) (fun v z => by rw [← hgo] at z; cases z) os6 bare6
    have st6 : tn 0 s6.heap := T.keep _ _ _ st3 fun b _ o e => kp6 b o e
    have ne6 : ∀ b ∈ fp, b ≠ h'.objs.size := fun b hb => Nat.ne_of_lt (Nat.lt_trans (f3 b hb).2 (by omega))
    have pg := hg _ s3 H2 s3.heap.objs.size code fp rA
    have pe := he _ s3 H2 s3.heap.objs.size code fp rA
    have cco : cenv.scope.isCoroutine = false := by rw [← hce]; exact S.co
    rw [show gEnv X scope s3.heap.objs.size code = cenv from hce] at pg pe
    have loop := fun (s' : Shared) (e1 : s'.heap = s6.heap) (e2 : s'.os = s6.os) (e3 : AllBare s'.gens) => gen_turns (A := X.A.in1.in1) (st := st) (Q := Q) (σ0 := σ) (vs := own.map (·.2)) (W := W) cco T pg pe ne6 turn m0 (m0 + 1) 0 s' s' (Nat.lt_succ_self _) ⟨H2, inv_re I6 e1 e2 e3, by rw [e1]; exact st6, fun b hb => (f3 b hb).1.1, w0⟩
    refine hQ h'.objs.size s6 ⟨⟨gX X (X.A.in1.in1.over (.compLoop (.GeneratorExp elt [⟨tg, iter, [], 0⟩] scope gpos) 0 (.ref it) .none cenv) []) s3 H2 cenv fp, s3.gens.size, go, wipe σ (own.map (·.2)), fp, tn, W, m0 + 1, .fresh (.compStart (.GeneratorExp elt [⟨tg, iter, [], 0⟩] scope gpos) 0 (.ref it) .none cenv), ha6, fun hh e => ⟨go, _, _, e, by rw [← hgo], by rw [← hgo], by rw [← hgo]⟩, I6.nolimit, by rw [← hs6]; exact Array.getElem?_push_size .., ⟨rfl, ?_⟩, ?_⟩⟩
    · have lp := loop (s6.setGen s3.gens.size .running) rfl rfl (allBare_setGen bare6 rfl)
      show Seg _ _ _ _ _ _ _ ((compStart (.GeneratorExp elt [⟨tg, iter, [], 0⟩] scope gpos) 0 (.ref it) .none cenv).onRaise (leaving cenv)) [] _
      unfold compStart
      rw [Sem.onRaise_eq_wrap]
      show Seg _ _ _ _ _ _ _ ((ask >>= _).wrap _ _ _ _) [] _
      refine seg_bind_wrap (wpAny_askSetting ?_)
      split
      · exact seg_again rfl lp
      · refine seg_bind_wrap (wpAny_rule ?_)
        show Seg _ _ _ _ _ _ _ ((standAt iter.pos >>= _).wrap _ _ _ _) [] _
        exact seg_bind_wrap (wpAny_standAt (seg_bind_wrap (T.self _ 0 _ _ _ (by exact st6) (seg_again rfl lp))))
    · intro s' H5 b I5 q
      have I7 : Inv X pins σ H5 s' := I3.call' (ch := fp) I5.os I5.base I5.hok I5.bare fun b hb => ⟨(f3 b hb).1.2.2.2.1, (f3 b hb).1.2.1, (f3 b hb).1.2.2.2.2.1, (f3 b hb).1.2.2.2.2.2⟩
      exact ⟨.bl b, H5, I7, rfl, q⟩
  cases hf : codeAmong gpos ps.toList with
  | none =>
    refine wpAny_genexprCodeX hcode (cd.code hPs hPt) (cd.tab hPs) hf fun c' h' tk hx hge hlt hco' _ htab' _ => ?_
    obtain ⟨o1, vs, f1, tf, fl, tg', inF, tx, tt, op, _, _, _, _, _, _, _, _, _, htr, _⟩ := hco'
    exact main _ h' tk (fun b o hb e => hx b o hb e) ⟨_, htab'.2, htr⟩ (Nat.le_trans hge (Nat.le_of_lt hlt))
  | some cv =>
    refine wpAny_genexprCode_hit hcode (cd.code hPs hPt) hf ?_
    exact main cv s2.heap s2.toks (fun _ _ _ e => e) ⟨ps, hPs, hPt⟩ (Nat.le_refl _)

/-- all(elt for target in iter) -/
theorem pe_allG {k : Nat} {c P : Addr} {elt tg iter : Expr} {scope : Scope} {own : List (Str × Nat)} {p pos gpos : Pos} {wi : TI} {g : TG} {te : TE}
    (hr : Room (k + 1) X.A) (hgl : Gl X "all") (hm : X.mg "all" = none) (hb : bootBuiltins "all" = some (.builtin "all")) (TB : GxR.TabB X.base X.mg c P) (hcode : X.env.code = .ref c) (S : GSc X scope own) (hN : X.N.Nodup) (hi : PI X tg iter wi)
    (hg : ∀ (A' : Around) (s : Shared) (H : Hp) (C : Addr) (code : Value) (fp : List Addr), Room k A' → PG (gX X A' s H (gEnv X scope C code) fp) tg g)
    (hel : ∀ (A' : Around) (s : Shared) (H : Hp) (C : Addr) (code : Value) (fp : List Addr), Room k A' → PE (gX X A' s H (gEnv X scope C code) fp) elt te)
    (hs : ∀ v, genFold iter X.env v = pure v)
    (he : starEach [.GeneratorExp elt [⟨tg, iter, [], 0⟩] scope gpos] X.env = (false, eval (.GeneratorExp elt [⟨tg, iter, [], 0⟩] scope gpos) X.env) :: starEach [] X.env := by rfl) :
    PE X (.Call (.Name "all" p) [.GeneratorExp elt [⟨tg, iter, [], 0⟩] scope gpos] [] pos) (tGenP P false wi g te (own.map (·.2))) := by
  refine ⟨fun pins s σ H Q I h => ?_⟩
  refine wpAny_Call_Name_kw (ld_blt I hgl hm hb ?_)
  refine PyProof.Rows.callWith_builtin1 ?_ he (by rfl); rw [he]
  show wpAny _ _ (spliced ((false, eval (.GeneratorExp elt [⟨tg, iter, [], 0⟩] scope gpos) X.env) :: backTo pos (starEach [] X.env))) _ _ s
  refine Calls.spliced_cons (gen_make hr TB hcode S hN hi hg hel hs I h fun a s5 G => Calls.spliced_nil ?_)
  obtain ⟨Y, g, go, σ0, fp, tn, W, n, gs, ha, isg, hl, hgs, hgo, fin⟩ := G.ex
  refine call_function_tree F.kind_all F.plain_all F.entry_all (F.args_all1 _) ?_
  unfold Builtin.«all»; refine wpAny_bind (m := oneArg "all" _) (wpAny_pure ?_)
  refine wpAny_bind (wpAny_pyIter_gen (isg _ ha) ?_)
  exact wpAny_pure ⟨plainId_quiet (F.plain_all_loop) _, all_drain (X := X) (A := X.A) hr.hd (by have := hr.dp; omega) isg (fun s' H b I q => fin s' H b I q) n s5 ha hl ⟨gs, hgs, hgo⟩⟩

/-- any(elt for target in iter) -/
theorem pe_anyG {k : Nat} {c P : Addr} {elt tg iter : Expr} {scope : Scope} {own : List (Str × Nat)} {p pos gpos : Pos} {wi : TI} {g : TG} {te : TE}
    (hr : Room (k + 1) X.A) (hgl : Gl X "any") (hm : X.mg "any" = none) (hb : bootBuiltins "any" = some (.builtin "any")) (TB : GxR.TabB X.base X.mg c P) (hcode : X.env.code = .ref c) (S : GSc X scope own) (hN : X.N.Nodup) (hi : PI X tg iter wi)
    (hg : ∀ (A' : Around) (s : Shared) (H : Hp) (C : Addr) (code : Value) (fp : List Addr), Room k A' → PG (gX X A' s H (gEnv X scope C code) fp) tg g)
    (hel : ∀ (A' : Around) (s : Shared) (H : Hp) (C : Addr) (code : Value) (fp : List Addr), Room k A' → PE (gX X A' s H (gEnv X scope C code) fp) elt te)
    (hs : ∀ v, genFold iter X.env v = pure v)
    (he : starEach [.GeneratorExp elt [⟨tg, iter, [], 0⟩] scope gpos] X.env = (false, eval (.GeneratorExp elt [⟨tg, iter, [], 0⟩] scope gpos) X.env) :: starEach [] X.env := by rfl) :
    PE X (.Call (.Name "any" p) [.GeneratorExp elt [⟨tg, iter, [], 0⟩] scope gpos] [] pos) (tGenP P true wi g te (own.map (·.2))) := by
  refine ⟨fun pins s σ H Q I h => ?_⟩
  refine wpAny_Call_Name_kw (ld_blt I hgl hm hb ?_)
  refine PyProof.Rows.callWith_builtin1 ?_ he (by rfl); rw [he]
  show wpAny _ _ (spliced ((false, eval (.GeneratorExp elt [⟨tg, iter, [], 0⟩] scope gpos) X.env) :: backTo pos (starEach [] X.env))) _ _ s
  refine Calls.spliced_cons (gen_make hr TB hcode S hN hi hg hel hs I h fun a s5 G => Calls.spliced_nil ?_)
  obtain ⟨Y, g, go, σ0, fp, tn, W, n, gs, ha, isg, hl, hgs, hgo, fin⟩ := G.ex
  refine call_function_tree F.kind_any F.plain_any F.entry_any (F.args_any1 _) ?_
  unfold Builtin.«any»; refine wpAny_bind (m := oneArg "any" _) (wpAny_pure ?_)
  refine wpAny_bind (wpAny_pyIter_gen (isg _ ha) ?_)
  exact wpAny_pure ⟨plainId_quiet (F.plain_any_loop) _, any_drain (X := X) (A := X.A) hr.hd (by have := hr.dp; omega) isg (fun s' H b I q => fin s' H b I q) n s5 ha hl ⟨gs, hgs, hgo⟩⟩

end
end G0

/-! Mi: a shallow functional reading of defs over the hand layer: values PV, a store of lists that change, M (an expression's meaning), MS (a statement's); SE, SS tie them to the hand layer's readings. -/
noncomputable section
namespace Mi
open PySem PySem.Spec PyProof.Rows L2

/-- a value: tuples and lists that nobody changes are what they hold; box n: the n-th list that may change -/
inductive PV where
  | non | bl (b : Bool) | int (i : Int) | str (x : Str) | tup (xs : List PV) | lst (xs : List PV) | fro (xs : List PV) | box (n : Nat) | ty (n : String) | obj (a : Addr) | fn (k : Nat) | cat (a dx : Addr) (ns : List Str) (xs : List PV) | exc (n : Str) (ns : List Str) (xs : List PV) | rg (lo hi : Int)

/-- what stands in the store: a list, a dict (keys ints and texts; tuples of such), an instance of a class of clsTab (its number, its fields) -/
inductive Bx where
  | l (xs : List PV) | d (kvs : List (Key × PV)) | e (kvs : List (List Key × PV)) | i (c : Nat) (xs : List (Option PV)) | y (xs : List PV) | z (kvs : List (Key × PV))
abbrev Sto := List Bx
def lsO : Option Bx → Option (List PV)
  | some (.l xs) => some xs
  | _ => none
theorem lsO_ok : ∀ {b : Option Bx} {xs : List PV}, lsO b = some xs → b = some (.l xs)
  | some (.l _), _, h => by cases h; rfl
  | some (.d _), _, h => by cases h
  | some (.e _), _, h => by cases h
  | some (.i _ _), _, h => by cases h
  | some (.y _), _, h => by cases h
  | some (.z _), _, h => by cases h
  | none, _, h => by cases h
/-- the defs that hold a generator expression; their code objects' tables may grow -/
def gdefs : List Str := ["is_tuple_of", "goes_up", "_path", "is_answer", "edges"]
def GenTab (K : PySem.W.Frag) (P : Addr) : Prop := ∃ n ∈ gdefs, ∃ c, PySem.W.tabIn K n = some (c, P)
abbrev Env := List (Option PV)

structure Exn where
  cls : Str
  flds : List (Str × PV)

inductive R (α : Type) where
  | ok (a : α) (s : Sto)
  | ex (e : Exn) (s : Sto)
  | bad

def R.bind {α β : Type} : R α → (α → Sto → R β) → R β
  | .ok a s, f => f a s
  | .ex e s, _ => .ex e s
  | .bad, _ => .bad

/-! the text's classes and the names of their fields -/
def slTable : List Str := ["many", "below", "rows", "basic", "loose", "aside", "goal", "guide", "patience"]
def slRough : List Str := ["many", "below", "rows", "basic", "loose", "aside", "goal", "guide", "patience", "figures", "dust", "left"]
def slWeighing : List Str := ["names", "rows", "scales", "goal", "told"]
def slOutcome : List Str := ["places", "table", "stuck", "is_topped"]
def slPledge : List Str := ["keeps", "grace", "wanted", "granted", "place", "newest", "call", "till", "called", "was_released", "has_fallen", "last_fall"]
def slLogReader : List Str := ["world", "log", "last_place", "pledges", "asked", "released"]
def clsT0 : List (Str × List Str) := [("Table", slTable), ("Rough", slRough), ("Weighing", slWeighing), ("Outcome", slOutcome), ("Pledge", slPledge), ("LogReader", slLogReader)]
def slOutlook : List Str := ["world", "view", "web", "end", "reader", "had", "slack"]
def slStrangers : List Str := ["outlook", "log", "moments", "client", "heard"]
def slStand : List Str := ["count", "asking", "present", "is_told", "is_over", "newest", "sendings", "starts", "unsealed", "unanswered", "owed"]
def slLibrary : List Str := ["_plan", "_client", "_reading", "_serial", "_stands", "_let"]
def slKeeper : List Str := ["_plan", "_keeper", "_reading", "_kept", "_unheard"]
def slStore : List Str := ["_plan", "_lock", "_place", "_integer", "_seen", "_top", "_asks", "_keeps"]
def clsT1 : List (Str × List Str) := [("Outlook", slOutlook), ("Strangers", slStrangers), ("Stand", slStand), ("Library", slLibrary), ("Keeper", slKeeper), ("Store", slStore)]
def slMachine : List Str := ["_plan", "_events", "_letters", "_entries", "_houses", "_newest", "_taken", "_newer"]
def slCourse : List Str := ["machine", "_plan", "_acts", "_begin"]
def slMeeting : List Str := ["_plan", "lot", "other", "place", "common", "least", "round", "course"]
def slLateGrant : List Str := ["_plan", "lot", "other", "place", "common", "least", "round", "course"]
def slForgotten : List Str := ["_plan", "lot", "other", "place", "common", "least", "round", "course"]
def slRevived : List Str := ["_plan", "lot", "other", "place", "common", "least", "round", "course"]
def clsT2 : List (Str × List Str) := [("Machine", slMachine), ("Course", slCourse), ("Meeting", slMeeting), ("LateGrant", slLateGrant), ("Forgotten", slForgotten), ("Revived", slRevived)]
def slEnded : List Str := ["_plan", "lot", "other", "place", "common", "least", "round", "course", "sent", "late", "ends", "asked", "grants", "believed", "sealing", "wanted", "taken", "told", "passed"]
def slRegion : List Str := ["unknowns", "pairs", "lines", "weighing"]
def slSearch : List Str := ["unknowns", "start", "nodes", "forms"]
def slTree : List Str := ["unknowns", "view", "forms"]
def slMixing : List Str := ["old", "new", "stages", "fast", "ask_leg", "grant_leg"]
def slOvertaking : List Str := ["mixing", "waits", "keepers", "course", "ends", "moments", "a", "b", "ask_leg", "grant_leg"]
def clsT3 : List (Str × List Str) := [("Ended", slEnded), ("Region", slRegion), ("Search", slSearch), ("Tree", slTree), ("Mixing", slMixing), ("Overtaking", slOvertaking)]
def slKindRun : List Str := ["_kinds", "_heard", "_refused", "_holds", "_stores", "_borne", "_outcomes", "_answers", "_earlier", "_listened", "_known", "_rows", "_table", "_grants", "_carry"]
def slListener : List Str := ["client", "asking", "standing", "newest", "serial", "deeds", "answered"]
def slPlainLock : List Str := ["holders", "granted", "promised", "listeners", "integers", "done"]
def slNodes : List Str := ["named", "places", "later", "heard", "answers", "grants", "under"]
def slStaging : List Str := ["terms", "lot", "least", "course", "now", "newest"]
def slLinesClaim : List Str := ["parts"]
def clsT4 : List (Str × List Str) := [("KindRun", slKindRun), ("Listener", slListener), ("PlainLock", slPlainLock), ("Nodes", slNodes), ("Staging", slStaging), ("LinesClaim", slLinesClaim)]
def slSheetClaim : List Str := ["parts"]
def slWithinClaim : List Str := ["parts"]
def slRunClaim : List Str := ["parts"]
def slPlainClaim : List Str := ["parts"]
def slRightClaim : List Str := ["parts"]
def slRosterClaim : List Str := ["parts"]
def clsT5 : List (Str × List Str) := [("SheetClaim", slSheetClaim), ("WithinClaim", slWithinClaim), ("RunClaim", slRunClaim), ("PlainClaim", slPlainClaim), ("RightClaim", slRightClaim), ("RosterClaim", slRosterClaim)]
def slKindsClaim : List Str := ["parts"]
def slSmoothClaim : List Str := ["parts"]
def slClaim : List Str := ["parts"]
def slDoing : List Str := ["left", "waits", "hearing"]
def slStandings : List Str := ["parts", "stores", "locks", "after", "lapse", "came", "rows"]
def slPlanReader : List Str := ["lots", "kept", "clocks", "legs", "parts", "stores", "faults"]
def clsT6 : List (Str × List Str) := [("KindsClaim", slKindsClaim), ("SmoothClaim", slSmoothClaim), ("Claim", slClaim), ("Doing", slDoing), ("Standings", slStandings), ("PlanReader", slPlanReader)]
def slWorldReader : List Str := ["clocks", "legs", "kept", "flight", "lots"]
def slEventsReader : List Str := ["terms", "found"]
def slEntriesReader : List Str := ["many", "reader"]
def slDesk : List Str := ["_past", "_future"]
def slDiary : List Str := ["lock", "machine", "log", "moments", "beliefs", "stands_for"]
def slUnsure : List Str := ["_plan", "lot", "keeper", "ask_least", "grant_least", "kept", "falls"]
def clsT7 : List (Str × List Str) := [("WorldReader", slWorldReader), ("EventsReader", slEventsReader), ("EntriesReader", slEntriesReader), ("Desk", slDesk), ("Diary", slDiary), ("Unsure", slUnsure)]
def clsTab : List (Str × List Str) := clsT0 ++ (clsT1 ++ (clsT2 ++ (clsT3 ++ (clsT4 ++ (clsT5 ++ (clsT6 ++ (clsT7)))))))
theorem clsTab_ok : ∀ (c : Nat) (nm : Str) (sl : List Str), clsTab[c]? = some (nm, sl) → sl.Nodup ∧ sl.length ≤ 100 := by
  intro c nm sl h
  have : ∀ p ∈ clsTab, p.2.Nodup ∧ p.2.length ≤ 100 := by decide +kernel
  exact this _ (List.mem_of_getElem? h)
/-- the defs that are handed to others -/
def hofs1 : List Str := ["is_fraction", "is_from_zero", "is_truth", "is_count", "_is_line", "_is_term", "_is_fault", "_is_keeper", "_is_store", "is_clock", "is_leg", "_is_lot", "_is_stand", "_is_step", "_is_list_step", "is_step", "_law_judged_right", "_law_changed_right", "_law_soft_right", "_law_kept_right", "_law_refused_right", "_law_keeper_right", "_law_events_right", "_law_pair_right", "_law_hows_right", "_law_sheets_right", "_law_looks_right", "is_kept", "is_kept_pair", "is_sure_leg"]
def hofs2 : List Str := ["let_go", "fallen", "overlap", "way_ends", "sheet", "shut_sum", "widest", "open_run", "sent", "telling", "kind_rows", "kind_list", "kind_loop", "is_so", "is_paper_for", "is_paper_against", "paper", "read_fraction", "read_told", "read_truth", "_is_stage", "is_claim", "_is_item", "schedule"]
def hofs : List Str := hofs1 ++ hofs2
/-- the lists that may change, by their places; and what is reserved -/
structure Rh where
  bx : List Addr
  rs : List Addr
  cg : Addr
/-- a list that nobody changes; one that is only read; a tuple -/
def FzL (H : Hp) (ρ : Rh) (a : Addr) (ys : List V) : Prop := H a = some (.lst ys) ∧ a ∉ ρ.bx ∧ a ∉ ρ.rs
def FzF (K : PySem.W.Frag) (H : Hp) (ρ : Rh) (a : Addr) (ys : List V) : Prop := (Rd H a (.lst ys) ∧ a ∉ ρ.bx ∧ a ∉ ρ.rs) ∨ SqL K (fun _ => none) a ys
def FzT (K : PySem.W.Frag) (H : Hp) (ρ : Rh) (a : Addr) (ys : List V) : Prop := (H a = some (.tup ys) ∧ a ∉ ρ.bx ∧ a ∉ ρ.rs) ∨ SqT K (fun _ => none) a ys

/-- the dict of a caught exception -/
def FzD (H : Hp) (ρ : Rh) (dx : Addr) (fs : List (Str × V)) : Prop := H dx = some (.xd fs) ∧ dx ∉ ρ.bx ∧ dx ∉ ρ.rs

/-- an exception in hand: its class, the names of its fields -/
def FzX (K : PySem.W.Frag) (H : Hp) (ρ : Rh) (a : Addr) (n : Str) (ns : List Str) (ys : List V) : Prop := a ∉ ρ.bx ∧ a ∉ ρ.rs ∧ ∃ C, PySem.W.nsIn K mainGlobals n = some (some (.ref C)) ∧ ((ns = [] ∧ H a = some (exo a C none)) ∨ ∃ dx, dx ∉ ρ.bx ∧ dx ∉ ρ.rs ∧ H a = some (exo a C (some dx)) ∧ H dx = some (exd dx (ns.zip ys)))

mutual
def RV (K : PySem.W.Frag) (H : Hp) (ρ : Rh) : PV → V → Prop
  | .non, v => v = .non
  | .bl b, v => v = .bl b
  | .int i, v => v = .int i
  | .str x, v => v = .str x
  | .ty n, v => v = .ty n
  | .obj a, v => v = .ref a
  | .fn k, v => ∃ x f, hofs[k]? = some x ∧ PySem.W.nsIn K mainGlobals x = some (some (.ref f)) ∧ v = .ref f
  | .cat a dx ns xs, v => ∃ ys, v = .ref a ∧ FzD H ρ dx (ns.zip ys) ∧ RVs K H ρ xs ys
  | .box n, v => ∃ a, v = .ref a ∧ ρ.bx[n]? = some a
  | .tup xs, v => ∃ a ys, v = .ref a ∧ FzT K H ρ a ys ∧ RVs K H ρ xs ys
  | .lst xs, v => ∃ a ys, v = .ref a ∧ FzL H ρ a ys ∧ RVs K H ρ xs ys
  | .fro xs, v => ∃ a ys, v = .ref a ∧ FzF K H ρ a ys ∧ RVs K H ρ xs ys
  | .exc n ns xs, v => ∃ a ys, v = .ref a ∧ FzX K H ρ a n ns ys ∧ RVs K H ρ xs ys
  | .rg lo hi, v => ∃ a, v = .ref a ∧ H a = some (.rng lo hi) ∧ a ∉ ρ.bx ∧ a ∉ ρ.rs
def RVs (K : PySem.W.Frag) (H : Hp) (ρ : Rh) : List PV → List V → Prop
  | [], vs => vs = []
  | x :: xs, vs => ∃ v ws, vs = v :: ws ∧ RV K H ρ x v ∧ RVs K H ρ xs ws
end

/-- of one kind -/
def alike : HO → HO → Prop
  | .lst _, o => ∃ ys, o = .lst ys
  | .dK _, o => ∃ ys, o = .dK ys
  | .dT _, o => ∃ ys, o = .dT ys
  | .ins C dx _, o => ∃ fs, o = .ins C dx fs
  | u, o => o = u
theorem alike_refl : ∀ o, alike o o
  | .lst _ => ⟨_, rfl⟩
  | .dK _ => ⟨_, rfl⟩
  | .dT _ => ⟨_, rfl⟩
  | .ins _ _ _ => ⟨_, rfl⟩
  | .tup _ => rfl
  | .set _ _ => rfl
  | .own _ => rfl
  | .xd _ => rfl
  | .met _ _ => rfl
  | .rng _ _ => rfl
  | .frz _ _ => rfl
  | .tbl _ => rfl
  | .ext _ => rfl
theorem alike_trans : ∀ {o u v}, alike o u → alike u v → alike o v
  | .lst _, _, _, ⟨_, rfl⟩, h => h
  | .dK _, _, _, ⟨_, rfl⟩, h => h
  | .dT _, _, _, ⟨_, rfl⟩, h => h
  | .ins _ _ _, _, _, ⟨_, rfl⟩, h => h
  | .tup _, _, _, rfl, h => h
  | .set _ _, _, _, rfl, h => h
  | .own _, _, _, rfl, h => h
  | .xd _, _, _, rfl, h => h
  | .met _ _, _, _, rfl, h => h
  | .rng _ _, _, _, rfl, h => h
  | .frz _ _, _, _, rfl, h => h
  | .tbl _, _, _, rfl, h => h
  | .ext _, _, _, rfl, h => h
/-- what a value's relation leans on is kept -/
structure ExtV (ρ : Rh) (H : Hp) (ρ' : Rh) (H' : Hp) : Prop where
  pre : ∃ r, ρ'.bx = ρ.bx ++ r ∧ ∀ a ∈ r, H a = none
  rs : ((∀ a ∈ ρ.rs, a ∈ ρ'.rs) ∧ ∀ a ∈ ρ'.rs, a ∈ ρ.rs ∨ H a = none) ∧ ρ'.cg = ρ.cg
  keep : ∀ a o, H a = some o → a ∉ ρ.bx → a ∉ ρ.rs → H' a = some o
structure ExtW (ρ : Rh) (H : Hp) (ρ' : Rh) (H' : Hp) : Prop where
  pre : ∃ r, ρ'.bx = ρ.bx ++ r ∧ ∀ a ∈ r, H a = none
  rs : ((∀ a ∈ ρ.rs, a ∈ ρ'.rs) ∧ ∀ a ∈ ρ'.rs, a ∈ ρ.rs ∨ H a = none) ∧ ρ'.cg = ρ.cg
  keep : ∀ a o, H a = some o → a ∉ ρ.bx → a ∉ ρ.rs → H' a = some o
  has : ∀ a, H a ≠ none → H' a ≠ none
  kd : ∀ a o, a ∈ ρ.bx → H a = some o → ∃ o', H' a = some o' ∧ alike o o'
structure Ext (ρ : Rh) (H : Hp) (ρ' : Rh) (H' : Hp) : Prop extends ExtW ρ H ρ' H' where
  rse : ρ'.rs = ρ.rs
  res : ∀ a, a ∈ ρ.rs → a ∉ ρ.bx → H' a = H a

section
variable {K : PySem.W.Frag} {H H1 H2 : Hp} {ρ ρ1 ρ2 : Rh} {a : Addr} {xs ys : List V}
theorem rs_refl {ρ : Rh} {H : Hp} : ((∀ a ∈ ρ.rs, a ∈ ρ.rs) ∧ ∀ a ∈ ρ.rs, a ∈ ρ.rs ∨ H a = none) ∧ ρ.cg = ρ.cg := ⟨⟨fun _ h => h, fun _ h => .inl h⟩, rfl⟩
theorem kd_refl : ∀ a o, a ∈ ρ.bx → H a = some o → ∃ o', H a = some o' ∧ alike o o' := fun _ o _ h => ⟨o, h, alike_refl o⟩
theorem Ext.refl : Ext ρ H ρ H := ⟨⟨⟨[], by simp, by simp⟩, rs_refl, fun _ _ h _ _ => h, fun _ h => h, kd_refl⟩, rfl, fun _ _ _ => rfl⟩
theorem ExtW.toV (e : ExtW ρ H ρ1 H1) : ExtV ρ H ρ1 H1 := ⟨e.pre, e.rs, e.keep⟩
theorem ExtV.notin (e : ExtV ρ H ρ1 H1) (h : H a ≠ none) (n : a ∉ ρ.bx) : a ∉ ρ1.bx := by
  obtain ⟨r, hr, hn⟩ := e.pre
  intro hm
  rw [hr] at hm
  rcases List.mem_append.mp hm with h1 | h1
  · exact n h1
  · exact h (hn a h1)
theorem ExtV.nores (e : ExtV ρ H ρ1 H1) (h : H a ≠ none) (n : a ∉ ρ.rs) : a ∉ ρ1.rs := fun z => (e.rs.1.2 a z).elim n h
theorem ExtW.notin (e : ExtW ρ H ρ1 H1) (h : H a ≠ none) (n : a ∉ ρ.bx) : a ∉ ρ1.bx := e.toV.notin h n
theorem ExtW.nores (e : ExtW ρ H ρ1 H1) (h : H a ≠ none) (n : a ∉ ρ.rs) : a ∉ ρ1.rs := e.toV.nores h n
theorem sm {o : HO} (h : H a = some o) : H a ≠ none := by rw [h]; exact fun z => by cases z
theorem ExtW.trans (e : ExtW ρ H ρ1 H1) (f : ExtW ρ1 H1 ρ2 H2) : ExtW ρ H ρ2 H2 := by
  refine ⟨?_, ⟨⟨fun a h => f.rs.1.1 a (e.rs.1.1 a h), fun a h => ?_⟩, f.rs.2.trans e.rs.2⟩, fun a o h n m => f.keep a o (e.keep a o h n m) (e.notin (sm h) n) (e.nores (sm h) m), fun a h => f.has a (e.has a h), fun a o hb h => ?_⟩
  rotate_left
  rotate_left
  · obtain ⟨o1, h1, k1⟩ := e.kd a o hb h
    obtain ⟨r, hr, _⟩ := e.pre
    obtain ⟨o2, h2, k2⟩ := f.kd a o1 (by rw [hr]; exact List.mem_append_left _ hb) h1
    exact ⟨o2, h2, alike_trans k1 k2⟩
  rotate_left
  · rcases f.rs.1.2 a h with z | z
    · exact e.rs.1.2 a z
    · cases q : H a with
      | none => exact .inr rfl
      | some o => exact absurd z (e.has a (sm q))
  obtain ⟨r, hr, hn⟩ := e.pre
  obtain ⟨r2, hr2, hn2⟩ := f.pre
  refine ⟨r ++ r2, by rw [hr2, hr, List.append_assoc], fun a h => ?_⟩
  rcases List.mem_append.mp h with h1 | h1
  · exact hn a h1
  · have := hn2 a h1
    cases q : H a with
    | none => rfl
    | some o => exact absurd this (e.has a (sm q))
theorem Ext.trans (e : Ext ρ H ρ1 H1) (f : Ext ρ1 H1 ρ2 H2) (hh : ∀ a ∈ ρ.rs, H a ≠ none) : Ext ρ H ρ2 H2 :=
  ⟨e.toExtW.trans f.toExtW, f.rse.trans e.rse, fun a h n => (f.res a (by rw [e.rse]; exact h) (e.toExtW.notin (hh a h) n)).trans (e.res a h n)⟩
theorem FzL.monoV (e : ExtV ρ H ρ1 H1) (h : FzL H ρ a xs) : FzL H1 ρ1 a xs := ⟨e.keep _ _ h.1 h.2.1 h.2.2, e.notin (sm h.1) h.2.1, e.nores (sm h.1) h.2.2⟩
theorem Rd.some' {u : HO} (h : Rd H a u) : H a ≠ none := by rcases h with h | ⟨_, h⟩ <;> exact sm h
theorem Rd.keepV (e : ExtV ρ H ρ1 H1) {u : HO} (h : Rd H a u) (n : a ∉ ρ.bx) (m : a ∉ ρ.rs) : Rd H1 a u := by
  rcases h with h | ⟨o, h⟩
  · exact .inl (e.keep _ _ h n m)
  · exact .inr ⟨o, e.keep _ _ h n m⟩
theorem FzF.monoV (e : ExtV ρ H ρ1 H1) (h : FzF K H ρ a xs) : FzF K H1 ρ1 a xs := by
  rcases h with ⟨h, n, m⟩ | h
  · exact .inl ⟨Rd.keepV e h n m, e.notin (Rd.some' h) n, e.nores (Rd.some' h) m⟩
  · exact .inr h
theorem FzT.monoV (e : ExtV ρ H ρ1 H1) (h : FzT K H ρ a xs) : FzT K H1 ρ1 a xs := by
  rcases h with ⟨h, n, m⟩ | h
  · exact .inl ⟨e.keep _ _ h n m, e.notin (sm h) n, e.nores (sm h) m⟩
  · exact .inr h
theorem FzX.monoV {c : Str} {ns : List Str} (e : ExtV ρ H ρ1 H1) (h : FzX K H ρ a c ns xs) : FzX K H1 ρ1 a c ns xs := by
  obtain ⟨n, m, C, hc, h⟩ := h
  rcases h with ⟨q, h⟩ | ⟨dx, dn, dm, h, hd⟩
  · exact ⟨e.notin (sm h) n, e.nores (sm h) m, C, hc, .inl ⟨q, e.keep _ _ h n m⟩⟩
  · exact ⟨e.notin (sm h) n, e.nores (sm h) m, C, hc, .inr ⟨dx, e.notin (sm hd) dn, e.nores (sm hd) dm, e.keep _ _ h n m, e.keep _ _ hd dn dm⟩⟩
theorem Rd.keep' (e : ExtW ρ H ρ1 H1) {u : HO} (h : Rd H a u) (n : a ∉ ρ.bx) (m : a ∉ ρ.rs) : Rd H1 a u := Rd.keepV e.toV h n m
theorem FzL.mono (e : ExtW ρ H ρ1 H1) (h : FzL H ρ a xs) : FzL H1 ρ1 a xs := h.monoV e.toV
theorem FzF.mono (e : ExtW ρ H ρ1 H1) (h : FzF K H ρ a xs) : FzF K H1 ρ1 a xs := h.monoV e.toV
theorem FzT.mono (e : ExtW ρ H ρ1 H1) (h : FzT K H ρ a xs) : FzT K H1 ρ1 a xs := h.monoV e.toV
theorem FzX.mono {c : Str} {ns : List Str} (e : ExtW ρ H ρ1 H1) (h : FzX K H ρ a c ns xs) : FzX K H1 ρ1 a c ns xs := h.monoV e.toV
theorem FzL.sq (h : FzL H ρ a xs) : SqL K H a xs := .of h.1
theorem FzF.sq (h : FzF K H ρ a xs) : SqL K H a xs := by
  rcases h with ⟨h, _⟩ | h
  · exact .inl h
  · rcases h with h | h
    · rcases h with h | ⟨_, h⟩ <;> cases h
    · exact .inr h
theorem FzT.sq (h : FzT K H ρ a xs) : SqT K H a xs := by
  rcases h with ⟨h, _⟩ | h
  · exact .of h
  · rcases h with h | h
    · rcases h with h | ⟨_, h⟩ <;> cases h
    · exact .inr h
end

mutual
theorem RV.monoV {K : PySem.W.Frag} {H H1 : Hp} {ρ ρ1 : Rh} (e : ExtV ρ H ρ1 H1) : ∀ {p : PV} {v : V}, RV K H ρ p v → RV K H1 ρ1 p v
  | .non, _, h => h
  | .bl _, _, h => h
  | .int _, _, h => h
  | .str _, _, h => h
  | .ty _, _, h => h
  | .obj _, _, h => h
  | .fn _, _, h => h
  | .cat a dx ns xs, _, h => by
    obtain ⟨ys, h1, ⟨k1, k2, k3⟩, h3⟩ := h
    exact ⟨ys, h1, ⟨e.keep _ _ k1 k2 k3, e.notin (sm k1) k2, e.nores (sm k1) k3⟩, RVs.monoV e h3⟩
  | .box n, _, h => by
    obtain ⟨a, h1, h2⟩ := h
    obtain ⟨r, hr, _⟩ := e.pre
    refine ⟨a, h1, ?_⟩
    rw [hr, List.getElem?_append_left (List.getElem?_eq_some_iff.mp h2).1]
    exact h2
  | .tup xs, _, h => by
    obtain ⟨a, ys, h1, h2, h3⟩ := h
    exact ⟨a, ys, h1, h2.monoV e, RVs.monoV e h3⟩
  | .lst xs, _, h => by
    obtain ⟨a, ys, h1, h2, h3⟩ := h
    exact ⟨a, ys, h1, h2.monoV e, RVs.monoV e h3⟩
  | .fro xs, _, h => by
    obtain ⟨a, ys, h1, h2, h3⟩ := h
    exact ⟨a, ys, h1, h2.monoV e, RVs.monoV e h3⟩
  | .exc C ns xs, _, h => by
    obtain ⟨a, ys, h1, h2, h3⟩ := h
    exact ⟨a, ys, h1, h2.monoV e, RVs.monoV e h3⟩
  | .rg lo hi, _, h => by
    obtain ⟨a, h1, h2, n, m⟩ := h
    exact ⟨a, h1, e.keep _ _ h2 n m, e.notin (sm h2) n, e.nores (sm h2) m⟩
theorem RVs.monoV {K : PySem.W.Frag} {H H1 : Hp} {ρ ρ1 : Rh} (e : ExtV ρ H ρ1 H1) : ∀ {p : List PV} {v : List V}, RVs K H ρ p v → RVs K H1 ρ1 p v
  | [], _, h => h
  | x :: xs, _, h => by
    obtain ⟨v, ws, h1, h2, h3⟩ := h
    exact ⟨v, ws, h1, RV.monoV e h2, RVs.monoV e h3⟩
end
theorem RV.mono {K : PySem.W.Frag} {H H1 : Hp} {ρ ρ1 : Rh} (e : ExtW ρ H ρ1 H1) {p : PV} {v : V} (h : RV K H ρ p v) : RV K H1 ρ1 p v := RV.monoV e.toV h
theorem RVs.mono {K : PySem.W.Frag} {H H1 : Hp} {ρ ρ1 : Rh} (e : ExtW ρ H ρ1 H1) {p : List PV} {v : List V} (h : RVs K H ρ p v) : RVs K H1 ρ1 p v := RVs.monoV e.toV h
/-! fewer reservations -/
mutual
theorem RV.unres {K : PySem.W.Frag} {H : Hp} {b r r' : List Addr} {g : Addr} (e : ∀ a, a ∈ r' → a ∈ r) : ∀ {p : PV} {v : V}, RV K H ⟨b, r, g⟩ p v → RV K H ⟨b, r', g⟩ p v
  | .non, _, h => h
  | .bl _, _, h => h
  | .int _, _, h => h
  | .str _, _, h => h
  | .ty _, _, h => h
  | .obj _, _, h => h
  | .fn _, _, h => h
  | .cat a dx ns xs, _, h => by
    obtain ⟨ys, h1, ⟨k1, k2, k3⟩, h3⟩ := h
    exact ⟨ys, h1, ⟨k1, k2, fun z => k3 (e _ z)⟩, RVs.unres e h3⟩
  | .box n, _, h => h
  | .tup xs, _, h => by
    obtain ⟨a, ys, h1, h2, h3⟩ := h
    exact ⟨a, ys, h1, h2.imp (fun q => ⟨q.1, q.2.1, fun z => q.2.2 (e _ z)⟩) id, RVs.unres e h3⟩
  | .lst xs, _, h => by
    obtain ⟨a, ys, h1, h2, h3⟩ := h
    exact ⟨a, ys, h1, ⟨h2.1, h2.2.1, fun z => h2.2.2 (e _ z)⟩, RVs.unres e h3⟩
  | .fro xs, _, h => by
    obtain ⟨a, ys, h1, h2, h3⟩ := h
    exact ⟨a, ys, h1, h2.imp (fun q => ⟨q.1, q.2.1, fun z => q.2.2 (e _ z)⟩) id, RVs.unres e h3⟩
  | .exc C ns xs, _, h => by
    obtain ⟨a, ys, h1, h2, h3⟩ := h
    obtain ⟨q1, q2, C, hc, q3⟩ := h2
    refine ⟨a, ys, h1, ⟨q1, fun z => q2 (e _ z), C, hc, ?_⟩, RVs.unres e h3⟩
    rcases q3 with h | ⟨dx, dn, dm, h⟩
    · exact .inl h
    · exact .inr ⟨dx, dn, fun z => dm (e _ z), h⟩
  | .rg lo hi, _, h => by
    obtain ⟨a, h1, h2, n, m⟩ := h
    exact ⟨a, h1, h2, n, fun z => m (e _ z)⟩
theorem RVs.unres {K : PySem.W.Frag} {H : Hp} {b r r' : List Addr} {g : Addr} (e : ∀ a, a ∈ r' → a ∈ r) : ∀ {p : List PV} {v : List V}, RVs K H ⟨b, r, g⟩ p v → RVs K H ⟨b, r', g⟩ p v
  | [], _, h => h
  | x :: xs, _, h => by
    obtain ⟨v, ws, h1, h2, h3⟩ := h
    exact ⟨v, ws, h1, RV.unres e h2, RVs.unres e h3⟩
end
section
variable {K : PySem.W.Frag} {H H1 H2 : Hp} {ρ ρ1 ρ2 : Rh}
theorem RVs.length : ∀ {p : List PV} {v : List V}, RVs K H ρ p v → p.length = v.length
  | [], _, h => by cases h; rfl
  | x :: xs, _, h => by
    obtain ⟨v, ws, rfl, _, h3⟩ := h
    simp [RVs.length h3]
theorem RVs.nil : RVs K H ρ [] [] := rfl
theorem RVs.cons {p : PV} {ps : List PV} {v : V} {vs : List V} (h : RV K H ρ p v) (t : RVs K H ρ ps vs) : RVs K H ρ (p :: ps) (v :: vs) := ⟨v, vs, rfl, h, t⟩
theorem RVs.append : ∀ {p q : List PV} {v w : List V}, RVs K H ρ p v → RVs K H ρ q w → RVs K H ρ (p ++ q) (v ++ w)
  | [], _, _, _, h, t => by cases h; exact t
  | x :: xs, _, _, _, h, t => by
    obtain ⟨v, ws, rfl, h2, h3⟩ := h
    exact ⟨v, ws ++ _, rfl, h2, RVs.append h3 t⟩
theorem RVs.get : ∀ {p : List PV} {v : List V} {i : Nat} {x : PV}, RVs K H ρ p v → p[i]? = some x → ∃ y, v[i]? = some y ∧ RV K H ρ x y
  | [], _, _, _, _, e => by simp at e
  | q :: qs, _, 0, _, h, e => by
    obtain ⟨v, ws, rfl, h2, h3⟩ := h
    simp at e; subst e
    exact ⟨v, rfl, h2⟩
  | q :: qs, _, i + 1, _, h, e => by
    obtain ⟨v, ws, rfl, h2, h3⟩ := h
    obtain ⟨y, e1, e2⟩ := RVs.get (i := i) h3 (by simpa using e)
    exact ⟨y, by simpa using e1, e2⟩
theorem RVs.get' : ∀ {p : List PV} {v : List V} {i : Nat} {y : V}, RVs K H ρ p v → v[i]? = some y → ∃ x, p[i]? = some x ∧ RV K H ρ x y
  | [], _, _, _, h, e => by cases h; simp at e
  | q :: qs, _, 0, _, h, e => by
    obtain ⟨v, ws, rfl, h2, h3⟩ := h
    simp at e; subst e
    exact ⟨q, rfl, h2⟩
  | q :: qs, _, i + 1, _, h, e => by
    obtain ⟨v, ws, rfl, h2, h3⟩ := h
    obtain ⟨y, e1, e2⟩ := RVs.get' (i := i) h3 (by simpa using e)
    exact ⟨y, by simpa using e1, e2⟩
theorem RVs.set {x : PV} {y : V} (r : RV K H ρ x y) : ∀ {p : List PV} {v : List V} (i : Nat), RVs K H ρ p v → RVs K H ρ (p.set i x) (v.set i y)
  | [], _, _, h => by cases h; exact rfl
  | q :: qs, _, 0, h => by
    obtain ⟨v, ws, rfl, h2, h3⟩ := h
    exact ⟨y, ws, rfl, r, h3⟩
  | q :: qs, _, i + 1, h => by
    obtain ⟨v, ws, rfl, h2, h3⟩ := h
    exact ⟨v, ws.set i y, rfl, h2, RVs.set r i h3⟩
theorem RVs.drop : ∀ {p : List PV} {v : List V} (n : Nat), RVs K H ρ p v → RVs K H ρ (p.drop n) (v.drop n)
  | _, _, 0, h => h
  | [], _, n + 1, h => by cases h; exact rfl
  | q :: qs, _, n + 1, h => by
    obtain ⟨v, ws, rfl, h2, h3⟩ := h
    exact RVs.drop n h3
theorem RVs.take : ∀ {p : List PV} {v : List V} (n : Nat), RVs K H ρ p v → RVs K H ρ (p.take n) (v.take n)
  | _, _, 0, h => rfl
  | [], _, n + 1, h => by cases h; exact rfl
  | q :: qs, _, n + 1, h => by
    obtain ⟨v, ws, rfl, h2, h3⟩ := h
    exact ⟨v, ws.take n, rfl, h2, RVs.take n h3⟩

/-- a field, set or not -/
def RO (K : PySem.W.Frag) (H : Hp) (ρ : Rh) : Option PV → Option V → Prop
  | none, none => True
  | some p, some v => RVs K H ρ [p] [v]
  | _, _ => False
theorem RO.imp (hv : ∀ {xs : List PV} {ys : List V}, RVs K H ρ xs ys → RVs K H1 ρ1 xs ys) : ∀ {o : Option PV} {v : Option V}, RO K H ρ o v → RO K H1 ρ1 o v
  | none, none, h => h
  | some _, some _, h => hv h
  | none, some _, h => h
  | some _, none, h => h
/-- the fields by their names -/
def slotOf : List Str → List (Option PV) → Str → Option PV
  | g :: gs, x :: xs, f => if g = f then x else slotOf gs xs f
  | _, _, _ => none
def cntS : List (Option PV) → Nat
  | [] => 0
  | some _ :: r => cntS r + 1
  | none :: r => cntS r
/-- what stands at a is this box -/
def RB (K : PySem.W.Frag) (H : Hp) (ρ : Rh) (a : Addr) : Bx → Prop
  | .l xs => ∃ ys, H a = some (.lst ys) ∧ RVs K H ρ xs ys
  | .d kvs => ∃ yvs, H a = some (.dK yvs) ∧ kvs.map (·.1) = yvs.map (·.1) ∧ RVs K H ρ (kvs.map (·.2)) (yvs.map (·.2))
  | .e kvs => ∃ yvs, H a = some (.dT yvs) ∧ kvs.map (·.1) = yvs.map (·.1) ∧ RVs K H ρ (kvs.map (·.2)) (yvs.map (·.2))
  | .i c xs => ∃ nm sl C dx fs, H a = some (.ins C dx fs) ∧ (clsTab[c]? = some (nm, sl) ∧ PySem.W.nsIn K mainGlobals nm = some (some (.ref C)) ∧ fs.length ≤ cntS xs ∧ xs.length = sl.length) ∧ ∀ f, RO K H ρ (slotOf sl xs f) (fs.lookup f)
  | .y xs => ∃ od ys, H a = some (.frz od (.lst ys)) ∧ RVs K H ρ xs ys
  | .z kvs => ∃ od yvs, H a = some (.frz od (.dK yvs)) ∧ kvs.map (·.1) = yvs.map (·.1) ∧ RVs K H ρ (kvs.map (·.2)) (yvs.map (·.2))
theorem RB.imp {a : Addr} (hv : ∀ {xs : List PV} {ys : List V}, RVs K H ρ xs ys → RVs K H1 ρ1 xs ys) (ha : ∀ o, H a = some o → H1 a = some o) : ∀ {b : Bx}, RB K H ρ a b → RB K H1 ρ1 a b
  | .l _, ⟨ys, h1, h2⟩ => ⟨ys, ha _ h1, hv h2⟩
  | .d _, ⟨ys, h1, h2, h3⟩ => ⟨ys, ha _ h1, h2, hv h3⟩
  | .e _, ⟨ys, h1, h2, h3⟩ => ⟨ys, ha _ h1, h2, hv h3⟩
  | .i _ _, ⟨nm, sl, C, dx, fs, h1, h2, h3⟩ => ⟨nm, sl, C, dx, fs, ha _ h1, h2, fun f => (h3 f).imp hv⟩
  | .y _, ⟨od, ys, h1, h2⟩ => ⟨od, ys, ha _ h1, hv h2⟩
  | .z _, ⟨od, ys, h1, h2, h3⟩ => ⟨od, ys, ha _ h1, h2, hv h3⟩
theorem RB.some {a : Addr} : ∀ {b : Bx}, RB K H ρ a b → ∃ o, H a = some o
  | .l _, ⟨ys, h1, _⟩ => ⟨_, h1⟩
  | .d _, ⟨ys, h1, _⟩ => ⟨_, h1⟩
  | .e _, ⟨ys, h1, _⟩ => ⟨_, h1⟩
  | .i _ _, ⟨_, _, _, _, fs, h1, _⟩ => ⟨_, h1⟩
  | .y _, ⟨_, _, h1, _⟩ => ⟨_, h1⟩
  | .z _, ⟨_, _, h1, _⟩ => ⟨_, h1⟩
/-- the store: what may change, at unlike addresses; the tables of code objects -/
structure RSt (K : PySem.W.Frag) (H : Hp) (ρ : Rh) (sto : Sto) : Prop where
  nd : ρ.bx.Nodup
  len : ρ.bx.length = sto.length
  at_ : ∀ (n : Nat) (a : Addr) (b : Bx), ρ.bx[n]? = some a → sto[n]? = some b → RB K H ρ a b
  rsv : ∀ a ∈ ρ.rs, H a ≠ none ∧ a ∉ ρ.bx
  tb : ∀ a, GenTab K a → H a = some (.ext (G0.tabOk a)) ∧ a ∉ ρ.bx ∧ a ∉ ρ.rs
theorem RSt.tbw {sto : Sto} (S : RSt K H ρ sto) (e : ExtW ρ H ρ1 H1) : ∀ a, GenTab K a → H1 a = some (.ext (G0.tabOk a)) ∧ a ∉ ρ1.bx ∧ a ∉ ρ1.rs := fun a h =>
  let ⟨h1, h2, h3⟩ := S.tb a h
  ⟨e.keep a _ h1 h2 h3, e.notin (sm h1) h2, e.nores (sm h1) h3⟩

def REnv (K : PySem.W.Frag) (H : Hp) (ρ : Rh) (env : Env) (σ : L2.St) : Prop :=
  env.length = σ.length ∧ ∀ (i : Nat) (p : PV), env[i]? = some (some p) → ∃ v, σ[i]? = some (some v) ∧ RV K H ρ p v
theorem REnv.mono (e : ExtW ρ H ρ1 H1) {env : Env} {σ : L2.St} (h : REnv K H ρ env σ) : REnv K H1 ρ1 env σ :=
  ⟨h.1, fun i p q => let ⟨v, h1, h2⟩ := h.2 i p q; ⟨v, h1, h2.mono e⟩⟩
theorem REnv.set {env : Env} {σ : L2.St} {p : PV} {v : V} (h : REnv K H ρ env σ) (i : Nat) (r : RV K H ρ p v) : REnv K H ρ (env.set i (some p)) (σ.set i (some v)) := by
  refine ⟨by simp [h.1], fun j q e => ?_⟩
  by_cases hj : i = j
  · subst hj
    by_cases hl : i < env.length
    · rw [List.getElem?_set_self hl] at e
      cases e
      exact ⟨v, by rw [List.getElem?_set_self (h.1 ▸ hl)], r⟩
    · rw [List.getElem?_eq_none_iff.mpr (by simpa using hl)] at e; cases e
  · rw [List.getElem?_set_ne hj] at e
    obtain ⟨w, h1, h2⟩ := h.2 j q e
    exact ⟨w, by rw [List.getElem?_set_ne hj]; exact h1, h2⟩
/-- an exception: its class, its own dict -/
def RX (K : PySem.W.Frag) (H : Hp) (ρ : Rh) (e : Exn) (cls : Value) (d : Option Addr) : Prop :=
  (∃ C, PySem.W.nsIn K mainGlobals e.cls = some (some (.ref C)) ∧ cls = .ref C) ∧ (match d with
    | none => e.flds = []
    | some d => e.flds ≠ [] ∧ ∃ fs, H d = some (.xd fs) ∧ d ∉ ρ.bx ∧ d ∉ ρ.rs ∧ e.flds.map (·.1) = fs.map (·.1) ∧ RVs K H ρ (e.flds.map (·.2)) (fs.map (·.2)))
theorem RX.mono (x : ExtW ρ H ρ1 H1) {e : Exn} {cls : Value} {d : Option Addr} (h : RX K H ρ e cls d) : RX K H1 ρ1 e cls d := by
  refine ⟨h.1, ?_⟩
  cases d with
  | none => exact h.2
  | some d =>
    obtain ⟨h0, fs, h1, h2, h2', h3, h4⟩ := h.2
    exact ⟨h0, fs, x.keep _ _ h1 h2 h2', x.notin (sm h1) h2, x.nores (sm h1) h2', h3, h4.mono x⟩
end

/-- what is wanted behind a meaning -/
def Post {α : Type} (K : PySem.W.Frag) (W : XK) (H : Hp) (ρ : Rh) (G : α → Sto → Hp → Rh → Prop) : R α → Prop
  | .ok v s => ∀ H' ρ', Ext ρ H ρ' H' → RSt K H' ρ' s → G v s H' ρ'
  | .ex e s => ∀ cls d H' ρ', Ext ρ H ρ' H' → RSt K H' ρ' s → RX K H' ρ' e cls d → W cls d H'
  | .bad => False
section
variable {α β : Type} {K : PySem.W.Frag} {W : XK} {H H1 : Hp} {ρ ρ1 : Rh} {G G' : α → Sto → Hp → Rh → Prop} {G2 : β → Sto → Hp → Rh → Prop}
theorem Post.shift (e : Ext ρ H ρ1 H1) (hh : ∀ a ∈ ρ.rs, H a ≠ none) : ∀ {r : R α}, Post K W H ρ G r → Post K W H1 ρ1 G r
  | .ok _ _, h => fun H' ρ' x y => h H' ρ' (e.trans x hh) y
  | .ex _ _, h => fun c d H' ρ' x y => h c d H' ρ' (e.trans x hh) y
  | .bad, h => h
theorem Post.imp (hG : ∀ v s H' ρ', Ext ρ H ρ' H' → RSt K H' ρ' s → G v s H' ρ' → G' v s H' ρ') : ∀ {r : R α}, Post K W H ρ G r → Post K W H ρ G' r
  | .ok _ _, h => fun H' ρ' x y => hG _ _ H' ρ' x y (h H' ρ' x y)
  | .ex _ _, h => h
  | .bad, h => h
theorem Post.bind {f : α → Sto → R β} {sto : Sto} (S : RSt K H ρ sto) : ∀ {r : R α}, Post K W H ρ G2 (r.bind f) → Post K W H ρ (fun v s H' ρ' => Post K W H' ρ' G2 (f v s)) r
  | .ok v s, h => fun H' ρ' x _ => Post.shift x (fun a ha => (S.rsv a ha).1) h
  | .ex _ _, h => h
  | .bad, h => h
end

abbrev M := Env → Sto → R PV
abbrev MA := Env → Sto → R (List PV)
abbrev MT := Env → Sto → R Bool
abbrev WK := WX

def GV (K : PySem.W.Frag) (Q : VK) : PV → Sto → Hp → Rh → Prop := fun v _ H' ρ' => ∀ x, RV K H' ρ' v x → Q x H'
def GA (K : PySem.W.Frag) (Q : List V → Hp → Prop) : List PV → Sto → Hp → Rh → Prop := fun v _ H' ρ' => ∀ x, RVs K H' ρ' v x → Q x H'
def GT (Q : Bool → Hp → Prop) : Bool → Sto → Hp → Rh → Prop := fun b _ H' _ => Q b H'

def SE (K : PySem.W.Frag) (W : WK) (t : TE) (m : M) : Prop := ∀ (σ : L2.St) (H : Hp) (ρ : Rh) (env : Env) (sto : Sto) (Q : VK),
  REnv K H ρ env σ → RSt K H ρ sto → Post K (fun c d h => W c d σ h) H ρ (GV K Q) (m env sto) → t σ H Q
def SA (K : PySem.W.Frag) (W : WK) (t : TA) (m : MA) : Prop := ∀ (σ : L2.St) (H : Hp) (ρ : Rh) (env : Env) (sto : Sto) (Q : List V → Hp → Prop),
  REnv K H ρ env σ → RSt K H ρ sto → Post K (fun c d h => W c d σ h) H ρ (GA K Q) (m env sto) → t σ H Q
def ST (K : PySem.W.Frag) (W : WK) (t : TT) (m : MT) : Prop := ∀ (σ : L2.St) (H : Hp) (ρ : Rh) (env : Env) (sto : Sto) (Q : Bool → Hp → Prop),
  REnv K H ρ env σ → RSt K H ρ sto → Post K (fun c d h => W c d σ h) H ρ (GT Q) (m env sto) → t σ H Q

/-- an expression means m -/
def ME (X : Cx) (W : WK) (e : Expr) (m : M) : Prop := ∃ t, PE X e t ∧ SE X.K W t m
def MEs (X : Cx) (W : WK) (es : List Expr) (m : MA) : Prop := ∃ t, PA X es t ∧ SA X.K W t m
def MTe (X : Cx) (W : WK) (e : Expr) (m : MT) : Prop := ∃ t, PT X e t ∧ ST X.K W t m

/-! ### names, constants, displays -/
/-! set, nth by the recursors themselves -/
def setR {α : Type} (l : List α) (i : Nat) (v : α) : List α := List.rec (motive := fun _ => Nat → List α) (fun _ => []) (fun a t ih i => Nat.rec (motive := fun _ => List α) (v :: t) (fun j _ => a :: ih j) i) l i
theorem setR_eq {α : Type} (v : α) : ∀ (l : List α) (i : Nat), setR l i v = l.set i v
  | [], _ => rfl
  | _ :: _, 0 => rfl
  | a :: t, i + 1 => congrArg (a :: ·) (setR_eq v t i)
def nthR {α : Type} (l : List α) (i : Nat) : Option α := List.rec (motive := fun _ => Nat → Option α) (fun _ => none) (fun a _ ih i => Nat.rec (motive := fun _ => Option α) (some a) (fun j _ => ih j) i) l i
theorem nthR_eq {α : Type} : ∀ (l : List α) (i : Nat), nthR l i = l[i]?
  | [], _ => rfl
  | _ :: _, 0 => rfl
  | _ :: t, i + 1 => (nthR_eq t i).trans (by simp)
def mVar (i : Nat) : M := fun env s => match nthR env i with
  | some (some v) => .ok v s
  | _ => .bad
def mC (v : PV) : M := fun _ s => .ok v s
def mNil : MA := fun _ s => .ok [] s
def mCons (m : M) (ms : MA) : MA := fun env s => (m env s).bind fun v s1 => (ms env s1).bind fun vs s2 => .ok (v :: vs) s2
def isFlat : PV → Bool
  | .non | .bl _ | .int _ | .str _ | .ty _ | .obj _ | .fn _ => true
  | _ => false
section
variable {X : Cx} {W : WK} {e a b c : Expr} {m ma mb mc : M} {pos : Pos}
theorem e_var {i : Nat} {x : Str} (hN : X.N[i]? = some x) (hv : Vis X.env.scope x) (hd : (x == ("__debug__" : Str)) = false := by decide) (hcd : (x == ("__classdict__" : Str)) = false := by decide) : ME X W (.Name x pos) (mVar i) := by
  refine ⟨_, pe_var hN hv hd hcd, fun σ H ρ env sto Q hE hS hP => ?_⟩
  unfold mVar at hP
  rw [nthR_eq] at hP
  cases h : env[i]? with
  | none => rw [h] at hP; exact hP.elim
  | some o =>
    cases o with
    | none => rw [h] at hP; exact hP.elim
    | some p =>
      rw [h] at hP
      obtain ⟨v, h1, h2⟩ := hE.2 i p h
      exact ⟨v, h1, hP H ρ .refl hS v h2⟩
theorem e_int {i : Int} {j} : ME X W (.Constant (.int i) j pos) (mC (.int i)) := ⟨_, pe_int, fun _ H ρ _ _ _ _ hS hP => hP H ρ .refl hS _ rfl⟩
theorem e_bl {i : Bool} {j} : ME X W (.Constant (.bool i) j pos) (mC (.bl i)) := ⟨_, pe_bl, fun _ H ρ _ _ _ _ hS hP => hP H ρ .refl hS _ rfl⟩
theorem e_non {j} : ME X W (.Constant .none j pos) (mC .non) := ⟨_, pe_non, fun _ H ρ _ _ _ _ hS hP => hP H ρ .refl hS _ rfl⟩
theorem e_str {i : Str} {j} : ME X W (.Constant (.str i) j pos) (mC (.str i)) := ⟨_, pe_str, fun _ H ρ _ _ _ _ hS hP => hP H ρ .refl hS _ rfl⟩
/-- a class or def of the module's own, as a value -/
theorem e_obj {x : Str} {f : Addr} (hg : Gl X x) (hm : X.mg x = some (.ref f)) (hd : (x == ("__debug__" : Str)) = false := by decide) : ME X W (.Name x pos) (mC (.obj f)) :=
  ⟨_, pe_glob (v := .ref f) hg hm rfl hd, fun _ H ρ _ _ _ _ hS hP => hP H ρ .refl hS _ rfl⟩
theorem a_nil : MEs X W [] mNil := ⟨_, pa_nil, fun _ H ρ _ _ _ _ hS hP => hP H ρ .refl hS _ rfl⟩
theorem a_cons {es : List Expr} {ms : MA} (h1 : ME X W e m) (h2 : MEs X W es ms) (hs : starEach (e :: es) X.env = (false, eval e X.env) :: starEach es X.env := by rfl) : MEs X W (e :: es) (mCons m ms) := by
  obtain ⟨t, p, s⟩ := h1
  obtain ⟨u, q, r⟩ := h2
  refine ⟨_, pa_cons p q hs, fun σ H ρ env sto Q hE hS hP => ?_⟩
  refine s σ H ρ env sto _ hE hS ((hP.bind hS).imp fun v s1 H1 ρ1 x1 S1 P1 y hy => ?_)
  refine r σ H1 ρ1 env s1 _ (hE.mono x1.toExtW) S1 ((P1.bind S1).imp fun vs s2 H2 ρ2 x2 S2 P2 ys hys => ?_)
  exact P2 H2 ρ2 .refl S2 _ (.cons (hy.mono x2.toExtW) hys)
def mTup (ms : MA) : M := fun env s => (ms env s).bind fun vs s1 => bif Nat.ble vs.length sizeLine then .ok (.tup vs) s1 else .bad
def mLst (ms : MA) : M := fun env s => (ms env s).bind fun vs s1 => bif Nat.ble vs.length sizeLine then .ok (.lst vs) s1 else .bad
def mBox (ms : MA) : M := fun env s => (ms env s).bind fun vs s1 => bif Nat.ble vs.length sizeLine then .ok (.box s1.length) (s1 ++ [.l vs]) else .bad
section
variable {K : PySem.W.Frag} {H H1 : Hp} {ρ ρ1 : Rh} {sto : Sto} {p : Addr} {o : HO}
theorem RSt.fresh (h : RSt K H ρ sto) (hp : H p = none) : p ∉ ρ.bx := fun hm => by
  obtain ⟨n, hn, e⟩ := List.getElem_of_mem hm
  have hl : n < sto.length := h.len ▸ hn
  obtain ⟨o, h1⟩ := (h.at_ n p sto[n] (by rw [List.getElem?_eq_getElem hn, e]) (List.getElem?_eq_getElem hl)).some
  rw [hp] at h1; cases h1
theorem RSt.freshR (h : RSt K H ρ sto) (hp : H p = none) : p ∉ ρ.rs := fun hm => (h.rsv p hm).1 hp
theorem RSt.hh (h : RSt K H ρ sto) : ∀ a ∈ ρ.rs, H a ≠ none := fun a ha => (h.rsv a ha).1
theorem has_upd (a : Addr) (h : H a ≠ none) : (upd H p o) a ≠ none := by
  by_cases q : a = p
  · subst q; rw [upd_same]; exact fun z => by cases z
  · rw [upd_ne q]; exact h
theorem kd_new (hp : H p = none) : ∀ a u, a ∈ ρ.bx → H a = some u → ∃ o', (upd H p o) a = some o' ∧ alike u o' := fun a u _ h => ⟨u, by rw [upd_ne (ne_of_none h hp)]; exact h, alike_refl u⟩
theorem Ext.new (hp : H p = none) (hr : ∀ a ∈ ρ.rs, H a ≠ none) : Ext ρ H ρ (upd H p o) :=
  ⟨⟨⟨[], by simp, by simp⟩, rs_refl, fun a u h _ _ => by rw [upd_ne (ne_of_none h hp)]; exact h, fun a h => has_upd a h, kd_new hp⟩, rfl, fun a ha _ => upd_ne fun q => hr a ha (q ▸ hp)⟩
theorem RSt.mono' (h : RSt K H ρ sto) (x : Ext ρ H ρ H1) (k : ∀ a ∈ ρ.bx, H1 a = H a) : RSt K H1 ρ sto :=
  ⟨h.nd, h.len, fun n a b e1 e2 => (h.at_ n a b e1 e2).imp (fun r => r.mono x.toExtW) fun o q => by rw [k a (List.mem_of_getElem? e1)]; exact q, fun a ha => ⟨x.has a (h.rsv a ha).1, (h.rsv a ha).2⟩, h.tbw x.toExtW⟩
theorem RSt.ext (h : RSt K H ρ sto) (hp : H p = none) : Ext ρ H ρ (upd H p o) := .new hp h.hh
theorem RSt.new (h : RSt K H ρ sto) (hp : H p = none) : RSt K (upd H p o) ρ sto :=
  h.mono' (h.ext hp) fun a ha => upd_ne fun q => h.fresh hp (q ▸ ha)
theorem RSt.newBx (h : RSt K H ρ sto) {b : Bx} {o : HO} (hp : H p = none) (r : ∀ H1, ExtW ρ H ⟨ρ.bx ++ [p], ρ.rs, ρ.cg⟩ H1 → H1 p = some o → RB K H1 ⟨ρ.bx ++ [p], ρ.rs, ρ.cg⟩ p b) : Ext ρ H ⟨ρ.bx ++ [p], ρ.rs, ρ.cg⟩ (upd H p o) ∧ RSt K (upd H p o) ⟨ρ.bx ++ [p], ρ.rs, ρ.cg⟩ (sto ++ [b]) := by
  have hx : Ext ρ H ⟨ρ.bx ++ [p], ρ.rs, ρ.cg⟩ (upd H p o) :=
    ⟨⟨⟨[p], rfl, fun a ha => by rw [List.mem_singleton.mp ha]; exact hp⟩, rs_refl, (h.ext (o := o) hp).keep, (h.ext (o := o) hp).has, kd_new hp⟩, rfl, (h.ext (o := o) hp).res⟩
  refine ⟨hx, ⟨?_, by simp [h.len], fun n a zs e1 e2 => ?_, fun a ha => ⟨hx.has a (h.rsv a ha).1, fun hm => ?_⟩, h.tbw hx.toExtW⟩⟩
  · refine List.nodup_append.mpr ⟨h.nd, by simp, fun a ha b hb => ?_⟩
    rw [List.mem_singleton.mp hb]
    exact fun q => h.fresh hp (q ▸ ha)
  · by_cases hn : n < ρ.bx.length
    · rw [List.getElem?_append_left hn] at e1
      rw [List.getElem?_append_left (h.len ▸ hn)] at e2
      exact (h.at_ n a zs e1 e2).imp (fun r => r.mono hx.toExtW) fun u q => by rw [upd_ne (ne_of_none q hp)]; exact q
    · have hn' : n = ρ.bx.length := by
        have := (List.getElem?_eq_some_iff.mp e1).1
        simp at this; omega
      subst hn'
      simp at e1
      rw [h.len] at e2
      simp at e2
      subst e1; subst e2
      exact r _ hx.toExtW upd_same
  · rcases List.mem_append.mp hm with z | z
    · exact (h.rsv a ha).2 z
    · exact h.freshR hp (by rw [← List.mem_singleton.mp z]; exact ha)
theorem RSt.newBox (h : RSt K H ρ sto) {xs : List PV} {ys : List V} (hp : H p = none) (r : RVs K H ρ xs ys) : Ext ρ H ⟨ρ.bx ++ [p], ρ.rs, ρ.cg⟩ (upd H p (.lst ys)) ∧ RSt K (upd H p (.lst ys)) ⟨ρ.bx ++ [p], ρ.rs, ρ.cg⟩ (sto ++ [.l xs]) :=
  h.newBx hp fun H1 x e => ⟨ys, e, r.mono x⟩
end
theorem e_tup {es : List Expr} {ms : MA} {x1} (h : MEs X W es ms) : ME X W (.Tuple es x1 pos) (mTup ms) := by
  obtain ⟨t, p, s⟩ := h
  refine ⟨_, pe_tup p, fun σ H ρ env sto Q hE hS hP => ?_⟩
  refine s σ H ρ env sto _ hE hS ((hP.bind hS).imp fun vs s1 H1 ρ1 x1 S1 P1 ys hys => ?_)
  cases q : Nat.ble vs.length sizeLine with
  | false => rw [q] at P1; exact P1.elim
  | true =>
    rw [q] at P1
    refine ⟨by rw [← hys.length]; exact Nat.le_of_ble_eq_true q, fun p hp => ?_⟩
    exact P1 _ ρ1 (S1.ext hp) (S1.new hp) _ ⟨p, ys, rfl, .inl ⟨upd_same, S1.fresh hp, S1.freshR hp⟩, hys.mono (S1.ext hp).toExtW⟩
theorem e_lst {es : List Expr} {ms : MA} (h : MEs X W es ms) : ME X W (.List es pos) (mLst ms) := by
  obtain ⟨t, p, s⟩ := h
  refine ⟨_, pe_lst p, fun σ H ρ env sto Q hE hS hP => ?_⟩
  refine s σ H ρ env sto _ hE hS ((hP.bind hS).imp fun vs s1 H1 ρ1 x1 S1 P1 ys hys => ?_)
  cases q : Nat.ble vs.length sizeLine with
  | false => rw [q] at P1; exact P1.elim
  | true =>
    rw [q] at P1
    refine ⟨by rw [← hys.length]; exact Nat.le_of_ble_eq_true q, fun p hp => ?_⟩
    exact P1 _ ρ1 (S1.ext hp) (S1.new hp) _ ⟨p, ys, rfl, ⟨upd_same, S1.fresh hp, S1.freshR hp⟩, hys.mono (S1.ext hp).toExtW⟩
theorem e_box {es : List Expr} {ms : MA} (h : MEs X W es ms) : ME X W (.List es pos) (mBox ms) := by
  obtain ⟨t, p, s⟩ := h
  refine ⟨_, pe_lst p, fun σ H ρ env sto Q hE hS hP => ?_⟩
  refine s σ H ρ env sto _ hE hS ((hP.bind hS).imp fun vs s1 H1 ρ1 x1 S1 P1 ys hys => ?_)
  cases q : Nat.ble vs.length sizeLine with
  | false => rw [q] at P1; exact P1.elim
  | true =>
    rw [q] at P1
    refine ⟨by rw [← hys.length]; exact Nat.le_of_ble_eq_true q, fun p hp => ?_⟩
    obtain ⟨x2, S2⟩ := S1.newBox hp hys
    exact P1 _ _ x2 S2 _ ⟨p, rfl, by rw [← S1.len]; simp⟩
end
end Mi

noncomputable section
namespace Mi
open PySem PySem.Spec PyProof.Rows L2

/-! the i-th of a list, by its tails (the kernel keeps what it has met) -/
def dropC {α : Type} (xs : List α) : Nat → List α
  | 0 => xs
  | n + 1 => (dropC xs n).tail
def nthC {α : Type} (xs : List α) (i : Nat) : Option α := (dropC xs i).head?
theorem dropC_eq {α : Type} (xs : List α) : ∀ n, dropC xs n = xs.drop n
  | 0 => rfl
  | n + 1 => by
    show (dropC xs n).tail = xs.drop (n + 1)
    rw [dropC_eq xs n, List.tail_drop]
theorem nthC_eq {α : Type} (xs : List α) (i : Nat) : nthC xs i = xs[i]? := by
  unfold nthC
  rw [dropC_eq, List.head?_drop]
/-! ### what a value holds -/
def getL (sto : Sto) : PV → Option (List PV)
  | .lst xs => some xs
  | .box n => lsO sto[n]?
  | _ => none
def getF (sto : Sto) : PV → Option (List PV)
  | .lst xs => some xs
  | .fro xs => some xs
  | .box n => lsO sto[n]?
  | _ => none
def getT : PV → Option (List PV)
  | .tup xs => some xs
  | _ => none
def getQ (sto : Sto) : PV → Option (List PV)
  | .tup xs => some xs
  | v => getF sto v
section
variable {K : PySem.W.Frag} {H : Hp} {ρ : Rh} {sto : Sto} {x : PV} {v : V} {xs : List PV}
theorem getL_ok (S : RSt K H ρ sto) (r : RV K H ρ x v) (h : getL sto x = some xs) : ∃ a ys, v = .ref a ∧ H a = some (.lst ys) ∧ RVs K H ρ xs ys := by
  cases x <;> simp only [getL] at h <;> try cases h
  · obtain ⟨a, ys, h1, h2, h3⟩ := r
    exact ⟨a, ys, h1, h2.1, h3⟩
  · obtain ⟨a, h1, h2⟩ := r
    obtain ⟨ys, h3, h4⟩ := S.at_ _ a _ h2 (lsO_ok h)
    exact ⟨a, ys, h1, h3, h4⟩
theorem getF_ok (S : RSt K H ρ sto) (r : RV K H ρ x v) (h : getF sto x = some xs) : ∃ a ys, v = .ref a ∧ SqL K H a ys ∧ RVs K H ρ xs ys := by
  cases x <;> simp only [getF] at h <;> try cases h
  · obtain ⟨a, ys, h1, h2, h3⟩ := r
    exact ⟨a, ys, h1, .of h2.1, h3⟩
  · obtain ⟨a, ys, h1, h2, h3⟩ := r
    exact ⟨a, ys, h1, h2.sq, h3⟩
  · obtain ⟨a, h1, h2⟩ := r
    obtain ⟨ys, h3, h4⟩ := S.at_ _ a _ h2 (lsO_ok h)
    exact ⟨a, ys, h1, .of h3, h4⟩
theorem getT_ok (r : RV K H ρ x v) (h : getT x = some xs) : ∃ a ys, v = .ref a ∧ SqT K H a ys ∧ RVs K H ρ xs ys := by
  cases x <;> simp only [getT] at h <;> try cases h
  obtain ⟨a, ys, h1, h2, h3⟩ := r
  exact ⟨a, ys, h1, h2.sq, h3⟩
theorem getQ_ok (S : RSt K H ρ sto) (r : RV K H ρ x v) (h : getQ sto x = some xs) : ∃ a ys, v = .ref a ∧ (SqL K H a ys ∨ SqT K H a ys) ∧ RVs K H ρ xs ys := by
  cases x with
  | tup zs =>
    obtain ⟨a, ys, h1, h2, h3⟩ := getT_ok r (show getT (.tup zs) = some xs from h)
    exact ⟨a, ys, h1, .inr h2, h3⟩
  | _ =>
    obtain ⟨a, ys, h1, h2, h3⟩ := getF_ok S r (show getF sto _ = some xs from h)
    exact ⟨a, ys, h1, .inl h2, h3⟩
end
def fresh (b : Bool) (xs : List PV) (s : Sto) : R PV := bif b then .ok (.box s.length) (s ++ [.l xs]) else .ok (.lst xs) s
section
variable {K : PySem.W.Frag} {H : Hp} {ρ : Rh} {sto : Sto} {WP : XK} {Q : VK}
theorem fresh_ok {b : Bool} {xs : List PV} {ys : List V} (S : RSt K H ρ sto) (r : RVs K H ρ xs ys) (P : Post K WP H ρ (GV K Q) (fresh b xs sto)) {p : Addr} (hp : H p = none) : Q (.ref p) (upd H p (.lst ys)) := by
  cases b with
  | false => exact P _ ρ (S.ext hp) (S.new hp) _ ⟨p, ys, rfl, ⟨upd_same, S.fresh hp, S.freshR hp⟩, r.mono (S.ext hp).toExtW⟩
  | true =>
    obtain ⟨x2, S2⟩ := S.newBox hp r
    exact P _ _ x2 S2 _ ⟨p, rfl, by rw [← S.len]; simp⟩
theorem tup_ok {xs : List PV} {ys : List V} {s : Sto} (S : RSt K H ρ s) (r : RVs K H ρ xs ys) (P : Post K WP H ρ (GV K Q) (.ok (.tup xs) s)) {p : Addr} (hp : H p = none) : Q (.ref p) (upd H p (.tup ys)) :=
  P _ ρ (S.ext hp) (S.new hp) _ ⟨p, ys, rfl, .inl ⟨upd_same, S.fresh hp, S.freshR hp⟩, r.mono (S.ext hp).toExtW⟩
theorem now {v : PV} {x : V} (S : RSt K H ρ sto) (P : Post K WP H ρ (GV K Q) (.ok v sto)) (r : RV K H ρ v x) : Q x H := P H ρ .refl S x r
end

/-! ### two-place operations -/
abbrev G2 := PV → PV → Sto → R PV
def mBin (g : G2) (ma mb : M) : M := fun env s => (ma env s).bind fun x s1 => (mb env s1).bind fun y s2 => g x y s2
def SR2 (K : PySem.W.Frag) (r : R2) (g : G2) : Prop := ∀ (WP : XK) (H : Hp) (ρ : Rh) (sto : Sto) (x y : PV) (v u : V) (Q : VK),
  RSt K H ρ sto → RV K H ρ x v → RV K H ρ y u → Post K WP H ρ (GV K Q) (g x y sto) → r v u H Q
def mUn (g : PV → Sto → R PV) (m : M) : M := fun env s => (m env s).bind g
def SR1 (K : PySem.W.Frag) (r : V → Hp → VK → Prop) (g : PV → Sto → R PV) : Prop := ∀ (WP : XK) (H : Hp) (ρ : Rh) (sto : Sto) (x : PV) (v : V) (Q : VK),
  RSt K H ρ sto → RV K H ρ x v → Post K WP H ρ (GV K Q) (g x sto) → r v H Q
section
variable {X : Cx} {W : WK} {a b c : Expr} {ma mb mc : M} {pos : Pos} {g : G2} {r : R2}
theorem se_bin {ta tb : TE} (sa : SE X.K W ta ma) (sb : SE X.K W tb mb) (hg : SR2 X.K r g) : SE X.K W (tOp r ta tb) (mBin g ma mb) := by
  intro σ H ρ env sto Q hE hS hP
  refine sa σ H ρ env sto _ hE hS ((hP.bind hS).imp fun v s1 H1 ρ1 x1 S1 P1 y hy => ?_)
  refine sb σ H1 ρ1 env s1 _ (hE.mono x1.toExtW) S1 ((P1.bind S1).imp fun u s2 H2 ρ2 x2 S2 P2 z hz => ?_)
  exact hg _ H2 ρ2 s2 v u y z Q S2 (hy.mono x2.toExtW) hz P2
theorem e_op {op : Operator} (ho : OpR X (binaryOp op) r) (hg : SR2 X.K r g) (ha : ME X W a ma) (hb : ME X W b mb) : ME X W (.BinOp a op b pos) (mBin g ma mb) := by
  obtain ⟨ta, pa, sa⟩ := ha
  obtain ⟨tb, pb, sb⟩ := hb
  exact ⟨_, pe_op ho pa pb, se_bin sa sb hg⟩
theorem e_cmp {op : CmpOp} (ho : OpR X (compareOp op) r) (hg : SR2 X.K r g) (ha : ME X W a ma) (hb : ME X W b mb) (hm : behindInMarks op b = false) : ME X W (.Compare a [op] [b] pos) (mBin g ma mb) := by
  obtain ⟨ta, pa, sa⟩ := ha
  obtain ⟨tb, pb, sb⟩ := hb
  exact ⟨_, pe_cmpR ho pa pb hm, se_bin sa sb hg⟩
theorem e_un {op : UnaryOp} {r : V → Hp → VK → Prop} {g : PV → Sto → R PV} (ho : UnR X (unaryOp op) r) (hg : SR1 X.K r g) (ha : ME X W a ma) : ME X W (.UnaryOp op a pos) (mUn g ma) := by
  obtain ⟨ta, pa, sa⟩ := ha
  refine ⟨_, pe_un ho pa, fun σ H ρ env sto Q hE hS hP => ?_⟩
  exact sa σ H ρ env sto _ hE hS ((hP.bind hS).imp fun v s1 H1 ρ1 x1 S1 P1 y hy => hg _ H1 ρ1 s1 v y Q S1 hy P1)
end
def gAdd (fr : Bool) : G2 := fun x y s => match x, y with
  | .int i, .int j => .ok (.int (i + j)) s
  | .int i, .bl k => .ok (.int (i + b2i k)) s
  | .tup xs, .tup ys => bif Nat.ble (xs.length + ys.length) sizeLine then .ok (.tup (xs ++ ys)) s else .bad
  | x, y => match getL s x, getL s y with
    | some xs, some ys => bif Nat.ble (xs.length + ys.length) sizeLine then fresh fr (xs ++ ys) s else .bad
    | _, _ => .bad
def rAdd' (K : PySem.W.Frag) : R2 := fun x y H Q => (((∃ i j, x = .int i ∧ y = .int j ∧ Q (.int (i + j)) H) ∨ (∃ i k, x = .int i ∧ y = .bl k ∧ Q (.int (i + b2i k)) H)) ∨ rCatA K x y H Q) ∨ rCat x y H Q
theorem op_add' {X : Cx} : OpR X (binaryOp .Add) (rAdd' X.K) := ((OpR.or op_add op_add_ib).or op_catA).or op_cat
theorem ble_of {a b : Nat} {α : Type} {r r' : α} {C : α → Prop} (h : C (bif Nat.ble a b then r else r')) (hn : ¬ C r') : a ≤ b ∧ C r := by
  cases q : Nat.ble a b with
  | false => rw [q] at h; exact absurd h hn
  | true => rw [q] at h; exact ⟨Nat.le_of_ble_eq_true q, h⟩
section
variable {K : PySem.W.Frag}
theorem cat_list {WP : XK} {H : Hp} {ρ : Rh} {sto : Sto} {x y : PV} {v u : V} {Q : VK} {fr : Bool} (S : RSt K H ρ sto) (rx : RV K H ρ x v) (ry : RV K H ρ y u)
    (P : Post K WP H ρ (GV K Q) (match getL sto x, getL sto y with
    | some xs, some ys => bif Nat.ble (xs.length + ys.length) sizeLine then fresh fr (xs ++ ys) sto else .bad
    | _, _ => .bad)) : rCat v u H Q := by
  cases e1 : getL sto x with
  | none => rw [e1] at P; exact P.elim
  | some xs =>
    cases e2 : getL sto y with
    | none => rw [e1, e2] at P; exact P.elim
    | some ys =>
      rw [e1, e2] at P
      obtain ⟨hz, P⟩ := ble_of (C := Post K WP H ρ (GV K Q)) P (fun z => z)
      obtain ⟨a, as, rfl, ha, ra⟩ := getL_ok S rx e1
      obtain ⟨b, bs, rfl, hb, rb⟩ := getL_ok S ry e2
      exact ⟨a, b, as, bs, rfl, rfl, ha, hb, by rw [← ra.length, ← rb.length]; exact hz, fun p hp => fresh_ok S (ra.append rb) P hp⟩
theorem g_add {fr : Bool} : SR2 K (rAdd' K) (gAdd fr) := by
  intro WP H ρ sto x y v u Q S rx ry P
  unfold gAdd at P
  split at P
  · cases rx; cases ry
    exact .inl (.inl (.inl ⟨_, _, rfl, rfl, now S P rfl⟩))
  · cases rx; cases ry
    exact .inl (.inl (.inr ⟨_, _, rfl, rfl, now S P rfl⟩))
  · rename_i xs ys
    obtain ⟨hz, P⟩ := ble_of (C := Post K WP H ρ (GV K Q)) P (fun z => z)
    obtain ⟨a, as, rfl, ha, ra⟩ := getT_ok rx rfl
    obtain ⟨b, bs, rfl, hb, rb⟩ := getT_ok ry rfl
    refine .inl (.inr ⟨a, b, as, bs, rfl, rfl, ha, hb, by rw [← ra.length, ← rb.length]; exact hz, fun e => ?_, fun _ e => ?_, fun _ _ p hp => tup_ok S (ra.append rb) P hp⟩)
    · subst e
      have : xs = [] := List.length_eq_zero_iff.mp ra.length
      subst this
      exact now S P ry
    · subst e
      have : ys = [] := List.length_eq_zero_iff.mp rb.length
      subst this
      rw [List.append_nil] at P
      exact now S P rx
  · exact .inr (cat_list S rx ry P)
end
def gI (C : Int → Int → Bool) (f : Int → Int → PV) : G2 := fun x y s => match x, y with
  | .int i, .int j => bif C i j then .ok (f i j) s else .bad
  | _, _ => .bad
theorem g_I {K : PySem.W.Frag} {C : Int → Int → Bool} {C' : Int → Int → Prop} {f : Int → Int → PV} {f' : Int → Int → V} (hC : ∀ i j, C i j = true → C' i j) (hf : ∀ H ρ i j, RV K H ρ (f i j) (f' i j)) : SR2 K (rI C' f') (gI C f) := by
  intro WP H ρ sto x y v u Q S rx ry P
  unfold gI at P
  split at P
  · rename_i i j
    cases rx; cases ry
    cases q : C i j with
    | false => rw [q] at P; exact P.elim
    | true =>
      rw [q] at P
      exact ⟨i, j, rfl, rfl, hC i j q, now S P (hf H ρ i j)⟩
  · exact P.elim
def gI0 (f : Int → Int → PV) : G2 := fun x y s => match x, y with
  | .int i, .int j => .ok (f i j) s
  | _, _ => .bad
theorem g_I0 {K : PySem.W.Frag} {f : Int → Int → PV} {f' : Int → Int → V} (hf : ∀ H ρ i j, RV K H ρ (f i j) (f' i j)) : SR2 K (rI0 f') (gI0 f) := by
  intro WP H ρ sto x y v u Q S rx ry P
  unfold gI0 at P
  split at P
  · rename_i i j
    cases rx; cases ry
    exact ⟨i, j, rfl, rfl, now S P (hf H ρ i j)⟩
  · exact P.elim
/-- * of two factors of together less than 100 million bits -/
def CMulZ (i j : Int) : Prop := i.natAbs.log2 + j.natAbs.log2 < 100000000
theorem CMulZ.ok {i j : Int} (h : CMulZ i j) : IntMulOk i j := by
  have b : ∀ x : Int, Builtin.Int.intBits x ≤ x.natAbs.log2 + 1 := fun x => by
    unfold Builtin.Int.intBits
    split <;> omega
  have b1 := b i
  have b2 := b j
  have b3 : i.natAbs.log2 + j.natAbs.log2 < 100000000 := h
  have bl : bitsLine = 134217728 := by decide
  intro z
  have z2 := (Bool.and_eq_true_iff.mp z).2
  unfold Builtin.Int.intTooBig at z2
  have z3 := of_decide_eq_true z2
  rw [bl] at z3
  omega
theorem op_mulZ {X : Cx} : OpR X (binaryOp .Mult) (rI CMulZ fun i j => .int (i * j)) := opI fun _ _ _ _ _ _ _ hc q => mul_int q hc.ok
def cMul (i j : Int) : Bool := Nat.blt (i.natAbs.log2 + j.natAbs.log2) 100000000
def cDiv (_ j : Int) : Bool := match j with
  | .ofNat n => bif Nat.beq n 0 then false else Nat.blt n.log2 9000
  | .negSucc n => Nat.blt (n + 1).log2 9000
def CDivZ (_ j : Int) : Prop := j ≠ 0 ∧ j.natAbs.log2 < 9000
theorem op_fdivZ {X : Cx} : OpR X (binaryOp .FloorDiv) (rI CDivZ fun i j => .int (i.fdiv j)) := opI fun _ _ _ _ _ _ _ hc q => floordiv_int hc.1 q (.inl (PyProof.noPylong_of_log2 hc.2))
def cMod (_ j : Int) : Bool := match j with
  | .ofNat n => bif Nat.beq n 0 then false else true
  | .negSucc _ => false
def cPow (i j : Int) : Bool := match j with
  | .ofNat n => Nat.ble n 1000000 && Nat.blt i.natAbs (2 ^ 64)
  | .negSucc _ => false
theorem beq_ne {n : Nat} (h : (bif Nat.beq n 0 then false else true) = true) : n ≠ 0 := by
  intro e; subst e; cases h
theorem cDiv_ok (i j : Int) (h : cDiv i j = true) : CDivZ i j := by
  unfold cDiv at h
  split at h
  · rename_i n
    cases q : Nat.beq n 0 with
    | true => rw [q] at h; cases h
    | false =>
      rw [q] at h
      have h1 : n ≠ 0 := fun e => by rw [e] at q; cases q
      exact ⟨by show (n : Int) ≠ 0; omega, Nat.le_of_ble_eq_true h⟩
  · rename_i n
    exact ⟨(fun z => nomatch z), Nat.le_of_ble_eq_true h⟩
theorem cMod_ok (i j : Int) (h : cMod i j = true) : 0 < j := by
  unfold cMod at h
  split at h
  · rename_i n
    have := beq_ne h
    show (0 : Int) < (n : Int); omega
  · cases h
theorem cPow_ok (i j : Int) (h : cPow i j = true) : CPow i j := by
  unfold cPow at h
  split at h
  · rename_i n
    rw [Bool.and_eq_true] at h
    have h1 := Nat.le_of_ble_eq_true h.1
    exact ⟨Int.natCast_nonneg n, by show (n : Int) ≤ 1000000; omega, Nat.le_of_ble_eq_true h.2⟩
  · cases h
def gSub : G2 := gI0 fun i j => .int (i - j)
def gDiv : G2 := gI cDiv fun i j => .int (i.fdiv j)
def gMod : G2 := gI cMod fun i j => .int (i % j)
def gPow : G2 := gI cPow fun i j => .int (i ^ j.toNat)
def rep (n : Nat) (xs : List PV) : List PV := (List.replicate n xs).flatten
theorem RVs.flat {K : PySem.W.Frag} {H : Hp} {ρ : Rh} {xs : List PV} {ys : List V} (r : RVs K H ρ xs ys) : ∀ n, RVs K H ρ (rep n xs) (List.replicate n ys).flatten
  | 0 => rfl
  | n + 1 => by
    unfold rep
    rw [List.replicate_succ, List.replicate_succ, List.flatten_cons, List.flatten_cons]
    exact r.append (RVs.flat r n)
def gMul (fr : Bool) : G2 := fun x y s => match x, y with
  | .int i, .int j => bif cMul i j then .ok (.int (i * j)) s else .bad
  | .tup xs, .int (.ofNat k) => bif Nat.ble 2 k && Nat.ble k 1000 && Nat.ble xs.length 1000 && Nat.ble 1 xs.length then .ok (.tup (rep k xs)) s else .bad
  | x, .int (.ofNat k) => match getL s x with
    | some xs => bif Nat.ble (xs.length * k) sizeLine && Nat.blt k (2 ^ 63) then fresh fr (rep k xs) s else .bad
    | none => .bad
  | _, _ => .bad
def rMul' (K : PySem.W.Frag) : R2 := fun x y H Q => (rI CMulZ (fun i j => .int (i * j)) x y H Q ∨ rRepT K x y H Q) ∨ rRep x y H Q
theorem op_mul' {X : Cx} : OpR X (binaryOp .Mult) (rMul' X.K) := (OpR.or op_mulZ op_repT).or op_rep
theorem and_of {p : Bool} {α : Type} {r r' : α} {C : α → Prop} (h : C (bif p then r else r')) (hn : ¬ C r') : p = true ∧ C r := by
  cases p with
  | false => exact absurd h hn
  | true => exact ⟨rfl, h⟩
theorem g_mul {K : PySem.W.Frag} {fr : Bool} : SR2 K (rMul' K) (gMul fr) := by
  intro WP H ρ sto x y v u Q S rx ry P
  unfold gMul at P
  split at P
  · rename_i i j
    cases rx; cases ry
    obtain ⟨hc, P⟩ := and_of (C := Post K WP H ρ (GV K Q)) P (fun z => z)
    exact .inl (.inl ⟨i, j, rfl, rfl, Nat.le_of_ble_eq_true hc, now S P rfl⟩)
  · rename_i xs k
    cases ry
    obtain ⟨hc, P⟩ := and_of (C := Post K WP H ρ (GV K Q)) P (fun z => z)
    simp only [Bool.and_eq_true] at hc
    obtain ⟨⟨⟨h1, h2⟩, h3⟩, h4⟩ := hc
    have h1 := Nat.le_of_ble_eq_true h1
    have h2 := Nat.le_of_ble_eq_true h2
    have h3 := Nat.le_of_ble_eq_true h3
    have h4 := Nat.le_of_ble_eq_true h4
    obtain ⟨a, as, rfl, ha, ra⟩ := getT_ok rx rfl
    refine .inl (.inr ⟨a, (k : Int), as, rfl, rfl, ha, fun e => ?_, by omega, by omega, by rw [← ra.length]; exact h3, fun p hp => ?_⟩)
    · subst e
      have := ra.length
      simp at this; subst this; simp at h4
    · exact tup_ok S (ra.flat k) P hp
  · rename_i k _ _
    cases ry
    cases e1 : getL sto x with
    | none => rw [e1] at P; exact P.elim
    | some xs =>
      rw [e1] at P
      obtain ⟨hc, P⟩ := and_of (C := Post K WP H ρ (GV K Q)) P (fun z => z)
      simp only [Bool.and_eq_true] at hc
      have h1 := Nat.le_of_ble_eq_true hc.1
      have h2 : k < 2 ^ 63 := Nat.le_of_ble_eq_true hc.2
      obtain ⟨a, as, rfl, ha, ra⟩ := getL_ok S rx e1
      exact .inr ⟨a, (k : Int), as, rfl, rfl, ha, by omega, by omega, by rw [← ra.length]; exact h1, fun p hp => fresh_ok S (ra.flat k) P hp⟩
  · exact P.elim
def gNeg : PV → Sto → R PV := fun x s => match x with
  | .int i => .ok (.int (-i)) s
  | _ => .bad
theorem g_neg {K : PySem.W.Frag} : SR1 K (rU fun i => .int (-i)) gNeg := by
  intro WP H ρ sto x v Q S rx P
  unfold gNeg at P
  split at P
  · cases rx
    exact ⟨_, rfl, now S P rfl⟩
  · exact P.elim

/-! ### comparisons -/
mutual
def toD (sto : Sto) : PV → Option PyData
  | .non => some .none
  | .bl b => some (.bool b)
  | .int i => some (.int i)
  | .str x => some (.str x)
  | .tup xs => (toDs sto xs).map .tuple
  | .lst xs => (toDs sto xs).map .list
  | .fro xs => (toDs sto xs).map .list
  | .box n => none
  | .ty _ => none
  | .obj _ => none
  | .fn _ => none
  | .cat _ _ _ _ => none
  | .exc _ _ _ => none
  | .rg _ _ => none
def toDs (sto : Sto) : List PV → Option (List PyData)
  | [] => some []
  | x :: xs => match toD sto x with
    | some d => match toDs sto xs with
      | some ds => some (d :: ds)
      | none => none
    | none => none
end
mutual
theorem toD_ok {K : PySem.W.Frag} {H : Hp} {ρ : Rh} {sto : Sto} : ∀ {x : PV} {v : V} {d : PyData}, RV K H ρ x v → toD sto x = some d → Dp K H v d
  | .non, _, _, r, h => by cases r; cases h; exact .non
  | .bl b, _, _, r, h => by cases r; cases h; exact .bl b
  | .int b, _, _, r, h => by cases r; cases h; exact .int b
  | .str b, _, _, r, h => by cases r; cases h; exact .str b
  | .tup xs, _, _, r, h => by
    obtain ⟨a, ys, rfl, h2, h3⟩ := r
    unfold toD at h
    cases e : toDs sto xs with
    | none => rw [e] at h; cases h
    | some ds => rw [e] at h; cases h; exact .tup h2.sq (toDs_ok h3 e)
  | .lst xs, _, _, r, h => by
    obtain ⟨a, ys, rfl, h2, h3⟩ := r
    unfold toD at h
    cases e : toDs sto xs with
    | none => rw [e] at h; cases h
    | some ds => rw [e] at h; cases h; exact .lst h2.sq (toDs_ok h3 e)
  | .fro xs, _, _, r, h => by
    obtain ⟨a, ys, rfl, h2, h3⟩ := r
    unfold toD at h
    cases e : toDs sto xs with
    | none => rw [e] at h; cases h
    | some ds => rw [e] at h; cases h; exact .lst h2.sq (toDs_ok h3 e)
  | .box _, _, _, _, h => by cases h
  | .ty _, _, _, _, h => by cases h
  | .obj _, _, _, _, h => by cases h
  | .fn _, _, _, _, h => by cases h
  | .cat _ _ _ _, _, _, _, h => by cases h
  | .exc _ _ _, _, _, _, h => by cases h
  | .rg _ _, _, _, _, h => by cases h
theorem toDs_ok {K : PySem.W.Frag} {H : Hp} {ρ : Rh} {sto : Sto} : ∀ {xs : List PV} {vs : List V} {ds : List PyData}, RVs K H ρ xs vs → toDs sto xs = some ds → DpAll K H vs ds
  | [], _, _, r, h => by cases r; cases h; exact .nil
  | x :: xs, _, _, r, h => by
    obtain ⟨v, ws, rfl, h2, h3⟩ := r
    unfold toDs at h
    cases e1 : toD sto x with
    | none => rw [e1] at h; cases h
    | some d =>
      cases e2 : toDs sto xs with
      | none => rw [e1, e2] at h; cases h
      | some ds => rw [e1, e2] at h; cases h; exact .cons (toD_ok h2 e1) (toDs_ok h3 e2)
end
def gEqD (f : Bool → Bool) : G2 := fun x y s => match toD s x, toD s y with
  | some d, some e => bif SeqAt.shaped d && SeqAt.shaped e then .ok (.bl (f (PyData.eqv d e))) s else .bad
  | _, _ => .bad
/-- == of flat values first -/
def gEq : G2 := fun x y s => match x, y with
  | .int i, .int j => .ok (.bl (decide (i = j))) s
  | .bl i, .bl j => .ok (.bl (decide (i = j))) s
  | .str i, .str j => .ok (.bl (decide (i = j))) s
  | .non, .non => .ok (.bl true) s
  | x, y => gEqD id x y s
def gNe : G2 := fun x y s => match x, y with
  | .int i, .int j => .ok (.bl (!decide (i = j))) s
  | .bl i, .bl j => .ok (.bl (!decide (i = j))) s
  | .str i, .str j => .ok (.bl (!decide (i = j))) s
  | .non, .non => .ok (.bl false) s
  | x, y => gEqD not x y s
theorem g_eqD {K : PySem.W.Frag} : SR2 K (rEqD K) (gEqD id) := by
  intro WP H ρ sto x y v u Q S rx ry P
  unfold gEqD at P
  split at P
  · rename_i d e h1 h2
    obtain ⟨hc, P⟩ := and_of (C := Post K WP H ρ (GV K Q)) P (fun z => z)
    rw [Bool.and_eq_true] at hc
    exact ⟨d, e, toD_ok rx h1, toD_ok ry h2, hc.1, hc.2, now S P rfl⟩
  · exact P.elim
theorem g_neD {K : PySem.W.Frag} : SR2 K (rNeD K) (gEqD not) := by
  intro WP H ρ sto x y v u Q S rx ry P
  unfold gEqD at P
  split at P
  · rename_i d e h1 h2
    obtain ⟨hc, P⟩ := and_of (C := Post K WP H ρ (GV K Q)) P (fun z => z)
    rw [Bool.and_eq_true] at hc
    exact ⟨d, e, toD_ok rx h1, toD_ok ry h2, hc.1, hc.2, now S P rfl⟩
  · exact P.elim
theorem vint {i j : Int} : decide (V.int i = V.int j) = decide (i = j) := by simp
theorem vbl {i j : Bool} : decide (V.bl i = V.bl j) = decide (i = j) := by simp
theorem vstr {i j : Str} : decide (V.str i = V.str j) = decide (i = j) := by simp
theorem g_eq {K : PySem.W.Frag} : SR2 K (fun x y H Q => rEq x y H Q ∨ rEqD K x y H Q) gEq := by
  intro WP H ρ sto x y v u Q S rx ry P
  unfold gEq at P
  split at P
  · cases rx; cases ry; exact .inl ⟨rfl, now S P (by rw [vint]; rfl)⟩
  · cases rx; cases ry; exact .inl ⟨rfl, now S P (by rw [vbl]; rfl)⟩
  · cases rx; cases ry; exact .inl ⟨rfl, now S P (by rw [vstr]; rfl)⟩
  · cases rx; cases ry; exact .inl ⟨rfl, now S P rfl⟩
  · exact .inr (g_eqD WP H ρ sto _ _ v u Q S rx ry P)
theorem g_ne {K : PySem.W.Frag} : SR2 K (fun x y H Q => rNe x y H Q ∨ rNeD K x y H Q) gNe := by
  intro WP H ρ sto x y v u Q S rx ry P
  unfold gNe at P
  split at P
  · cases rx; cases ry; exact .inl ⟨rfl, now S P (by rw [vint]; rfl)⟩
  · cases rx; cases ry; exact .inl ⟨rfl, now S P (by rw [vbl]; rfl)⟩
  · cases rx; cases ry; exact .inl ⟨rfl, now S P (by rw [vstr]; rfl)⟩
  · cases rx; cases ry; exact .inl ⟨rfl, now S P rfl⟩
  · exact .inr (g_neD WP H ρ sto _ _ v u Q S rx ry P)
theorem op_eq' {X : Cx} (hu : X.A.units + 64 < cLine) : OpR X (compareOp .Eq) (fun x y H Q => rEq x y H Q ∨ rEqD X.K x y H Q) := .or op_eq (op_eqD hu)
theorem op_ne' {X : Cx} (hu : X.A.units + 64 < cLine) : OpR X (compareOp .NotEq) (fun x y H Q => rNe x y H Q ∨ rNeD X.K x y H Q) := .or op_ne (op_neD hu)
def gLt : G2 := gI0 fun i j => .bl (decide (i < j))
def gLe : G2 := gI0 fun i j => .bl (decide (i ≤ j))
def gGt : G2 := gI0 fun i j => .bl (decide (j < i))
def gGe : G2 := gI0 fun i j => .bl (decide (j ≤ i))
def isNon : PV → Bool
  | .non => true
  | _ => false
theorem isNon_ok {K : PySem.W.Frag} {H : Hp} {ρ : Rh} : ∀ {x : PV} {v : V}, RV K H ρ x v → decide (v = .non) = isNon x
  | .non, _, r => by cases r; rfl
  | .bl _, _, r => by cases r; rfl
  | .int _, _, r => by cases r; rfl
  | .str _, _, r => by cases r; rfl
  | .ty _, _, r => by cases r; rfl
  | .obj _, _, r => by cases r; rfl
  | .fn _, _, r => by obtain ⟨_, _, _, _, rfl⟩ := r; rfl
  | .cat _ _ _ _, _, r => by obtain ⟨_, rfl, _⟩ := r; rfl
  | .box _, _, r => by obtain ⟨a, rfl, _⟩ := r; rfl
  | .tup _, _, r => by obtain ⟨a, _, rfl, _⟩ := r; rfl
  | .lst _, _, r => by obtain ⟨a, _, rfl, _⟩ := r; rfl
  | .fro _, _, r => by obtain ⟨a, _, rfl, _⟩ := r; rfl
  | .exc _ _ _, _, r => by obtain ⟨a, _, rfl, _⟩ := r; rfl
  | .rg _ _, _, r => by obtain ⟨a, rfl, _⟩ := r; rfl
def gIs (f : Bool → Bool) : G2 := fun x y s => match y with
  | .non => .ok (.bl (f (isNon x))) s
  | _ => .bad
theorem g_is {K : PySem.W.Frag} : SR2 K (fun x y H Q => y = .non ∧ Q (.bl (decide (x = .non))) H) (gIs id) := by
  intro WP H ρ sto x y v u Q S rx ry P
  unfold gIs at P
  split at P
  · cases ry; exact ⟨rfl, now S P (by rw [isNon_ok rx]; rfl)⟩
  · exact P.elim
theorem g_isnot {K : PySem.W.Frag} : SR2 K (fun x y H Q => y = .non ∧ Q (.bl (!decide (x = .non))) H) (gIs not) := by
  intro WP H ρ sto x y v u Q S rx ry P
  unfold gIs at P
  split at P
  · cases ry; exact ⟨rfl, now S P (by rw [isNon_ok rx]; rfl)⟩
  · exact P.elim
section
variable {X : Cx} {W : WK} {a b : Expr} {ma mb : M} {pos : Pos}
theorem e_add {fr : Bool} (ha : ME X W a ma) (hb : ME X W b mb) : ME X W (.BinOp a .Add b pos) (mBin (gAdd fr) ma mb) := e_op op_add' g_add ha hb
theorem e_sub (ha : ME X W a ma) (hb : ME X W b mb) : ME X W (.BinOp a .Sub b pos) (mBin gSub ma mb) := e_op op_sub (g_I0 fun _ _ _ _ => rfl) ha hb
theorem e_mul {fr : Bool} (ha : ME X W a ma) (hb : ME X W b mb) : ME X W (.BinOp a .Mult b pos) (mBin (gMul fr) ma mb) := e_op op_mul' g_mul ha hb
theorem e_div (ha : ME X W a ma) (hb : ME X W b mb) : ME X W (.BinOp a .FloorDiv b pos) (mBin gDiv ma mb) := e_op op_fdivZ (g_I cDiv_ok fun _ _ _ _ => rfl) ha hb
theorem e_mod (ha : ME X W a ma) (hb : ME X W b mb) : ME X W (.BinOp a .Mod b pos) (mBin gMod ma mb) := e_op op_mod (g_I cMod_ok fun _ _ _ _ => rfl) ha hb
theorem e_pow (ha : ME X W a ma) (hb : ME X W b mb) : ME X W (.BinOp a .Pow b pos) (mBin gPow ma mb) := e_op op_pow (g_I cPow_ok fun _ _ _ _ => rfl) ha hb
theorem e_neg (ha : ME X W a ma) : ME X W (.UnaryOp .USub a pos) (mUn gNeg ma) := e_un un_neg g_neg ha
theorem e_eq (hu : X.A.units + 64 < cLine) (ha : ME X W a ma) (hb : ME X W b mb) : ME X W (.Compare a [.Eq] [b] pos) (mBin gEq ma mb) := e_cmp (op_eq' hu) g_eq ha hb (nomark _)
theorem e_ne (hu : X.A.units + 64 < cLine) (ha : ME X W a ma) (hb : ME X W b mb) : ME X W (.Compare a [.NotEq] [b] pos) (mBin gNe ma mb) := e_cmp (op_ne' hu) g_ne ha hb (nomark _)
theorem e_lt (ha : ME X W a ma) (hb : ME X W b mb) : ME X W (.Compare a [.Lt] [b] pos) (mBin gLt ma mb) := e_cmp op_lt (g_I0 fun _ _ _ _ => rfl) ha hb (nomark _)
theorem e_le (ha : ME X W a ma) (hb : ME X W b mb) : ME X W (.Compare a [.LtE] [b] pos) (mBin gLe ma mb) := e_cmp op_le (g_I0 fun _ _ _ _ => rfl) ha hb (nomark _)
theorem e_gt (ha : ME X W a ma) (hb : ME X W b mb) : ME X W (.Compare a [.Gt] [b] pos) (mBin gGt ma mb) := e_cmp op_gt (g_I0 fun _ _ _ _ => rfl) ha hb (nomark _)
theorem e_ge (ha : ME X W a ma) (hb : ME X W b mb) : ME X W (.Compare a [.GtE] [b] pos) (mBin gGe ma mb) := e_cmp op_ge (g_I0 fun _ _ _ _ => rfl) ha hb (nomark _)
theorem e_is (ha : ME X W a ma) (hb : ME X W b mb) : ME X W (.Compare a [.Is] [b] pos) (mBin (gIs id) ma mb) := e_cmp op_isN g_is ha hb (nomark _)
theorem e_isnot (ha : ME X W a ma) (hb : ME X W b mb) : ME X W (.Compare a [.IsNot] [b] pos) (mBin (gIs not) ma mb) := e_cmp op_notN g_isnot ha hb (nomark _)
end
end Mi

noncomputable section
namespace Mi
open PySem PySem.Spec PyProof.Rows L2

/-! ### tests -/
def vB : PV → Sto → R Bool := fun v s => match v with
  | .bl b => .ok b s
  | _ => .bad
def mT (m : M) : MT := fun env s => (m env s).bind vB
def mAndT (a b : MT) : MT := fun env s => (a env s).bind fun c s1 => bif c then b env s1 else .ok false s1
def mOrT (a b : MT) : MT := fun env s => (a env s).bind fun c s1 => bif c then .ok true s1 else b env s1
def mNotT (a : MT) : MT := fun env s => (a env s).bind fun c s1 => .ok (!c) s1
def mIf (t : MT) (a b : M) : M := fun env s => (t env s).bind fun c s1 => bif c then a env s1 else b env s1
def mAnd (a b : M) : M := fun env s => (a env s).bind fun v s1 => match v with
  | .bl c => bif c then b env s1 else .ok (.bl false) s1
  | _ => .bad
def mOr (a b : M) : M := fun env s => (a env s).bind fun v s1 => match v with
  | .bl c => bif c then .ok (.bl true) s1 else b env s1
  | _ => .bad
def mNot (a : M) : M := fun env s => (a env s).bind fun v s1 => match v with
  | .bl c => .ok (.bl (!c)) s1
  | _ => .bad
def truB : Option Bx → Option Bool
  | some (.l xs) => some (!xs.isEmpty)
  | some (.d kvs) => some (!kvs.isEmpty)
  | _ => none
def tru (s : Sto) : PV → Option Bool
  | .non => some false
  | .bl b => some b
  | .int i => some (i != 0)
  | .tup xs => some (!xs.isEmpty)
  | .lst xs => some (!xs.isEmpty)
  | .fro xs => some (!xs.isEmpty)
  | .str x => bif Nat.ble x.length sizeLine then some ((x.length : Int) != 0) else none
  | .box n => truB s[n]?
  | _ => none
def mOrV (a b : M) : M := fun env s => (a env s).bind fun v s1 => match tru s1 v with
  | some c => bif c then .ok v s1 else b env s1
  | none => .bad
def mAndV (a b : M) : M := fun env s => (a env s).bind fun v s1 => match tru s1 v with
  | some c => bif c then b env s1 else .ok v s1
  | none => .bad
def mTru (m : M) : MT := fun env s => (m env s).bind fun v s1 => match tru s1 v with
  | some c => .ok c s1
  | none => .bad
section
variable {K : PySem.W.Frag} {W : WK} {H : Hp} {ρ : Rh} {sto : Sto}
theorem RVs.isEmpty {xs : List PV} {ys : List V} (r : RVs K H ρ xs ys) : xs.isEmpty = ys.isEmpty := by
  cases xs with
  | nil => cases r; rfl
  | cons x xs => obtain ⟨v, ws, rfl, _⟩ := r; rfl
theorem tru_ok' (S : RSt K H ρ sto) : ∀ {x : PV} {v : V} {c : Bool}, RV K H ρ x v → tru sto x = some c → TruV K v H c
  | .non, _, _, r, h => by cases r; cases h; exact rfl
  | .bl _, _, _, r, h => by cases r; cases h; exact rfl
  | .int _, _, _, r, h => by cases r; cases h; exact rfl
  | .tup xs, _, _, r, h => by
    obtain ⟨a, ys, rfl, h2, h3⟩ := r
    cases h
    exact .inr (.inl ⟨ys, h2.sq, by rw [h3.isEmpty]⟩)
  | .lst xs, _, _, r, h => by
    obtain ⟨a, ys, rfl, h2, h3⟩ := r
    cases h
    exact .inl ⟨ys, h2.sq, by rw [h3.isEmpty]⟩
  | .fro xs, _, _, r, h => by
    obtain ⟨a, ys, rfl, h2, h3⟩ := r
    cases h
    exact .inl ⟨ys, h2.sq, by rw [h3.isEmpty]⟩
  | .str x, _, c, r, h => by
    cases r
    have h : (bif Nat.ble x.length sizeLine then some ((x.length : Int) != 0) else none) = some c := h
    cases q : Nat.ble x.length sizeLine with
    | false => rw [q] at h; cases h
    | true => rw [q] at h; cases h; exact ⟨Nat.le_of_ble_eq_true q, rfl⟩
  | .box n, _, c, r, h => by
    obtain ⟨a, rfl, h2⟩ := r
    have h : truB sto[n]? = some c := h
    cases e : sto[n]? with
    | none => rw [e] at h; cases h
    | some b =>
      rw [e] at h
      have h1 := S.at_ n a b h2 e
      cases b with
      | l xs =>
        cases h
        obtain ⟨ys, h3, h4⟩ := h1
        exact .inl ⟨ys, .of h3, by show (!xs.isEmpty) = _; rw [h4.isEmpty]⟩
      | d kvs =>
        cases h
        obtain ⟨yvs, h3, h5, h4⟩ := h1
        refine .inr (.inr ⟨_, h3, ?_⟩)
        cases kvs <;> cases yvs <;> first | rfl | cases h5
      | e _ => cases h
      | i _ _ => cases h
      | y _ => cases h
      | z _ => cases h
theorem st_test {t : TE} {m : M} (h : SE K W t m) : ST K W (fun σ H Q => t σ H fun x H' => ∃ k, x = .bl k ∧ Q k H') (mT m) := by
  intro σ H ρ env sto Q hE hS hP
  refine h σ H ρ env sto _ hE hS ((hP.bind hS).imp fun v s1 H1 ρ1 x1 S1 P1 y hy => ?_)
  unfold vB at P1
  split at P1
  · cases hy
    exact ⟨_, rfl, P1 H1 ρ1 .refl S1⟩
  · exact P1.elim
end
section
variable {X : Cx} {W : WK} {a b c e : Expr} {rest : List Expr} {m ma mb : M} {pos : Pos} {ta tb tc : MT}
def MW (X : Cx) (W : WK) (e : Expr) (m : MT) : Prop := ∃ t, PW X e t ∧ ST X.K W t m
theorem MW.t (h : MW X W e tc) : MTe X W e tc := let ⟨t, p, s⟩ := h; ⟨t, p.pt, s⟩
theorem t_cmp {op : CmpOp} {r : R2} {g : G2} (ho : OpR X (compareOp op) r) (hg : SR2 X.K r g) (ha : ME X W a ma) (hb : ME X W b mb) (hm : behindInMarks op b = false) : MTe X W (.Compare a [op] [b] pos) (mT (mBin g ma mb)) := by
  obtain ⟨ta, pa, sa⟩ := ha
  obtain ⟨tb, pb, sb⟩ := hb
  exact ⟨_, pt_cmpR ho pa pb hm, st_test (se_bin sa sb hg)⟩
theorem t_val (h : ME X W e m) (he : ∀ whole, isTrue e X.env whole = (do let v ← whole; standAt e.pos; holding [v] (truthy v)) := by intro _; rfl) : MTe X W e (mT m) := by
  obtain ⟨t, p, s⟩ := h
  exact ⟨_, pt_val p he, st_test s⟩
theorem t_tru (h : ME X W e m) (he : ∀ whole, isTrue e X.env whole = (do let v ← whole; standAt e.pos; holding [v] (truthy v)) := by intro _; rfl) : MTe X W e (mTru m) := by
  obtain ⟨t, p, s⟩ := h
  refine ⟨_, pt_truth p he, fun σ H ρ env sto Q hE hS hP => ?_⟩
  refine s σ H ρ env sto _ hE hS ((hP.bind hS).imp fun v s1 H1 ρ1 x1 S1 P1 y hy => ?_)
  cases q : tru s1 v with
  | none => rw [q] at P1; exact P1.elim
  | some c => rw [q] at P1; exact ⟨c, tru_ok' S1 hy q, P1 H1 ρ1 .refl S1⟩
theorem t_eq (hu : X.A.units + 64 < cLine) (ha : ME X W a ma) (hb : ME X W b mb) : MTe X W (.Compare a [.Eq] [b] pos) (mT (mBin gEq ma mb)) := t_cmp (op_eq' hu) g_eq ha hb (nomark _)
theorem t_ne (hu : X.A.units + 64 < cLine) (ha : ME X W a ma) (hb : ME X W b mb) : MTe X W (.Compare a [.NotEq] [b] pos) (mT (mBin gNe ma mb)) := t_cmp (op_ne' hu) g_ne ha hb (nomark _)
theorem t_lt (ha : ME X W a ma) (hb : ME X W b mb) : MTe X W (.Compare a [.Lt] [b] pos) (mT (mBin gLt ma mb)) := t_cmp op_lt (g_I0 fun _ _ _ _ => rfl) ha hb (nomark _)
theorem t_le (ha : ME X W a ma) (hb : ME X W b mb) : MTe X W (.Compare a [.LtE] [b] pos) (mT (mBin gLe ma mb)) := t_cmp op_le (g_I0 fun _ _ _ _ => rfl) ha hb (nomark _)
theorem t_gt (ha : ME X W a ma) (hb : ME X W b mb) : MTe X W (.Compare a [.Gt] [b] pos) (mT (mBin gGt ma mb)) := t_cmp op_gt (g_I0 fun _ _ _ _ => rfl) ha hb (nomark _)
theorem t_ge (ha : ME X W a ma) (hb : ME X W b mb) : MTe X W (.Compare a [.GtE] [b] pos) (mT (mBin gGe ma mb)) := t_cmp op_ge (g_I0 fun _ _ _ _ => rfl) ha hb (nomark _)
theorem t_is (ha : ME X W a ma) (hb : ME X W b mb) : MTe X W (.Compare a [.Is] [b] pos) (mT (mBin (gIs id) ma mb)) := t_cmp op_isN g_is ha hb (nomark _)
theorem t_isnot (ha : ME X W a ma) (hb : ME X W b mb) : MTe X W (.Compare a [.IsNot] [b] pos) (mT (mBin (gIs not) ma mb)) := t_cmp op_notN g_isnot ha hb (nomark _)
theorem w_and1 (h : MTe X W a ta) : MW X W (.BoolOp .And [a] pos) ta := let ⟨t, p, s⟩ := h; ⟨t, pw_and1 p, s⟩
theorem w_or1 (h : MTe X W a ta) : MW X W (.BoolOp .Or [a] pos) ta := let ⟨t, p, s⟩ := h; ⟨t, pw_or1 p, s⟩
theorem w_and (ha : MTe X W a ta) (hb : MW X W (.BoolOp .And (b :: rest) pos) tb) : MW X W (.BoolOp .And (a :: b :: rest) pos) (mAndT ta tb) := by
  obtain ⟨t, p, s⟩ := ha
  obtain ⟨u, q, r⟩ := hb
  refine ⟨_, pw_and p q, fun σ H ρ env sto Q hE hS hP => ?_⟩
  refine s σ H ρ env sto _ hE hS ((hP.bind hS).imp fun c s1 H1 ρ1 x1 S1 P1 => ?_)
  cases c with
  | true => exact r σ H1 ρ1 env s1 Q (hE.mono x1.toExtW) S1 P1
  | false => exact P1 H1 ρ1 .refl S1
theorem w_or (ha : MTe X W a ta) (hb : MW X W (.BoolOp .Or (b :: rest) pos) tb) : MW X W (.BoolOp .Or (a :: b :: rest) pos) (mOrT ta tb) := by
  obtain ⟨t, p, s⟩ := ha
  obtain ⟨u, q, r⟩ := hb
  refine ⟨_, pw_or p q, fun σ H ρ env sto Q hE hS hP => ?_⟩
  refine s σ H ρ env sto _ hE hS ((hP.bind hS).imp fun c s1 H1 ρ1 x1 S1 P1 => ?_)
  cases c with
  | false => exact r σ H1 ρ1 env s1 Q (hE.mono x1.toExtW) S1 P1
  | true => exact P1 H1 ρ1 .refl S1
theorem t_not (ha : MTe X W a ta) : MTe X W (.UnaryOp .Not a pos) (mNotT ta) := by
  obtain ⟨t, p, s⟩ := ha
  refine ⟨_, pt_not p, fun σ H ρ env sto Q hE hS hP => ?_⟩
  exact s σ H ρ env sto _ hE hS ((hP.bind hS).imp fun c s1 H1 ρ1 x1 S1 P1 => P1 H1 ρ1 .refl S1)
theorem e_ifx (hc : MTe X W c tc) (ha : ME X W a ma) (hb : ME X W b mb) : ME X W (.IfExp c a b pos) (mIf tc ma mb) := by
  obtain ⟨t, p, s⟩ := hc
  obtain ⟨ua, qa, ra⟩ := ha
  obtain ⟨ub, qb, rb⟩ := hb
  refine ⟨_, pe_ifExp p qa qb, fun σ H ρ env sto Q hE hS hP => ?_⟩
  refine s σ H ρ env sto _ hE hS ((hP.bind hS).imp fun c s1 H1 ρ1 x1 S1 P1 => ?_)
  cases c with
  | true => exact ra σ H1 ρ1 env s1 Q (hE.mono x1.toExtW) S1 P1
  | false => exact rb σ H1 ρ1 env s1 Q (hE.mono x1.toExtW) S1 P1
theorem e_one {op} (h : ME X W a ma) : ME X W (.BoolOp op [a] pos) ma := let ⟨t, p, s⟩ := h; ⟨t, pe_one p, s⟩
theorem e_and (ha : ME X W a ma) (hb : ME X W (.BoolOp .And (b :: rest) pos) mb) : ME X W (.BoolOp .And (a :: b :: rest) pos) (mAnd ma mb) := by
  obtain ⟨t, p, s⟩ := ha
  obtain ⟨u, q, r⟩ := hb
  refine ⟨_, pe_and p q, fun σ H ρ env sto Q hE hS hP => ?_⟩
  refine s σ H ρ env sto _ hE hS ((hP.bind hS).imp fun v s1 H1 ρ1 x1 S1 P1 y hy => ?_)
  split at P1
  · rename_i c
    cases hy
    refine ⟨c, rfl, ?_⟩
    cases c with
    | true => exact r σ H1 ρ1 env s1 Q (hE.mono x1.toExtW) S1 P1
    | false => exact P1 H1 ρ1 .refl S1 _ rfl
  · exact P1.elim
theorem e_or (ha : ME X W a ma) (hb : ME X W (.BoolOp .Or (b :: rest) pos) mb) : ME X W (.BoolOp .Or (a :: b :: rest) pos) (mOr ma mb) := by
  obtain ⟨t, p, s⟩ := ha
  obtain ⟨u, q, r⟩ := hb
  refine ⟨_, pe_or p q, fun σ H ρ env sto Q hE hS hP => ?_⟩
  refine s σ H ρ env sto _ hE hS ((hP.bind hS).imp fun v s1 H1 ρ1 x1 S1 P1 y hy => ?_)
  split at P1
  · rename_i c
    cases hy
    refine ⟨c, rfl, ?_⟩
    cases c with
    | false => exact r σ H1 ρ1 env s1 Q (hE.mono x1.toExtW) S1 P1
    | true => exact P1 H1 ρ1 .refl S1 _ rfl
  · exact P1.elim
theorem e_not (ha : ME X W a ma) : ME X W (.UnaryOp .Not a pos) (mNot ma) := by
  obtain ⟨t, p, s⟩ := ha
  refine ⟨_, pe_not p, fun σ H ρ env sto Q hE hS hP => ?_⟩
  refine s σ H ρ env sto _ hE hS ((hP.bind hS).imp fun v s1 H1 ρ1 x1 S1 P1 y hy => ?_)
  split at P1
  · cases hy
    exact ⟨_, rfl, P1 H1 ρ1 .refl S1 _ rfl⟩
  · exact P1.elim
theorem e_orV (ha : ME X W a ma) (hb : ME X W (.BoolOp .Or (b :: rest) pos) mb) : ME X W (.BoolOp .Or (a :: b :: rest) pos) (mOrV ma mb) := by
  obtain ⟨t, p, s⟩ := ha
  obtain ⟨u, q, r⟩ := hb
  refine ⟨_, pe_orT p q, fun σ H ρ env sto Q hE hS hP => ?_⟩
  refine s σ H ρ env sto _ hE hS ((hP.bind hS).imp fun v s1 H1 ρ1 x1 S1 P1 y hy => ?_)
  cases k : tru s1 v with
  | none => rw [k] at P1; exact P1.elim
  | some c =>
    rw [k] at P1
    refine ⟨c, tru_ok' S1 hy k, ?_⟩
    cases c with
    | false => exact r σ H1 ρ1 env s1 Q (hE.mono x1.toExtW) S1 P1
    | true => exact P1 H1 ρ1 .refl S1 _ hy

/-! ### calls of built-ins -/
abbrev GC := List PV → Sto → R PV
def mCall (g : GC) (ms : MA) : M := fun env s => (ms env s).bind g
def SRc (K : PySem.W.Frag) (r : List V → Hp → VK → Prop) (g : GC) : Prop := ∀ (WP : XK) (H : Hp) (ρ : Rh) (sto : Sto) (xs : List PV) (vs : List V) (Q : VK),
  RSt K H ρ sto → RVs K H ρ xs vs → Post K WP H ρ (GV K Q) (g xs sto) → r vs H Q
theorem se_call {r : List V → Hp → VK → Prop} {g : GC} {ms : MA} {t : TA} (s : SA X.K W t ms) (hg : SRc X.K r g) : SE X.K W (tCB r t) (mCall g ms) := by
  intro σ H ρ env sto Q hE hS hP
  exact s σ H ρ env sto _ hE hS ((hP.bind hS).imp fun v s1 H1 ρ1 x1 S1 P1 y hy => hg _ H1 ρ1 s1 v y Q S1 hy P1)
variable {x : Str} {id T : String} {p : Pos} {es : List Expr} {r : List V → Hp → VK → Prop} {g : GC} {ms : MA}
theorem e_callB (hc : CallR X (.builtin id) r) (hg : SRc X.K r g) (gl : Gl X x) (hm : X.mg x = none) (hv : bootBuiltins x = some (.builtin id)) (ha : MEs X W (e :: es) ms) (hn : x ≠ "__name__" := by decide) (hdb : (x == ("__debug__" : Str)) = false := by decide)
    (he : starEach (e :: es) X.env = (false, eval e X.env) :: starEach es X.env := by rfl) (hpl : (backTo pos (starEach es X.env)).any (·.1) = false := by rfl) : ME X W (.Call (.Name x p) (e :: es) [] pos) (mCall g ms) := by
  obtain ⟨t, q, s⟩ := ha
  exact ⟨_, pe_callB hc gl hm hv q hn hdb he hpl, se_call s hg⟩
theorem e_callTy (hc : CallR X (.type T) r) (hg : SRc X.K r g) (gl : Gl X x) (hm : X.mg x = none) (hv : bootBuiltins x = some (.type T)) (ha : MEs X W (e :: es) ms) (hn : x ≠ "__name__" := by decide) (hdb : (x == ("__debug__" : Str)) = false := by decide)
    (he : starEach (e :: es) X.env = (false, eval e X.env) :: starEach es X.env := by rfl) (hpl : (backTo pos (starEach es X.env)).any (·.1) = false := by rfl) : ME X W (.Call (.Name x p) (e :: es) [] pos) (mCall g ms) := by
  obtain ⟨t, q, s⟩ := ha
  exact ⟨_, pe_callTy hc gl hm hv q hn hdb he hpl, se_call s hg⟩
theorem e_callBf (hc : CallR X (.builtin id) r) (hg : SRc X.K r g) (gl : Gl X x) (hm : X.mg x = some (.builtin id)) (ha : MEs X W (e :: es) ms) (hdb : (x == ("__debug__" : Str)) = false := by decide)
    (he : starEach (e :: es) X.env = (false, eval e X.env) :: starEach es X.env := by rfl) (hpl : (backTo pos (starEach es X.env)).any (·.1) = false := by rfl) : ME X W (.Call (.Name x p) (e :: es) [] pos) (mCall g ms) := by
  obtain ⟨t, q, s⟩ := ha
  exact ⟨_, pe_callBfun hc gl hm q hdb he hpl, se_call s hg⟩
end
def gLen : GC := fun xs s => match xs with
  | [x] => match getQ s x with
    | some ys => .ok (.int ys.length) s
    | none => .bad
  | _ => .bad
def gAbs : GC := fun xs s => match xs with
  | [.int i] => .ok (.int (if i < 0 then -i else i)) s
  | _ => .bad
def gInt : GC := fun xs s => match xs with
  | [.int i] => .ok (.int i) s
  | [.bl b] => .ok (.int (if b then 1 else 0)) s
  | _ => .bad
def gList (fr : Bool) : GC := fun xs s => match xs with
  | [x] => match getQ s x with
    | some ys => fresh fr ys s
    | none => .bad
  | _ => .bad
def gTuple : GC := fun xs s => match xs with
  | [.tup ys] => .ok (.tup ys) s
  | [x] => match getF s x with
    | some ys => .ok (.tup ys) s
    | none => .bad
  | _ => .bad
def gGcd : GC := fun xs s => match xs with
  | [.int a, .int b] => .ok (.int ((Nat.gcd a.natAbs b.natAbs : Nat) : Int)) s
  | _ => .bad
def intsOf : List PV → Option (List Int)
  | [] => some []
  | .int i :: r => match intsOf r with
    | some is => some (i :: is)
    | none => none
  | _ => none
def boolsOf : List PV → Option (List Bool)
  | [] => some []
  | .bl i :: r => match boolsOf r with
    | some is => some (i :: is)
    | none => none
  | _ => none
section
variable {K : PySem.W.Frag} {H : Hp} {ρ : Rh} {sto : Sto}
theorem RVs.one {x : PV} {vs : List V} (r : RVs K H ρ [x] vs) : ∃ v, vs = [v] ∧ RV K H ρ x v := by
  obtain ⟨v, ws, rfl, h, t⟩ := r
  cases t
  exact ⟨v, rfl, h⟩
theorem RVs.two {x y : PV} {vs : List V} (r : RVs K H ρ [x, y] vs) : ∃ v u, vs = [v, u] ∧ RV K H ρ x v ∧ RV K H ρ y u := by
  obtain ⟨v, ws, rfl, h, t⟩ := r
  obtain ⟨u, rfl, h2⟩ := RVs.one t
  exact ⟨v, u, rfl, h, h2⟩
theorem intsOf_ok : ∀ (xs : List PV) {vs : List V} {is : List Int}, RVs K H ρ xs vs → intsOf xs = some is → vs = is.map V.int
  | [], _, _, r, h => by cases r; cases h; rfl
  | x :: xs, vs, is, r, h => by
    obtain ⟨v, ws, rfl, h2, h3⟩ := r
    cases x with
    | int i =>
      have h : (match intsOf xs with | some is => some (i :: is) | none => none) = some is := h
      cases e : intsOf xs with
      | none => rw [e] at h; cases h
      | some js => rw [e] at h; cases h; rw [intsOf_ok xs h3 e]; cases h2; rfl
    | _ => exact nomatch (show (none : Option (List Int)) = some is from h)
theorem boolsOf_ok : ∀ (xs : List PV) {vs : List V} {is : List Bool}, RVs K H ρ xs vs → boolsOf xs = some is → vs = is.map V.bl
  | [], _, _, r, h => by cases r; cases h; rfl
  | x :: xs, vs, is, r, h => by
    obtain ⟨v, ws, rfl, h2, h3⟩ := r
    cases x with
    | bl i =>
      have h : (match boolsOf xs with | some is => some (i :: is) | none => none) = some is := h
      cases e : boolsOf xs with
      | none => rw [e] at h; cases h
      | some js => rw [e] at h; cases h; rw [boolsOf_ok xs h3 e]; cases h2; rfl
    | _ => exact nomatch (show (none : Option (List Bool)) = some is from h)
theorem g_len : SRc K (fun xs H Q => ∃ p ys, xs = [.ref p] ∧ (SqL K H p ys ∨ SqT K H p ys) ∧ Q (.int ys.length) H) gLen := by
  intro WP H ρ sto xs vs Q S r P
  unfold gLen at P
  split at P
  · obtain ⟨v, rfl, rv⟩ := r.one
    split at P
    · rename_i ys e
      obtain ⟨a, zs, rfl, h1, h2⟩ := getQ_ok S rv e
      exact ⟨a, zs, rfl, h1, by rw [← h2.length]; exact now S P rfl⟩
    · exact P.elim
  · exact P.elim
theorem g_abs : SRc K (fun xs H Q => ∃ i, xs = [.int i] ∧ Q (.int (if i < 0 then -i else i)) H) gAbs := by
  intro WP H ρ sto xs vs Q S r P
  unfold gAbs at P
  split at P
  · obtain ⟨v, rfl, rv⟩ := r.one
    cases rv
    exact ⟨_, rfl, now S P rfl⟩
  · exact P.elim
theorem g_int : SRc K (fun xs H Q => (∃ i, xs = [.int i] ∧ Q (.int i) H) ∨ ∃ k, xs = [.bl k] ∧ Q (.int (if k then 1 else 0)) H) gInt := by
  intro WP H ρ sto xs vs Q S r P
  unfold gInt at P
  split at P
  · obtain ⟨v, rfl, rv⟩ := r.one
    cases rv
    exact .inl ⟨_, rfl, now S P rfl⟩
  · obtain ⟨v, rfl, rv⟩ := r.one
    cases rv
    exact .inr ⟨_, rfl, now S P rfl⟩
  · exact P.elim
theorem g_list {fr : Bool} : SRc K (fun xs H Q => ∃ p ys, xs = [.ref p] ∧ (SqL K H p ys ∨ SqT K H p ys) ∧ ∀ l, H l = none → Q (.ref l) (upd H l (.lst ys))) (gList fr) := by
  intro WP H ρ sto xs vs Q S r P
  unfold gList at P
  split at P
  · obtain ⟨v, rfl, rv⟩ := r.one
    split at P
    · rename_i ys e
      obtain ⟨a, zs, rfl, h1, h2⟩ := getQ_ok S rv e
      exact ⟨a, zs, rfl, h1, fun l hl => fresh_ok S h2 P hl⟩
    · exact P.elim
  · exact P.elim
theorem g_tuple : SRc K (fun xs H Q => ∃ p ys, xs = [.ref p] ∧ ((SqL K H p ys ∧ ∀ l, H l = none → Q (.ref l) (upd H l (.tup ys))) ∨ (SqT K H p ys ∧ Q (.ref p) H))) gTuple := by
  intro WP H ρ sto xs vs Q S r P
  unfold gTuple at P
  split at P
  · obtain ⟨v, rfl, rv⟩ := r.one
    obtain ⟨a, zs, rfl, h1, h2⟩ := getT_ok rv rfl
    exact ⟨a, zs, rfl, .inr ⟨h1, now S P rv⟩⟩
  · obtain ⟨v, rfl, rv⟩ := r.one
    split at P
    · rename_i ys e
      obtain ⟨a, zs, rfl, h1, h2⟩ := getF_ok S rv e
      exact ⟨a, zs, rfl, .inl ⟨h1, fun l hl => tup_ok S h2 P hl⟩⟩
    · exact P.elim
  · exact P.elim
theorem g_gcd : SRc K rGcd gGcd := by
  intro WP H ρ sto xs vs Q S r P
  unfold gGcd at P
  split at P
  · obtain ⟨v, u, rfl, h1, h2⟩ := r.two
    cases h1; cases h2
    exact ⟨_, _, rfl, now S P rfl⟩
  · exact P.elim
end
def gSum : GC := fun xs s => match xs with
  | [x] => match getF s x with
    | some ys => match intsOf ys with
      | some is => .ok (.int is.sum) s
      | none => .bad
    | none => .bad
  | _ => .bad
def gAll : GC := fun xs s => match xs with
  | [x] => match getF s x with
    | some ys => match boolsOf ys with
      | some is => .ok (.bl (is.all id)) s
      | none => .bad
    | none => .bad
  | _ => .bad
def gAny : GC := fun xs s => match xs with
  | [x] => match getF s x with
    | some ys => match boolsOf ys with
      | some is => .ok (.bl (is.any id)) s
      | none => .bad
    | none => .bad
  | _ => .bad
def imax : Int → List Int → Int
  | m, [] => m
  | m, x :: r => imax (if m < x then x else m) r
def imin : Int → List Int → Int
  | m, [] => m
  | m, x :: r => imin (if x < m then x else m) r
theorem imax_ok : ∀ (r : List Int) (m : Int), (imax m r = m ∨ imax m r ∈ r) ∧ m ≤ imax m r ∧ ∀ y ∈ r, y ≤ imax m r
  | [], m => ⟨.inl rfl, Int.le_refl m, fun _ h => by cases h⟩
  | x :: r, m => by
    obtain ⟨h1, h2, h3⟩ := imax_ok r (if m < x then x else m)
    unfold imax
    by_cases q : m < x
    · rw [if_pos q] at h1 h2 h3 ⊢
      refine ⟨.inr ?_, by omega, fun y hy => ?_⟩
      · rcases h1 with e | e
        · rw [e]; exact List.mem_cons_self
        · exact List.mem_cons_of_mem _ e
      · rcases List.mem_cons.mp hy with rfl | hy
        · exact h2
        · exact h3 y hy
    · rw [if_neg q] at h1 h2 h3 ⊢
      refine ⟨?_, h2, fun y hy => ?_⟩
      · rcases h1 with e | e
        · exact .inl e
        · exact .inr (List.mem_cons_of_mem _ e)
      · rcases List.mem_cons.mp hy with rfl | hy
        · omega
        · exact h3 y hy
theorem imin_ok : ∀ (r : List Int) (m : Int), (imin m r = m ∨ imin m r ∈ r) ∧ imin m r ≤ m ∧ ∀ y ∈ r, imin m r ≤ y
  | [], m => ⟨.inl rfl, Int.le_refl m, fun _ h => by cases h⟩
  | x :: r, m => by
    obtain ⟨h1, h2, h3⟩ := imin_ok r (if x < m then x else m)
    unfold imin
    by_cases q : x < m
    · rw [if_pos q] at h1 h2 h3 ⊢
      refine ⟨.inr ?_, by omega, fun y hy => ?_⟩
      · rcases h1 with e | e
        · rw [e]; exact List.mem_cons_self
        · exact List.mem_cons_of_mem _ e
      · rcases List.mem_cons.mp hy with rfl | hy
        · exact h2
        · exact h3 y hy
    · rw [if_neg q] at h1 h2 h3 ⊢
      refine ⟨?_, h2, fun y hy => ?_⟩
      · rcases h1 with e | e
        · exact .inl e
        · exact .inr (List.mem_cons_of_mem _ e)
      · rcases List.mem_cons.mp hy with rfl | hy
        · omega
        · exact h3 y hy
def gMax : GC := fun xs s => match xs with
  | [.int i, .int j] => .ok (.int (if j > i then j else i)) s
  | [x] => match getF s x with
    | some ys => match intsOf ys with
      | some (i :: is) => .ok (.int (imax i is)) s
      | _ => .bad
    | none => .bad
  | _ => .bad
def gMin : GC := fun xs s => match xs with
  | [.int i, .int j] => .ok (.int (if j < i then j else i)) s
  | [x] => match getF s x with
    | some ys => match intsOf ys with
      | some (i :: is) => .ok (.int (imin i is)) s
      | _ => .bad
    | none => .bad
  | _ => .bad
theorem CallR.or {X : Cx} {f : Value} {r r' : List V → Hp → VK → Prop} (h : CallR X f r) (h' : CallR X f r') : CallR X f (fun vs H Q => r vs H Q ∨ r' vs H Q) := by
  intro pins s σ H xs us Q I rv q
  rcases q with q | q
  · exact h pins s σ H xs us Q I rv q
  · exact h' pins s σ H xs us Q I rv q
section
variable {K : PySem.W.Frag}
theorem g_sum : SRc K (rSum K) gSum := by
  intro WP H ρ sto xs vs Q S r P
  unfold gSum at P
  split at P
  · obtain ⟨v, rfl, rv⟩ := r.one
    split at P
    · rename_i ys e
      obtain ⟨a, zs, rfl, h1, h2⟩ := getF_ok S rv e
      split at P
      · rename_i is e2
        exact ⟨a, is, rfl, by rw [← intsOf_ok _ h2 e2]; exact h1, now S P rfl⟩
      · exact P.elim
    · exact P.elim
  · exact P.elim
theorem g_all : SRc K (rAll K) gAll := by
  intro WP H ρ sto xs vs Q S r P
  unfold gAll at P
  split at P
  · obtain ⟨v, rfl, rv⟩ := r.one
    split at P
    · rename_i ys e
      obtain ⟨a, zs, rfl, h1, h2⟩ := getF_ok S rv e
      split at P
      · rename_i is e2
        exact ⟨a, is, rfl, by rw [← boolsOf_ok _ h2 e2]; exact h1, now S P rfl⟩
      · exact P.elim
    · exact P.elim
  · exact P.elim
theorem g_any : SRc K (rAny K) gAny := by
  intro WP H ρ sto xs vs Q S r P
  unfold gAny at P
  split at P
  · obtain ⟨v, rfl, rv⟩ := r.one
    split at P
    · rename_i ys e
      obtain ⟨a, zs, rfl, h1, h2⟩ := getF_ok S rv e
      split at P
      · rename_i is e2
        exact ⟨a, is, rfl, by rw [← boolsOf_ok _ h2 e2]; exact h1, now S P rfl⟩
      · exact P.elim
    · exact P.elim
  · exact P.elim
theorem g_max : SRc K (fun xs H Q => (∃ i j, xs = [.int i, .int j] ∧ Q (.int (if j > i then j else i)) H) ∨ rMax K xs H Q) gMax := by
  intro WP H ρ sto xs vs Q S r P
  unfold gMax at P
  split at P
  · obtain ⟨v, u, rfl, h1, h2⟩ := r.two
    cases h1; cases h2
    exact .inl ⟨_, _, rfl, now S P rfl⟩
  · obtain ⟨v, rfl, rv⟩ := r.one
    split at P
    · rename_i ys e
      obtain ⟨a, zs, rfl, h1, h2⟩ := getF_ok S rv e
      split at P
      · rename_i i is e2
        refine .inr ⟨a, i :: is, rfl, by rw [← intsOf_ok _ h2 e2]; exact h1, by simp, fun m hm hy => ?_⟩
        obtain ⟨k1, k2, k3⟩ := imax_ok is i
        have : m = imax i is := by
          have a1 : imax i is ≤ m := by
            rcases k1 with k | k
            · rw [k]; exact hy i List.mem_cons_self
            · exact hy _ (List.mem_cons_of_mem _ k)
          have a2 : m ≤ imax i is := by
            rcases List.mem_cons.mp hm with rfl | hm
            · exact k2
            · exact k3 m hm
          omega
        rw [this]
        exact now S P rfl
      · exact P.elim
    · exact P.elim
  · exact P.elim
theorem g_min : SRc K (fun xs H Q => (∃ i j, xs = [.int i, .int j] ∧ Q (.int (if j < i then j else i)) H) ∨ rMin K xs H Q) gMin := by
  intro WP H ρ sto xs vs Q S r P
  unfold gMin at P
  split at P
  · obtain ⟨v, u, rfl, h1, h2⟩ := r.two
    cases h1; cases h2
    exact .inl ⟨_, _, rfl, now S P rfl⟩
  · obtain ⟨v, rfl, rv⟩ := r.one
    split at P
    · rename_i ys e
      obtain ⟨a, zs, rfl, h1, h2⟩ := getF_ok S rv e
      split at P
      · rename_i i is e2
        refine .inr ⟨a, i :: is, rfl, by rw [← intsOf_ok _ h2 e2]; exact h1, by simp, fun m hm hy => ?_⟩
        obtain ⟨k1, k2, k3⟩ := imin_ok is i
        have : m = imin i is := by
          have a1 : m ≤ imin i is := by
            rcases k1 with k | k
            · rw [k]; exact hy i List.mem_cons_self
            · exact hy _ (List.mem_cons_of_mem _ k)
          have a2 : imin i is ≤ m := by
            rcases List.mem_cons.mp hm with rfl | hm
            · exact k2
            · exact k3 m hm
          omega
        rw [this]
        exact now S P rfl
      · exact P.elim
    · exact P.elim
  · exact P.elim
end
section
variable {X : Cx} {W : WK} {a b c e : Expr} {pos : Pos} {p : Pos} {es : List Expr} {ms : MA}
theorem e_len (gl : Gl X "len") (hm : X.mg "len" = none) (ha : MEs X W (e :: es) ms) (he : starEach (e :: es) X.env = (false, eval e X.env) :: starEach es X.env := by rfl) (hpl : (backTo pos (starEach es X.env)).any (·.1) = false := by rfl) :
    ME X W (.Call (.Name "len" p) (e :: es) [] pos) (mCall gLen ms) := e_callB call_len_seq g_len gl hm PySem.boot_len ha (by decide) (by decide) he hpl
theorem e_abs (gl : Gl X "abs") (hm : X.mg "abs" = none) (ha : MEs X W (e :: es) ms) (he : starEach (e :: es) X.env = (false, eval e X.env) :: starEach es X.env := by rfl) (hpl : (backTo pos (starEach es X.env)).any (·.1) = false := by rfl) :
    ME X W (.Call (.Name "abs" p) (e :: es) [] pos) (mCall gAbs ms) := e_callB call_abs g_abs gl hm (by decide +kernel) ha (by decide) (by decide) he hpl
theorem e_sum (hc : X.calm = true) (gl : Gl X "sum") (hm : X.mg "sum" = none) (ha : MEs X W (e :: es) ms) (he : starEach (e :: es) X.env = (false, eval e X.env) :: starEach es X.env := by rfl) (hpl : (backTo pos (starEach es X.env)).any (·.1) = false := by rfl) :
    ME X W (.Call (.Name "sum" p) (e :: es) [] pos) (mCall gSum ms) := e_callB (cr_sum hc) g_sum gl hm (by decide +kernel) ha (by decide) (by decide) he hpl
theorem e_all (hc : X.calm = true) (gl : Gl X "all") (hm : X.mg "all" = none) (ha : MEs X W (e :: es) ms) (he : starEach (e :: es) X.env = (false, eval e X.env) :: starEach es X.env := by rfl) (hpl : (backTo pos (starEach es X.env)).any (·.1) = false := by rfl) :
    ME X W (.Call (.Name "all" p) (e :: es) [] pos) (mCall gAll ms) := e_callB (cr_all hc) g_all gl hm (by decide +kernel) ha (by decide) (by decide) he hpl
theorem e_any (hc : X.calm = true) (gl : Gl X "any") (hm : X.mg "any" = none) (ha : MEs X W (e :: es) ms) (he : starEach (e :: es) X.env = (false, eval e X.env) :: starEach es X.env := by rfl) (hpl : (backTo pos (starEach es X.env)).any (·.1) = false := by rfl) :
    ME X W (.Call (.Name "any" p) (e :: es) [] pos) (mCall gAny ms) := e_callB (cr_any hc) g_any gl hm (by decide +kernel) ha (by decide) (by decide) he hpl
theorem e_max (hc : X.calm = true) (gl : Gl X "max") (hm : X.mg "max" = none) (ha : MEs X W (e :: es) ms) (he : starEach (e :: es) X.env = (false, eval e X.env) :: starEach es X.env := by rfl) (hpl : (backTo pos (starEach es X.env)).any (·.1) = false := by rfl) :
    ME X W (.Call (.Name "max" p) (e :: es) [] pos) (mCall gMax ms) := e_callB (.or (call_max2 hc) (cr_max hc)) g_max gl hm (by decide +kernel) ha (by decide) (by decide) he hpl
theorem e_min (hc : X.calm = true) (gl : Gl X "min") (hm : X.mg "min" = none) (ha : MEs X W (e :: es) ms) (he : starEach (e :: es) X.env = (false, eval e X.env) :: starEach es X.env := by rfl) (hpl : (backTo pos (starEach es X.env)).any (·.1) = false := by rfl) :
    ME X W (.Call (.Name "min" p) (e :: es) [] pos) (mCall gMin ms) := e_callB (.or (call_min2 hc) (cr_min hc)) g_min gl hm (by decide +kernel) ha (by decide) (by decide) he hpl
theorem e_intc (gl : Gl X "int") (hm : X.mg "int" = none) (ha : MEs X W (e :: es) ms) (he : starEach (e :: es) X.env = (false, eval e X.env) :: starEach es X.env := by rfl) (hpl : (backTo pos (starEach es X.env)).any (·.1) = false := by rfl) :
    ME X W (.Call (.Name "int" p) (e :: es) [] pos) (mCall gInt ms) := e_callTy call_int1 g_int gl hm (by decide +kernel) ha (by decide) (by decide) he hpl
theorem e_list {fr : Bool} (gl : Gl X "list") (hm : X.mg "list" = none) (ha : MEs X W (e :: es) ms) (he : starEach (e :: es) X.env = (false, eval e X.env) :: starEach es X.env := by rfl) (hpl : (backTo pos (starEach es X.env)).any (·.1) = false := by rfl) :
    ME X W (.Call (.Name "list" p) (e :: es) [] pos) (mCall (gList fr) ms) := e_callTy call_list_of g_list gl hm (by decide +kernel) ha (by decide) (by decide) he hpl
theorem e_tuple (gl : Gl X "tuple") (hm : X.mg "tuple" = none) (ha : MEs X W (e :: es) ms) (he : starEach (e :: es) X.env = (false, eval e X.env) :: starEach es X.env := by rfl) (hpl : (backTo pos (starEach es X.env)).any (·.1) = false := by rfl) :
    ME X W (.Call (.Name "tuple" p) (e :: es) [] pos) (mCall gTuple ms) := e_callTy call_tuple_of g_tuple gl hm (by decide +kernel) ha (by decide) (by decide) he hpl
theorem e_gcd (gl : Gl X "gcd") (hm : X.mg "gcd" = some (.builtin "math.gcd")) (ha : MEs X W (e :: es) ms) (he : starEach (e :: es) X.env = (false, eval e X.env) :: starEach es X.env := by rfl) (hpl : (backTo pos (starEach es X.env)).any (·.1) = false := by rfl) :
    ME X W (.Call (.Name "gcd" p) (e :: es) [] pos) (mCall gGcd ms) := e_callBf cr_gcd g_gcd gl hm ha (by decide) he hpl
end
end Mi

noncomputable section
namespace Mi
open PySem PySem.Spec PyProof.Rows L2

/-! ### isinstance of built-in types -/
inductive Ty where
  | non | bool | int | str | tuple | list
  deriving DecidableEq
def Ty.nm : Ty → String
  | .non => "NoneType" | .bool => "bool" | .int => "int" | .str => "str" | .tuple => "tuple" | .list => "list"
def tyB : Option Bx → Option Ty
  | some (.l _) => some .list
  | _ => none
def tyOf (s : Sto) : PV → Option Ty
  | .non => some .non | .bl _ => some .bool | .int _ => some .int | .str _ => some .str | .tup _ => some .tuple
  | .lst _ => some .list | .fro _ => some .list | .box n => tyB s[n]?
  | _ => none
def subT : Ty → Ty → Bool
  | .non, .non => true | .bool, .bool => true | .bool, .int => true | .int, .int => true | .str, .str => true | .tuple, .tuple => true | .list, .list => true
  | _, _ => false
theorem subT_ok {K : PySem.W.Frag} (a c : Ty) (hc : c ≠ .non) : PySem.W.kitOne K (.type a.nm) (.type c.nm) = some (subT a c) := by
  cases a <;> cases c <;> first | exact absurd rfl hc | exact kit_ty (by decide +kernel)
def anyT (a : Ty) : List Ty → Bool
  | [] => false
  | c :: cs => bif subT a c then true else anyT a cs
theorem anyT_ok {K : PySem.W.Frag} (a : Ty) : ∀ (cs : List Ty), (∀ c ∈ cs, c ≠ .non) → PySem.W.kitAny K (.type a.nm) (cs.map fun c => Value.type c.nm) = some (anyT a cs)
  | [], _ => rfl
  | c :: cs, h => by
    refine kitAny_cons (subT_ok a c (h c List.mem_cons_self)) (fun e => ?_) fun e => ?_
    · unfold anyT; rw [e]; exact anyT_ok a cs fun d hd => h d (List.mem_cons_of_mem _ hd)
    · unfold anyT; rw [e]; rfl
theorem tyOf_ok {K : PySem.W.Frag} {H : Hp} {ρ : Rh} {sto : Sto} (S : RSt K H ρ sto) : ∀ {x : PV} {v : V} {t : Ty}, RV K H ρ x v → tyOf sto x = some t → TyX K H v (.type t.nm)
  | .non, _, _, r, h => by cases r; cases h; exact .base .non
  | .bl b, _, _, r, h => by cases r; cases h; exact .base (.bl b)
  | .int b, _, _, r, h => by cases r; cases h; exact .base (.int b)
  | .str b, _, _, r, h => by cases r; cases h; exact .base (.str b)
  | .tup xs, _, _, r, h => by
    obtain ⟨a, ys, rfl, h2, h3⟩ := r
    cases h
    rcases h2 with ⟨h2, _⟩ | h2
    · exact .base (.tup h2)
    · rcases h2 with h2 | ⟨o, its, n, hk, hc, _⟩
      · rcases h2 with h2 | ⟨_, h2⟩ <;> cases h2
      · exact .kTuple hk hc
  | .lst xs, _, _, r, h => by
    obtain ⟨a, ys, rfl, h2, h3⟩ := r
    cases h
    exact .base (.lst h2.1)
  | .fro xs, _, _, r, h => by
    obtain ⟨a, ys, rfl, h2, h3⟩ := r
    cases h
    rcases h2 with ⟨h2, _⟩ | h2
    · rcases h2 with h2 | ⟨o, h2⟩
      · exact .base (.lst h2)
      · exact .base (.frz h2)
    · rcases h2 with h2 | ⟨o, its, n, hk, hc, _⟩
      · rcases h2 with h2 | ⟨_, h2⟩ <;> cases h2
      · exact .kList hk hc
  | .box n, _, t, r, h => by
    obtain ⟨a, rfl, h2⟩ := r
    have h : tyB sto[n]? = some t := h
    cases e : sto[n]? with
    | none => rw [e] at h; cases h
    | some b =>
      rw [e] at h
      have h1 := S.at_ n a b h2 e
      cases b with
      | l xs => cases h; obtain ⟨ys, h3, _⟩ := h1; exact .base (.lst h3)
      | _ => cases h
  | .ty _, _, _, _, h => by cases h
  | .obj _, _, _, _, h => by cases h
  | .fn _, _, _, _, h => by cases h
  | .cat _ _ _ _, _, _, _, h => by cases h
  | .exc _ _ _, _, _, _, h => by cases h
  | .rg _ _, _, _, _, h => by cases h
def mIsi (cs : List Ty) (m : M) : M := fun env s => (m env s).bind fun v s1 => match tyOf s1 v with
  | some t => .ok (.bl (anyT t cs)) s1
  | none => .bad
section
variable {X : Cx} {W : WK} {a b c e : Expr} {m ma mb : M} {pos p p2 p3 : Pos}
theorem nonT (T : Ty) (h : T ≠ .non) : ∀ c ∈ [T], c ≠ Ty.non := fun c hc => by rw [List.mem_singleton.mp hc]; exact h
/-- isinstance(e, T) -/
theorem e_isi {y : Str} (T : Ty) (hT : T ≠ .non) (gl : Gl X "isinstance") (hm : X.mg "isinstance" = none) (gy : Gl X y) (my : X.mg y = none) (by_ : bootBuiltins y = some (.type T.nm)) (ha : ME X W e m)
    (hn : y ≠ "__name__" := by decide) (hd : (y == ("__debug__" : Str)) = false := by decide)
    (he : starEach [e, .Name y p2] X.env = (false, eval e X.env) :: starEach [.Name y p2] X.env := by rfl) (he2 : starEach [.Name y p2] X.env = (false, eval (.Name y p2) X.env) :: starEach [] X.env := by rfl) (hpl : (backTo pos (starEach [.Name y p2] X.env)).any (·.1) = false := by rfl) :
    ME X W (.Call (.Name "isinstance" p) [e, .Name y p2] [] pos) (mIsi [T] m) := by
  obtain ⟨t, q, s⟩ := ha
  refine ⟨_, pe_callB call_isi gl hm (by decide +kernel) (pa_cons q (pa_cons (pe_bltn (v := .ty T.nm) gy my by_ rfl hn hd) pa_nil he2) he) (by decide) (by decide) he hpl, fun σ H ρ env sto Q hE hS hP => ?_⟩
  refine s σ H ρ env sto _ hE hS ((hP.bind hS).imp fun v s1 H1 ρ1 x1 S1 P1 y hy => ?_)
  cases k : tyOf s1 v with
  | none => rw [k] at P1; exact P1.elim
  | some t =>
    rw [k] at P1
    refine ⟨y, .ty T.nm, _, _, anyT t [T], rfl, .ty _, tyOf_ok S1 hy k, ?_, P1 H1 ρ1 .refl S1 _ rfl⟩
    rw [subT_ok t T hT]
    unfold anyT anyT
    cases subT t T <;> rfl
/-- isinstance(e, (T, U)) -/
theorem e_isi2 {y z : Str} {x1 : Nat} {p4 : Pos} (T U : Ty) (hT : T ≠ .non) (hU : U ≠ .non) (gl : Gl X "isinstance") (hm : X.mg "isinstance" = none) (gy : Gl X y) (my : X.mg y = none) (by_ : bootBuiltins y = some (.type T.nm))
    (gz : Gl X z) (mz : X.mg z = none) (bz : bootBuiltins z = some (.type U.nm)) (ha : ME X W e m)
    (hn : y ≠ "__name__" := by decide) (hd : (y == ("__debug__" : Str)) = false := by decide) (hn2 : z ≠ "__name__" := by decide) (hd2 : (z == ("__debug__" : Str)) = false := by decide)
    (he : starEach [e, .Tuple [.Name y p2, .Name z p3] x1 p4] X.env = (false, eval e X.env) :: starEach [.Tuple [.Name y p2, .Name z p3] x1 p4] X.env := by rfl)
    (he2 : starEach [.Tuple [.Name y p2, .Name z p3] x1 p4] X.env = (false, eval (.Tuple [.Name y p2, .Name z p3] x1 p4) X.env) :: starEach [] X.env := by rfl) (hpl : (backTo pos (starEach [.Tuple [.Name y p2, .Name z p3] x1 p4] X.env)).any (·.1) = false := by rfl)
    (h1 : starEach [.Name y p2, .Name z p3] X.env = (false, eval (.Name y p2) X.env) :: starEach [.Name z p3] X.env := by rfl) (h2 : starEach [.Name z p3] X.env = (false, eval (.Name z p3) X.env) :: starEach [] X.env := by rfl) :
    ME X W (.Call (.Name "isinstance" p) [e, .Tuple [.Name y p2, .Name z p3] x1 p4] [] pos) (mIsi [T, U] m) := by
  obtain ⟨t, q, s⟩ := ha
  refine ⟨_, pe_callB call_isiT gl hm (by decide +kernel) (pa_cons q (pa_cons (pe_tup (pa_cons (pe_bltn (v := .ty T.nm) gy my by_ rfl hn hd) (pa_cons (pe_bltn (v := .ty U.nm) gz mz bz rfl hn2 hd2) pa_nil h2) h1)) pa_nil he2) he) (by decide) (by decide) he hpl, fun σ H ρ env sto Q hE hS hP => ?_⟩
  refine s σ H ρ env sto _ hE hS ((hP.bind hS).imp fun v s1 H1 ρ1 x1 S1 P1 y hy => ?_)
  refine ⟨by show 2 ≤ sizeLine; decide, fun tp htp => ?_⟩
  cases k : tyOf s1 v with
  | none => rw [k] at P1; exact P1.elim
  | some t =>
    rw [k] at P1
    have hx := S1.ext (o := .tup [.ty T.nm, .ty U.nm]) htp
    refine ⟨y, tp, _, _, [.type T.nm, .type U.nm], anyT t [T, U], rfl, upd_same, .cons (.ty _) (.cons (.ty _) .nil), tyOf_ok (S1.new htp) (hy.mono hx.toExtW) k, anyT_ok t [T, U] fun c hc => ?_, P1 _ ρ1 hx (S1.new htp) _ rfl⟩
    rcases List.mem_cons.mp hc with rfl | hc
    · exact hT
    · rw [List.mem_singleton.mp hc]; exact hU
end

/-! ### subscripts -/
def atC {α : Type} (xs : List α) (i : Int) : Option α := match ixN xs.length i with
  | some j => nthC xs j
  | none => none
theorem atC_eq {α : Type} (xs : List α) (i : Int) : atC xs i = atI xs i := by
  unfold atC atI
  cases ixN xs.length i with
  | none => rfl
  | some j => exact nthC_eq xs j
def gIx : G2 := fun x y s => match y with
  | .int i => match getQ s x with
    | some xs => match atC xs i with
      | some v => .ok v s
      | none => .bad
    | none => .bad
  | _ => .bad
theorem IxR.or {X : Cx} {r r' : R2} (h : IxR X r) (h' : IxR X r') : IxR X (fun x y H Q => r x y H Q ∨ r' x y H Q) := by
  intro value slice pins s σ H x y v u Q I rx ry q e
  rcases q with q | q
  · exact h value slice pins s σ H x y v u Q I rx ry q e
  · exact h' value slice pins s σ H x y v u Q I rx ry q e
section
variable {K : PySem.W.Frag} {H : Hp} {ρ : Rh} {sto : Sto}
theorem atI_ok {xs : List PV} {ys : List V} {i : Int} {x : PV} (r : RVs K H ρ xs ys) (h : atI xs i = some x) : ∃ y, atI ys i = some y ∧ RV K H ρ x y := by
  unfold atI at h ⊢
  rw [← r.length]
  cases e : ixN xs.length i with
  | none => rw [e] at h; cases h
  | some j =>
    rw [e] at h
    exact r.get h
theorem g_ix : SR2 K (fun x y H Q => rIxL K x y H Q ∨ rIxT K x y H Q) gIx := by
  intro WP H ρ sto x y v u Q S rx ry P
  unfold gIx at P
  simp only [atC_eq] at P
  split at P
  · rename_i i
    cases ry
    split at P
    · rename_i xs e
      split at P
      · rename_i z e2
        obtain ⟨a, ys, rfl, h1, h2⟩ := getQ_ok S rx e
        obtain ⟨w, h3, h4⟩ := atI_ok h2 e2
        rcases h1 with h1 | h1
        · exact .inl ⟨a, ys, i, w, rfl, rfl, h1, h3, now S P h4⟩
        · exact .inr ⟨a, ys, i, w, rfl, rfl, h1, h3, now S P h4⟩
      · exact P.elim
    · exact P.elim
  · exact P.elim
end
def cutP (xs : List PV) (lo hi : Option Int) : List PV := (xs.drop (HT.sIx xs.length 0 lo)).take (HT.sIx xs.length xs.length hi - HT.sIx xs.length 0 lo)
abbrev MP := Env → Sto → R (Option Int)
def mPN : MP := fun _ s => .ok none s
def mPS (m : M) : MP := fun env s => (m env s).bind fun v s1 => match v with
  | .int i => .ok (some i) s1
  | _ => .bad
def mSl (fr : Bool) (m : M) (lo hi : MP) : M := fun env s => (m env s).bind fun x s1 => (lo env s1).bind fun l s2 => (hi env s2).bind fun u s3 => match x with
  | .tup xs => .ok (.tup (cutP xs l u)) s3
  | x => match getF s3 x with
    | some xs => fresh fr (cutP xs l u) s3
    | none => .bad
def SP' (K : PySem.W.Frag) (W : WK) (t : TO) (m : MP) : Prop := ∀ (σ : L2.St) (H : Hp) (ρ : Rh) (env : Env) (sto : Sto) (Q : Option Int → Hp → Prop),
  REnv K H ρ env σ → RSt K H ρ sto → Post K (fun c d h => W c d σ h) H ρ (fun v _ H' _ => Q v H') (m env sto) → t σ H Q
def MPo (X : Cx) (W : WK) (e : Option Expr) (m : MP) : Prop := ∃ t, PO X e t ∧ SP' X.K W t m
section
variable {K : PySem.W.Frag} {H : Hp} {ρ : Rh} {sto : Sto}
theorem cut_ok {xs : List PV} {ys : List V} (r : RVs K H ρ xs ys) (lo hi : Option Int) : RVs K H ρ (cutP xs lo hi) (cutV ys lo hi) := by
  unfold cutP cutV
  rw [← r.length]
  exact (r.drop _).take _
end
section
variable {X : Cx} {W : WK} {a b c e : Expr} {m ma mb : M} {pos p p2 p3 : Pos}
theorem e_ix (ha : ME X W a ma) (hb : ME X W b mb) (hs : PlainIx b := by exact fun _ _ => rfl) : ME X W (.Subscript a b pos) (mBin gIx ma mb) := by
  obtain ⟨ta, pa, sa⟩ := ha
  obtain ⟨tb, pb, sb⟩ := hb
  exact ⟨_, pe_ix (.or ix_list ix_tup) pa pb hs, se_bin sa sb g_ix⟩
theorem p_none : MPo X W none mPN := ⟨_, po_none, fun _ H ρ _ _ _ _ hS hP => hP H ρ .refl hS⟩
theorem p_some (h : ME X W e m) : MPo X W (some e) (mPS m) := by
  obtain ⟨t, q, s⟩ := h
  refine ⟨_, po_some q, fun σ H ρ env sto Q hE hS hP => ?_⟩
  refine s σ H ρ env sto _ hE hS ((hP.bind hS).imp fun v s1 H1 ρ1 x1 S1 P1 y hy => ?_)
  split at P1
  · cases hy
    exact ⟨_, rfl, P1 H1 ρ1 .refl S1⟩
  · exact P1.elim
theorem e_sl {fr : Bool} {lo hi : Option Expr} {ml mh : MP} (h : ME X W e m) (hl : MPo X W lo ml) (hh : MPo X W hi mh) : ME X W (.Subscript e (.Slice lo hi none p2) pos) (mSl fr m ml mh) := by
  obtain ⟨t, q, s⟩ := h
  obtain ⟨tl, ql, sl⟩ := hl
  obtain ⟨th, qh, sh⟩ := hh
  refine ⟨_, pe_slice (SlR.or sl_list sl_tupA) q ql qh, fun σ H ρ env sto Q hE hS hP => ?_⟩
  refine s σ H ρ env sto _ hE hS ((hP.bind hS).imp fun v s1 H1 ρ1 x1 S1 P1 y hy => ?_)
  refine sl σ H1 ρ1 env s1 _ (hE.mono x1.toExtW) S1 ((P1.bind S1).imp fun l s2 H2 ρ2 x2 S2 P2 => ?_)
  refine sh σ H2 ρ2 env s2 _ ((hE.mono x1.toExtW).mono x2.toExtW) S2 ((P2.bind S2).imp fun u s3 H3 ρ3 x3 S3 P3 => ?_)
  have hy3 := (hy.mono x2.toExtW).mono x3.toExtW
  split at P3
  · rename_i xs
    obtain ⟨a, ys, rfl, h1, h2⟩ := getT_ok hy3 rfl
    refine .inr ⟨a, ys, rfl, h1, fun hw => ?_, fun _ p hp => tup_ok S3 (cut_ok h2 l u) P3 hp⟩
    have e : cutP xs l u = xs := by
      unfold cutP
      rw [h2.length, hw.1, hw.2]
      rw [← h2.length]
      simp
    rw [e] at P3
    exact now S3 P3 hy3
  · split at P3
    · rename_i xs e1
      obtain ⟨a, ys, rfl, h1, h2⟩ := getF_ok S3 hy3 e1
      exact .inl ⟨a, ys, rfl, h1, fun p hp => fresh_ok S3 (cut_ok h2 l u) P3 hp⟩
    · exact P3.elim
end

/-! ### a list that changes -/
section
variable {K : PySem.W.Frag} {H : Hp} {ρ : Rh} {sto : Sto} {n : Nat} {a : Addr} {xs : List PV} {ys : List V}
theorem RSt.putB {b : Bx} {o : HO} (S : RSt K H ρ sto) (ha : ρ.bx[n]? = some a) (hn : n < sto.length) (hka : ∀ u, H a = some u → alike u o) (r : ∀ H1, ExtW ρ H ρ H1 → H1 a = some o → RB K H1 ρ a b) : Ext ρ H ρ (upd H a o) ∧ RSt K (upd H a o) ρ (sto.set n b) := by
  have hx : Ext ρ H ρ (upd H a o) := by
    refine ⟨⟨⟨[], by simp, by simp⟩, rs_refl, fun b u h nb _ => ?_, fun b h => has_upd b h, fun b u _ h => ?_⟩, rfl, fun b hb nb => upd_ne fun q => ?_⟩
    rotate_left
    · by_cases q : b = a
      · subst q; exact ⟨o, upd_same, hka u h⟩
      · exact ⟨u, by rw [upd_ne q]; exact h, alike_refl u⟩
    rotate_left
    · rw [upd_ne fun q => nb (by rw [q]; exact List.mem_of_getElem? ha)]; exact h
    · exact nb (by rw [q]; exact List.mem_of_getElem? ha)
  refine ⟨hx, ⟨S.nd, by rw [List.length_set]; exact S.len, fun k b zs e1 e2 => ?_, fun b hb => ⟨hx.has b (S.rsv b hb).1, (S.rsv b hb).2⟩, S.tbw hx.toExtW⟩⟩
  by_cases hk : n = k
  · subst hk
    rw [ha] at e1; cases e1
    rw [List.getElem?_set_self hn] at e2
    cases e2
    exact r _ hx.toExtW upd_same
  · rw [List.getElem?_set_ne hk] at e2
    have : b ≠ a := fun q => by
      subst q
      have h3 := (List.getElem?_eq_some_iff.mp ha)
      have h4 := (List.getElem?_eq_some_iff.mp e1)
      exact hk ((List.getElem_inj S.nd).mp (h3.2.trans h4.2.symm))
    exact (S.at_ k b zs e1 e2).imp (fun r => r.mono hx.toExtW) fun u q => by rw [upd_ne this]; exact q
theorem RSt.put (S : RSt K H ρ sto) (ha : ρ.bx[n]? = some a) (hn : n < sto.length) (hl : ∃ zs, H a = some (.lst zs)) (r : RVs K H ρ xs ys) : Ext ρ H ρ (upd H a (.lst ys)) ∧ RSt K (upd H a (.lst ys)) ρ (sto.set n (.l xs)) :=
  S.putB ha hn (fun u e => let ⟨zs, h⟩ := hl; by rw [h] at e; cases e; exact ⟨ys, rfl⟩) fun H1 x e => ⟨ys, e, r.mono x⟩
theorem RSt.lt (S : RSt K H ρ sto) (ha : ρ.bx[n]? = some a) : n < sto.length := S.len ▸ (List.getElem?_eq_some_iff.mp ha).1
end
def mApp (mo m : M) : M := fun env s => (mo env s).bind fun o s1 => match o with
  | .box n => match lsO s1[n]? with
    | some _ => (m env s1).bind fun v s2 => match s2[n]? with
      | some (.l xs) => bif Nat.blt xs.length sizeLine then .ok .non (s2.set n (.l (xs ++ [v]))) else .bad
      | _ => .bad
    | none => .bad
  | _ => .bad
section
variable {X : Cx} {W : WK} {o e : Expr} {m mo : M} {pos p p2 p3 : Pos}
theorem e_app (ho : ME X W o mo) (he : ME X W e m) (hbase : attributeBase o "append" X.env (eval o X.env) = eval o X.env := by rfl)
    (hfew : ((backTo pos (starEach [e] X.env)).all (fun x => !x.1) && (backToKw pos (keywordEach [] X.env)).all (fun x => x.1.isSome)
      && decide (([e] : List Expr).length + ([] : List Keyword).length + (if ([] : List Keyword).isEmpty then 0 else 1) < 30)) = true := by rfl)
    (hline : (p.endLine == pos.line) = true := by rfl) (hs : starEach [e] X.env = (false, eval e X.env) :: starEach [] X.env := by rfl) (hplain : (backTo pos (starEach [] X.env)).any (·.1) = false := by rfl) :
    ME X W (.Call (.Attribute o "append" p) [e] [] pos) (mApp mo m) := by
  obtain ⟨t, q, s⟩ := ho
  obtain ⟨u, r, z⟩ := he
  refine ⟨_, pe_bm PySem.F.plainAttrs_list PySem.F.slot_list_append PySem.F.type_list_append mt_append q (pa_cons r pa_nil hs) hbase hfew hline hs hplain, fun σ H ρ env sto Q hE hS hP => ?_⟩
  refine s σ H ρ env sto _ hE hS ((hP.bind hS).imp fun v s1 H1 ρ1 x1 S1 P1 y hy => ?_)
  split at P1
  · rename_i n
    obtain ⟨a, rfl, ha⟩ := hy
    cases e0 : lsO s1[n]? with
    | none => rw [e0] at P1; exact P1.elim
    | some zs =>
    rw [e0] at P1
    obtain ⟨ys0, h30, _⟩ := S1.at_ n a _ ha (lsO_ok e0)
    refine ⟨.inl ⟨rfl, ys0, .of h30⟩, z σ H1 ρ1 env s1 _ (hE.mono x1.toExtW) S1 ((P1.bind S1).imp fun w s2 H2 ρ2 x2 S2 P2 y2 hy2 => ?_)⟩
    split at P2
    · rename_i xs e1
      obtain ⟨hz, P2⟩ := and_of (C := Post X.K _ H2 ρ2 (GV X.K Q)) P2 (fun z => z)
      have ha2 : ρ2.bx[n]? = some a := by
        obtain ⟨r, hr, _⟩ := x2.pre
        rw [hr, List.getElem?_append_left (List.getElem?_eq_some_iff.mp ha).1]
        exact ha
      obtain ⟨ys, h3, h4⟩ := S2.at_ n a _ ha2 e1
      obtain ⟨x3, S3⟩ := S2.put ha2 (S2.lt ha2) ⟨_, h3⟩ (h4.append (.cons hy2 .nil))
      exact ⟨a, ys, y2, rfl, rfl, h3, by rw [← h4.length]; exact Nat.le_of_ble_eq_true hz, P2 _ ρ2 x3 S3 _ rfl⟩
    · exact P2.elim
  · exact P1.elim
end
end Mi

noncomputable section
namespace Mi
open PySem PySem.Spec PyProof.Rows L2 RZ

/-! ### the readings in one form: what a meaning wants -/
def cE (K : PySem.W.Frag) (W : WK) (m : M) : TE := fun σ H Q => ∃ ρ env sto, REnv K H ρ env σ ∧ RSt K H ρ sto ∧ Post K (fun c d h => W c d σ h) H ρ (GV K Q) (m env sto)
def cT (K : PySem.W.Frag) (W : WK) (m : MT) : TT := fun σ H Q => ∃ ρ env sto, REnv K H ρ env σ ∧ RSt K H ρ sto ∧ Post K (fun c d h => W c d σ h) H ρ (GT Q) (m env sto)
section
variable {X : Cx} {W : WK} {e : Expr}
theorem ME.can {m : M} (h : ME X W e m) : PE X e (cE X.K W m) := by
  obtain ⟨t, p, s⟩ := h
  exact ⟨fun pins st σ H Q I ⟨ρ, env, sto, h1, h2, h3⟩ => p.run pins st σ H Q I (s σ H ρ env sto Q h1 h2 h3)⟩
theorem MTe.can {m : MT} (h : MTe X W e m) : PT X e (cT X.K W m) := by
  obtain ⟨t, p, s⟩ := h
  exact ⟨fun pins st σ H Q I ⟨ρ, env, sto, h1, h2, h3⟩ => p.run pins st σ H Q I (s σ H ρ env sto Q h1 h2 h3)⟩
theorem se_can {K : PySem.W.Frag} {m : M} : SE K W (cE K W m) m := fun σ H ρ env sto Q h1 h2 h3 => ⟨ρ, env, sto, h1, h2, h3⟩
theorem st_can {K : PySem.W.Frag} {m : MT} : ST K W (cT K W m) m := fun σ H ρ env sto Q h1 h2 h3 => ⟨ρ, env, sto, h1, h2, h3⟩
end

/-! ### statements -/
inductive Fl where
  | nx (env : Env) (s : Sto)
  | rt (v : PV) (s : Sto)
  | bk (env : Env) (s : Sto)
  | ct (env : Env) (s : Sto)
  | ex (e : Exn) (env : Env) (s : Sto)
  | bad
def R.fl {α : Type} (env : Env) : R α → (α → Sto → Fl) → Fl
  | .ok a s, f => f a s
  | .ex e s, _ => .ex e env s
  | .bad, _ => .bad
def FPost (K : PySem.W.Frag) (W : WK) (D : Ends) (H : Hp) (ρ : Rh) : Fl → Prop
  | .nx env s => ∀ σ' H' ρ', Ext ρ H ρ' H' → RSt K H' ρ' s → REnv K H' ρ' env σ' → D.nx σ' H'
  | .rt v s => ∀ x H' ρ', Ext ρ H ρ' H' → RSt K H' ρ' s → RV K H' ρ' v x → D.rt x H'
  | .bk env s => ∀ σ' H' ρ', Ext ρ H ρ' H' → RSt K H' ρ' s → REnv K H' ρ' env σ' → D.bk σ' H'
  | .ct env s => ∀ σ' H' ρ', Ext ρ H ρ' H' → RSt K H' ρ' s → REnv K H' ρ' env σ' → D.ct σ' H'
  | .ex e env s => ∀ cls d σ' H' ρ', Ext ρ H ρ' H' → RSt K H' ρ' s → REnv K H' ρ' env σ' → RX K H' ρ' e cls d → W cls d σ' H'
  | .bad => False
abbrev MS := Env → Sto → Fl
def SS (K : PySem.W.Frag) (W : WK) (t : TS) (m : MS) : Prop := ∀ (D : Ends) (σ : L2.St) (H : Hp) (ρ : Rh) (env : Env) (sto : Sto),
  REnv K H ρ env σ → RSt K H ρ sto → FPost K W D H ρ (m env sto) → t D σ H
def MSt (X : Cx) (W : WK) (st : Stmt) (m : MS) : Prop := ∃ t, PS X st t ∧ SS X.K W t m
def MSs (X : Cx) (W : WK) (st : List Stmt) (m : MS) : Prop := ∃ t, PSs X st t ∧ SS X.K W t m
def cS (K : PySem.W.Frag) (W : WK) (m : MS) : TS := fun D σ H => ∃ ρ env sto, REnv K H ρ env σ ∧ RSt K H ρ sto ∧ FPost K W D H ρ (m env sto)
theorem MSs.can {X : Cx} {W : WK} {st : List Stmt} {m : MS} (h : MSs X W st m) : PSs X st (cS X.K W m) := by
  obtain ⟨t, p, s⟩ := h
  exact ⟨fun pins st σ H D I ⟨ρ, env, sto, h1, h2, h3⟩ => p.run pins st σ H D I (s D σ H ρ env sto h1 h2 h3)⟩
theorem ss_can {K : PySem.W.Frag} {W : WK} {m : MS} : SS K W (cS K W m) m := fun D σ H ρ env sto h1 h2 h3 => ⟨ρ, env, sto, h1, h2, h3⟩
section
variable {α : Type} {K : PySem.W.Frag} {W : WK} {D : Ends} {H H1 : Hp} {ρ ρ1 : Rh} {sto : Sto}
theorem FPost.shift (e : Ext ρ H ρ1 H1) (hh : ∀ a ∈ ρ.rs, H a ≠ none) : ∀ {f : Fl}, FPost K W D H ρ f → FPost K W D H1 ρ1 f
  | .nx _ _, h => fun σ H' ρ' x y z => h σ H' ρ' (e.trans x hh) y z
  | .rt _ _, h => fun σ H' ρ' x y z => h σ H' ρ' (e.trans x hh) y z
  | .bk _ _, h => fun σ H' ρ' x y z => h σ H' ρ' (e.trans x hh) y z
  | .ct _ _, h => fun σ H' ρ' x y z => h σ H' ρ' (e.trans x hh) y z
  | .ex _ _ _, h => fun c d σ H' ρ' x y z w => h c d σ H' ρ' (e.trans x hh) y z w
  | .bad, h => h
theorem FPost.bind {f : α → Sto → Fl} {env : Env} {σ : L2.St} (E : REnv K H ρ env σ) (S : RSt K H ρ sto) : ∀ {r : R α}, FPost K W D H ρ (r.fl env f) → Post K (fun c d h => W c d σ h) H ρ (fun v s H' ρ' => FPost K W D H' ρ' (f v s)) r
  | .ok _ _, h => fun _ _ x _ => FPost.shift x S.hh h
  | .ex _ _, h => fun c d H' ρ' x y z => h c d σ H' ρ' x y (E.mono x.toExtW) z
  | .bad, h => h
end
def sSeq (m n : MS) : MS := fun env s => match m env s with
  | .nx e s1 => n e s1
  | r => r
def sNil : MS := fun env s => .nx env s
def sExp (m : M) : MS := fun env s => (m env s).fl env fun _ s1 => .nx env s1
def sRet (m : M) : MS := fun env s => (m env s).fl env fun v s1 => .rt v s1
def sRetN : MS := fun _ s => .rt .non s
def sIf (t : MT) (a b : MS) : MS := fun env s => (t env s).fl env fun c s1 => bif c then a env s1 else b env s1
def sBk : MS := fun env s => .bk env s
def sCt : MS := fun env s => .ct env s
/-- the slots but those of sl stand -/
def Only (sl : List Nat) (σ σ' : L2.St) : Prop := σ'.length = σ.length ∧ ∀ j, j ∉ sl → σ'[j]? = σ[j]?
abbrev MG := PV → Env → Sto → R Env
abbrev MGs := List PV → Env → Sto → R Env
def gNm (i : Nat) : MG := fun v env s => .ok (setR env i (some v)) s
def gN0 : MGs := fun vs env s => match vs with
  | [] => .ok env s
  | _ => .bad
def gC (g : MG) (h : MGs) : MGs := fun vs env s => match vs with
  | v :: r => (g v env s).bind fun env1 s1 => h r env1 s1
  | [] => .bad
def gTp (n : Nat) (h : MGs) : MG := fun v env s => match v with
  | .tup xs => bif Nat.beq xs.length n then h xs env s else .bad
  | v => match getF s v with
    | some xs => bif Nat.beq xs.length n then h xs env s else .bad
    | none => .bad
def sAsg (m : M) (g : MG) : MS := fun env s => (m env s).fl env fun v s1 => (g v env s1).fl env fun env1 s2 => .nx env1 s2
def SG (K : PySem.W.Frag) (W : WK) (g : TG) (m : MG) (sl : List Nat) : Prop := ∀ (v : PV) (x : V) (σ : L2.St) (H : Hp) (ρ : Rh) (env : Env) (sto : Sto) (Q : L2.St → Hp → Prop),
  REnv K H ρ env σ → RSt K H ρ sto → RV K H ρ v x → Post K (fun _ _ _ => False) H ρ (fun env1 _ H' ρ' => ∀ σ', REnv K H' ρ' env1 σ' → Only sl σ σ' → Q σ' H') (m v env sto) → g x σ H Q
def SGs (K : PySem.W.Frag) (W : WK) (g : TGs) (m : MGs) (sl : List Nat) : Prop := ∀ (v : List PV) (x : List V) (σ : L2.St) (H : Hp) (ρ : Rh) (env : Env) (sto : Sto) (Q : L2.St → Hp → Prop),
  REnv K H ρ env σ → RSt K H ρ sto → RVs K H ρ v x → Post K (fun _ _ _ => False) H ρ (fun env1 _ H' ρ' => ∀ σ', REnv K H' ρ' env1 σ' → Only sl σ σ' → Q σ' H') (m v env sto) → g x σ H Q
def MGt (X : Cx) (W : WK) (e : Expr) (m : MG) (sl : List Nat) : Prop := ∃ g, PG X e g ∧ SG X.K W g m sl
def MGts (X : Cx) (W : WK) (e : List Expr) (m : MGs) (sl : List Nat) : Prop := ∃ g, PGs X e g ∧ SGs X.K W g m sl
def R.noex {α : Type} : R α → R α
  | .ex _ _ => .bad
  | r => r
/-- o[i] = v -/
def gSb (mo mi : M) : MG := fun v env s => ((mo env s).noex).bind fun o s1 => ((mi env s1).noex).bind fun i s2 => match o, i with
  | .box n, .int k => match s2[n]? with
    | some (.l xs) => match ixN xs.length k with
      | some j => .ok env (s2.set n (.l (xs.set j v)))
      | none => .bad
    | _ => .bad
  | _, _ => .bad
section
variable {X : Cx} {W : WK} {st : Stmt} {sts : List Stmt} {e o c tg : Expr} {a b : List Stmt} {m mo mi : M} {n k ma mb : MS} {g : MG} {gs : MGs} {tc : MT} {pos : Pos}
theorem s_nil : MSs X W [] sNil := ⟨_, pss_nil, fun D σ H ρ env sto h1 h2 h3 => h3 σ H ρ .refl h2 h1⟩
theorem s_one (h : MSt X W st n) : MSs X W [st] n := let ⟨t, p, s⟩ := h; ⟨t, pss_one p, s⟩
theorem s_cons (h : MSt X W st n) (r : MSs X W sts k) : MSs X W (st :: sts) (sSeq n k) := by
  obtain ⟨t, p, s⟩ := h
  obtain ⟨u, q, z⟩ := r
  refine ⟨_, pss_cons p q, fun D σ H ρ env sto h1 h2 h3 => s _ σ H ρ env sto h1 h2 ?_⟩
  unfold sSeq at h3
  cases e : n env sto with
  | nx env1 s1 =>
    rw [e] at h3
    exact fun σ' H' ρ' x S E => z D σ' H' ρ' env1 s1 E S (FPost.shift x h2.hh h3)
  | rt v s => rw [e] at h3; exact h3
  | bk env s => rw [e] at h3; exact h3
  | ct env s => rw [e] at h3; exact h3
  | ex e' env s => rw [e] at h3; exact h3
  | bad => rw [e] at h3; exact h3
theorem s_exp (h : ME X W e m) (hs : swapsWith e none pos.line X.env = pure false := by rfl) : MSt X W (.Expr e pos) (sExp m) := by
  obtain ⟨t, p, s⟩ := h
  refine ⟨_, ps_expr p hs, fun D σ H ρ env sto h1 h2 h3 => ?_⟩
  exact s σ H ρ env sto _ h1 h2 ((FPost.bind h1 h2 h3).imp fun v s1 H1 ρ1 x1 S1 P1 y _ => P1 σ H1 ρ1 .refl S1 (h1.mono x1.toExtW))
theorem s_ret (h : ME X W e m) : MSt X W (.Return (some e) pos) (sRet m) := by
  obtain ⟨t, p, s⟩ := h
  refine ⟨_, ps_ret p, fun D σ H ρ env sto h1 h2 h3 => ?_⟩
  exact s σ H ρ env sto _ h1 h2 ((FPost.bind h1 h2 h3).imp fun v s1 H1 ρ1 x1 S1 P1 y hy => P1 y H1 ρ1 .refl S1 hy)
theorem s_retN : MSt X W (.Return none pos) sRetN := ⟨_, ps_retN, fun D σ H ρ env sto h1 h2 h3 => h3 _ H ρ .refl h2 rfl⟩
theorem s_pass : MSt X W (.Pass pos) sNil := ⟨_, ps_pass, fun D σ H ρ env sto h1 h2 h3 => h3 σ H ρ .refl h2 h1⟩
theorem s_bk : MSt X W (.Break pos) sBk := ⟨_, ps_break, fun D σ H ρ env sto h1 h2 h3 => h3 σ H ρ .refl h2 h1⟩
theorem s_ct : MSt X W (.Continue pos) sCt := ⟨_, ps_continue, fun D σ H ρ env sto h1 h2 h3 => h3 σ H ρ .refl h2 h1⟩
theorem s_if (hc : MTe X W c tc) (ha : MSs X W a ma) (hb : MSs X W b mb) : MSt X W (.If c a b pos) (sIf tc ma mb) := by
  obtain ⟨t, p, s⟩ := hc
  obtain ⟨ua, qa, ra⟩ := ha
  obtain ⟨ub, qb, rb⟩ := hb
  refine ⟨_, ps_if p qa qb, fun D σ H ρ env sto h1 h2 h3 => ?_⟩
  refine s σ H ρ env sto _ h1 h2 ((FPost.bind h1 h2 h3).imp fun c s1 H1 ρ1 x1 S1 P1 => ?_)
  cases c with
  | true => exact ra D σ H1 ρ1 env s1 (h1.mono x1.toExtW) S1 P1
  | false => exact rb D σ H1 ρ1 env s1 (h1.mono x1.toExtW) S1 P1
/-! targets -/
theorem g_nm {i : Nat} {x : Str} (hN : X.N.Nodup) (hi : X.N[i]? = some x) (hx : Loc X.env.scope x) (hf : X.fn x = true ∨ X.env.scope.names.lookup x = some .local := by first | exact .inl rfl | exact .inr rfl | assumption) : MGt X W (.Name x pos) (gNm i) [i] :=
  ⟨_, pg_name hN hi hx hf, fun v x σ H ρ env sto Q h1 h2 h3 h4 => h4 H ρ .refl h2 _ (by rw [setR_eq]; exact h1.set i h3) ⟨by simp, fun j hj => List.getElem?_set_ne fun q => hj (by rw [q]; exact List.mem_singleton.mpr rfl)⟩⟩
theorem g_n0 : MGts X W [] gN0 [] := by
  refine ⟨_, pgs_nil, fun v x σ H ρ env sto Q h1 h2 h3 h4 => ?_⟩
  cases v with
  | nil => cases h3; exact ⟨rfl, h4 H ρ .refl h2 _ h1 ⟨rfl, fun _ _ => rfl⟩⟩
  | cons _ _ => exact h4.elim
theorem g_c {es : List Expr} {sl sl' : List Nat} (ha : MGt X W e g sl) (hb : MGts X W es gs sl') (hs : (assignEach (e :: es) X.env).map (·.2) = assign e X.env :: (assignEach es X.env).map (·.2) := by rfl) : MGts X W (e :: es) (gC g gs) (sl ++ sl') := by
  obtain ⟨ta, pa, sa⟩ := ha
  obtain ⟨tb, pb, sb⟩ := hb
  refine ⟨_, pgs_cons pa pb hs, fun v x σ H ρ env sto Q h1 h2 h3 h4 => ?_⟩
  cases v with
  | nil => exact h4.elim
  | cons v r =>
    obtain ⟨y, ys, rfl, hy, hys⟩ := h3
    refine ⟨y, ys, rfl, sa v y σ H ρ env sto _ h1 h2 hy ((Post.bind h2 h4).imp fun env1 s1 H1 ρ1 x1 S1 P1 σ1 E1 O1 => ?_)⟩
    exact sb r ys σ1 H1 ρ1 env1 s1 Q E1 S1 (hys.mono x1.toExtW) (P1.imp fun _ _ _ _ _ _ k σ2 E2 O2 => k σ2 E2 ⟨O2.1.trans O1.1, fun j hj => (O2.2 j fun z => hj (List.mem_append_right _ z)).trans (O1.2 j fun z => hj (List.mem_append_left _ z))⟩)
theorem g_tp {es : List Expr} {kk n : Nat} {sl : List Nat} (hc : X.calm = true) (h : MGts X W es gs sl) (hn : (assignEach es X.env).length = n := by rfl) (hst : (assignEach es X.env).findIdx? (·.1) = none := by rfl) : MGt X W (.Tuple es kk pos) (gTp n gs) sl := by
  obtain ⟨t, p, s⟩ := h
  have p1 := pg_tup (k := kk) (pos := pos) hc p hn hst
  have p2 := pg_lst (k := kk) (pos := pos) hc p hn hst
  refine ⟨fun v σ H Q => L2.gTup X.K n t v σ H Q ∨ L2.gLst X.K n t v σ H Q, ⟨fun pins st σ H x u Q I r h => h.elim (fun h => p1.run pins st σ H x u Q I r h) fun h => p2.run pins st σ H x u Q I r h⟩, fun v x σ H ρ env sto Q h1 h2 h3 h4 => ?_⟩
  unfold gTp at h4
  split at h4
  · rename_i xs
    obtain ⟨hq, h4⟩ := and_of (C := Post X.K _ H ρ _) h4 (fun z => z)
    obtain ⟨a, ys, rfl, k1, k2⟩ := getT_ok h3 rfl
    exact .inl ⟨a, ys, rfl, k1, by rw [← k2.length]; exact Nat.eq_of_beq_eq_true hq, s xs ys σ H ρ env sto Q h1 h2 k2 h4⟩
  · cases e : getF sto v with
    | none => rw [e] at h4; exact h4.elim
    | some xs =>
      rw [e] at h4
      obtain ⟨hq, h4⟩ := and_of (C := Post X.K _ H ρ _) h4 (fun z => z)
      obtain ⟨a, ys, rfl, k1, k2⟩ := getF_ok h2 h3 e
      exact .inr ⟨a, ys, rfl, k1, by rw [← k2.length]; exact Nat.eq_of_beq_eq_true hq, s xs ys σ H ρ env sto Q h1 h2 k2 h4⟩
theorem Post.unex {α : Type} {K : PySem.W.Frag} {WP WP' : XK} {H : Hp} {ρ : Rh} {G : α → Sto → Hp → Rh → Prop} : ∀ {r : R α}, Post K WP H ρ G r.noex → Post K WP' H ρ G r
  | .ok _ _, h => h
  | .ex _ _, h => h.elim
  | .bad, h => h
theorem g_sb (ho : ME X W o mo) (hi : ME X W e mi)
    (ha : ∀ v, assign (.Subscript o e pos) X.env v = (do
      let ov ← holding [v] (eval o X.env)
      let iv ← holding [v, ov] (eval e X.env)
      standAt pos
      holding [v, ov, iv] (setItem ov iv v)
      release [v, ov, iv] []) := by exact fun _ => rfl) : MGt X W (.Subscript o e pos) (gSb mo mi) [] := by
  obtain ⟨to, po, so⟩ := ho
  obtain ⟨ti, pi, si⟩ := hi
  refine ⟨_, pg_sub po pi set_list ha, fun v x σ H ρ env sto Q h1 h2 h3 h4 => ?_⟩
  refine so σ H ρ env sto _ h1 h2 (Post.unex ((Post.bind h2 h4).imp fun ov s1 H1 ρ1 x1 S1 P1 y hy => ?_))
  refine si σ H1 ρ1 env s1 _ (h1.mono x1.toExtW) S1 (Post.unex ((Post.bind S1 P1).imp fun iv s2 H2 ρ2 x2 S2 P2 z hz => ?_))
  have hy2 := hy.mono x2.toExtW
  split at P2
  · rename_i nn kk
    obtain ⟨a, rfl, haa⟩ := hy2
    cases hz
    split at P2
    · rename_i xs e1
      split at P2
      · rename_i j e2
        obtain ⟨ys, k1, k2⟩ := S2.at_ nn a _ haa e1
        have hv := (h3.mono x1.toExtW).mono x2.toExtW
        obtain ⟨x3, S3⟩ := S2.put haa (S2.lt haa) ⟨_, k1⟩ (RVs.set hv j k2)
        exact ⟨a, ys, kk, j, rfl, rfl, k1, by rw [← k2.length]; exact e2, P2 _ ρ2 x3 S3 _ (((h1.mono x1.toExtW).mono x2.toExtW).mono x3.toExtW) ⟨rfl, fun _ _ => rfl⟩⟩
      · exact P2.elim
    · exact P2.elim
  · exact P2.elim
theorem fl_noex {D : Ends} {H : Hp} {ρ : Rh} {K : PySem.W.Frag} {r : R Env} {W : WK} {env : Env} {sl : List Nat} {σ : L2.St} (h : FPost K W D H ρ (r.fl env fun e s => .nx e s)) (hx : ∀ e s, r ≠ .ex e s) : Post K (fun _ _ _ => False) H ρ (fun env1 _ H' ρ' => ∀ σ', REnv K H' ρ' env1 σ' → Only sl σ σ' → D.nx σ' H') r := by
  cases r with
  | ok a s => exact fun H' ρ' x S σ' E _ => h σ' H' ρ' x S E
  | ex e s => exact absurd rfl (hx e s)
  | bad => exact h
/-- a target that raises nothing by itself -/
def Calm (g : MG) : Prop := ∀ v env s e t, g v env s ≠ .ex e t
def CalmS (g : MGs) : Prop := ∀ v env s e t, g v env s ≠ .ex e t
theorem calm_nm {i : Nat} : Calm (gNm i) := fun _ _ _ _ _ h => by cases h
theorem calm_n0 : CalmS gN0 := fun v _ _ _ _ h => by cases v <;> cases h
theorem calm_c (h1 : Calm g) (h2 : CalmS gs) : CalmS (gC g gs) := fun v env s e t h => by
  cases v with
  | nil => cases h
  | cons v r =>
    have h : (g v env s).bind (fun env1 s1 => gs r env1 s1) = .ex e t := h
    cases q : g v env s with
    | ok a s1 => rw [q] at h; exact h2 _ _ _ _ _ h
    | ex e' s' => exact h1 _ _ _ _ _ q
    | bad => rw [q] at h; cases h
theorem calm_tp {n : Nat} (h : CalmS gs) : Calm (gTp n gs) := fun v env s e t q => by
  unfold gTp at q
  split at q
  · rename_i xs
    cases k : Nat.beq xs.length n with
    | true => rw [k] at q; exact h _ _ _ _ _ q
    | false => rw [k] at q; cases q
  · cases f : getF s v with
    | none => rw [f] at q; cases q
    | some xs =>
      rw [f] at q
      have q : (bif Nat.beq xs.length n then gs xs env s else .bad) = .ex e t := q
      cases k : Nat.beq xs.length n with
      | true => rw [k] at q; exact h _ _ _ _ _ q
      | false => rw [k] at q; cases q
theorem noex_ne {α : Type} {r : R α} {e : Exn} {s : Sto} : r.noex ≠ .ex e s := by cases r <;> exact fun h => by cases h
theorem calm_sb : Calm (gSb mo mi) := fun v env s e t q => by
  unfold gSb at q
  cases k : (mo env s).noex with
  | ex e' s' => exact noex_ne k
  | bad => rw [k] at q; cases q
  | ok o s1 =>
    rw [k] at q
    have q : ((mi env s1).noex).bind _ = .ex e t := q
    cases k2 : (mi env s1).noex with
    | ex e' s' => exact noex_ne k2
    | bad => rw [k2] at q; cases q
    | ok i s2 =>
      rw [k2] at q
      simp only [R.bind] at q
      split at q
      · split at q
        · split at q <;> cases q
        · cases q
      · cases q
theorem s_asg {sl : List Nat} (he : ME X W e m) (hg : MGt X W tg g sl) (hk : Calm g) (hs : swapsWithSole [tg] e pos.line X.env = pure false := by rfl) (hw : swappedStores [tg] e X.env = pure none := by rfl)
    (h1 : (assignEach [tg] X.env).map (·.2) = [assign tg X.env] := by rfl) : MSt X W (.Assign [tg] e pos) (sAsg m g) := by
  obtain ⟨t, p, s⟩ := he
  obtain ⟨u, q, z⟩ := hg
  refine ⟨_, ps_asg p q hs hw h1, fun D σ H ρ env sto h1 h2 h3 => ?_⟩
  refine s σ H ρ env sto _ h1 h2 ((FPost.bind h1 h2 h3).imp fun v s1 H1 ρ1 x1 S1 P1 y hy => ?_)
  exact z v y σ H1 ρ1 env s1 _ (h1.mono x1.toExtW) S1 hy (fl_noex P1 (hk v env s1))
/-- a, b = e1, e2 (two plain locals) -/
def sPar (i j : Nat) (ms : MA) : MS := fun env s => (ms env s).fl env fun vs s1 => match vs with
  | [v, w] => .nx ((env.set i (some v)).set j (some w)) s1
  | _ => .bad
theorem s_par {i j : Nat} {x y : Str} {a b : Expr} {ms : MA} {px py pt : Pos} {kt k2 pt2} (hc : X.calm = true) (hN : X.N.Nodup) (hi : X.N[i]? = some x) (hj : X.N[j]? = some y) (hij : i ≠ j)
    (hx : X.env.scope.names.lookup x = some .local) (hy : X.env.scope.names.lookup y = some .local) (ha : MEs X W [a, b] ms)
    (hw : swappedStores [.Tuple [.Name x px, .Name y py] kt pt] (.Tuple [a, b] k2 pt2) X.env = pure (some [x, y]))
    (hs : swapsWithSole [.Tuple [.Name x px, .Name y py] kt pt] (.Tuple [a, b] k2 pt2) pos.line X.env = pure false := by rfl) :
    MSt X W (.Assign [.Tuple [.Name x px, .Name y py] kt pt] (.Tuple [a, b] k2 pt2) pos) (sPar i j ms) := by
  obtain ⟨t, p, s⟩ := ha
  refine ⟨_, ps_par hc hN hi hj hij hx hy p hw hs, fun D σ H ρ env sto h1 h2 h3 => ?_⟩
  refine s σ H ρ env sto _ h1 h2 ((FPost.bind h1 h2 h3).imp fun vs s1 H1 ρ1 x1 S1 P1 ys hys => ?_)
  split at P1
  · obtain ⟨v, u, rfl, r1, r2⟩ := hys.two
    exact ⟨v, u, rfl, P1 _ H1 ρ1 .refl S1 (((h1.mono x1.toExtW).set i r1).set j r2)⟩
  · exact P1.elim
end

/-! ### loops -/
abbrev MIt := Nat → Sto → Option PV
def ItOk (K : PySem.W.Frag) (H0 : Hp) (ρ0 : Rh) (Jh : It) (J : MIt) : Prop := ∀ (i : Nat) (H : Hp) (ρ : Rh) (sto : Sto), ExtW ρ0 H0 ρ H → RSt K H ρ sto → match J i sto with
  | some v => Jh.go i H ∧ ∀ x H', Jh.yld i H x H' → Ext ρ H ρ H' ∧ RSt K H' ρ sto ∧ RV K H' ρ v x
  | none => Jh.stop i H
abbrev MI := Env → Sto → R MIt
def SI (K : PySem.W.Frag) (W : WK) (t : TI) (m : MI) : Prop := ∀ (σ : L2.St) (H : Hp) (ρ : Rh) (env : Env) (sto : Sto) (Rk : It → Hp → Prop),
  REnv K H ρ env σ → RSt K H ρ sto → Post K (fun c d h => W c d σ h) H ρ (fun J _ H' ρ' => ∀ Jh, ItOk K H' ρ' Jh J → Rk Jh H') (m env sto) → t σ H Rk
def MIr (X : Cx) (W : WK) (tg it : Expr) (m : MI) : Prop := ∃ t, PI X tg it t ∧ SI X.K W t m
def itOf (s : Sto) : PV → Option MIt
  | .lst xs => some fun i _ => nthC xs i
  | .fro xs => some fun i _ => nthC xs i
  | .box n => match lsO s[n]? with
    | some _ => some fun i s => match s[n]? with
      | some (.l xs) => nthC xs i
      | _ => none
    | none => none
  | _ => none
def iLst (m : M) : MI := fun env s => (m env s).bind fun v s1 => match itOf s1 v with
  | some J => .ok J s1
  | none => .bad
def iTup (m : M) : MI := fun env s => (m env s).bind fun v s1 => match v with
  | .tup xs => .ok (fun i _ => nthC xs i) s1
  | _ => .bad
def irng (lo : Int) (n : Nat) : MIt := fun i _ => bif Nat.blt i n then some (.int (lo + i)) else none
def okR (i j : Int) : Bool := decide (-(2 ^ 62) ≤ i ∧ i < 2 ^ 62 ∧ -(2 ^ 62) ≤ j ∧ j < 2 ^ 62)
def iR1 (ms : MA) : MI := fun env s => (ms env s).bind fun vs s1 => match vs with
  | [.int j] => bif okR 0 j then .ok (irng 0 j.toNat) s1 else .bad
  | _ => .bad
def iR2 (ms : MA) : MI := fun env s => (ms env s).bind fun vs s1 => match vs with
  | [.int i, .int j] => bif okR i j then .ok (irng i (j - i).toNat) s1 else .bad
  | _ => .bad
def enuI (J : MIt) : MIt := fun i s => match J i s with
  | some v => some (.tup [.int (i : Nat), v])
  | none => none
def iEnu (ms : MA) : MI := fun env s => (ms env s).bind fun vs s1 => match vs with
  | [v] => match itOf s1 v with
    | some J => .ok (enuI J) s1
    | none => .bad
  | _ => .bad
def zipI (J L : MIt) : MIt := fun i s => match J i s with
  | some v => match L i s with
    | some w => some (.tup [v, w])
    | none => none
  | none => none
def iZp (ms : MA) : MI := fun env s => (ms env s).bind fun vs s1 => match vs with
  | [.tup xs, .tup ys] => .ok (zipI (fun i _ => nthC xs i) (fun i _ => nthC ys i)) s1
  | [v, w] => match itOf s1 v, itOf s1 w with
    | some J, some L => .ok (zipI J L) s1
    | _, _ => .bad
  | _ => .bad
section
variable {K : PySem.W.Frag} {H0 : Hp} {ρ0 : Rh} {s0 : Sto} {a : Addr}
/-- what a list's iterator holds: the list as it stands -/
def ListIt (K : PySem.W.Frag) (H0 : Hp) (ρ0 : Rh) (a : Addr) (J : MIt) : Prop := ∀ (i : Nat) (H : Hp) (ρ : Rh) (sto : Sto), ExtW ρ0 H0 ρ H → RSt K H ρ sto → ∃ ys : List V, SqL K H a ys ∧ match J i sto with
  | some v => ∃ y, ys[i]? = some y ∧ RV K H ρ v y
  | none => ys.length ≤ i
theorem get_none {xs : List PV} {ys : List V} {H : Hp} {ρ : Rh} (r : RVs K H ρ xs ys) (i : Nat) : match xs[i]? with
  | some v => ∃ y, ys[i]? = some y ∧ RV K H ρ v y
  | none => ys.length ≤ i := by
  cases e : xs[i]? with
  | some v => exact r.get e
  | none => rw [← r.length]; exact List.getElem?_eq_none_iff.mp e
theorem itOf_ok (S0 : RSt K H0 ρ0 s0) {v : PV} {x : V} {J : MIt} (r : RV K H0 ρ0 v x) (h : itOf s0 v = some J) : ∃ a ys, x = .ref a ∧ SqL K H0 a ys ∧ ListIt K H0 ρ0 a J := by
  cases v with
  | lst xs =>
    cases h
    obtain ⟨a, ys, rfl, h2, h3⟩ := r
    exact ⟨a, ys, rfl, h2.sq, fun i H ρ sto x S => ⟨ys, (h2.mono x).sq, by dsimp only; rw [nthC_eq]; exact get_none (h3.mono x) i⟩⟩
  | fro xs =>
    cases h
    obtain ⟨a, ys, rfl, h2, h3⟩ := r
    exact ⟨a, ys, rfl, h2.sq, fun i H ρ sto x S => ⟨ys, (h2.mono x).sq, by dsimp only; rw [nthC_eq]; exact get_none (h3.mono x) i⟩⟩
  | box n =>
    obtain ⟨a, rfl, h2⟩ := r
    have h : (match lsO s0[n]? with
      | some _ => some fun i s => match s[n]? with
        | some (.l xs) => nthC xs i
        | _ => none
      | none => none : Option MIt) = some J := h
    cases e0 : lsO s0[n]? with
    | none => rw [e0] at h; cases h
    | some xs0 =>
    rw [e0] at h
    cases h
    obtain ⟨zs, k1, k2⟩ := S0.at_ n a _ h2 (lsO_ok e0)
    refine ⟨a, zs, rfl, .of k1, fun i H ρ sto x S => ?_⟩
    have ha : ρ.bx[n]? = some a := by
      obtain ⟨r, hr, _⟩ := x.pre
      rw [hr, List.getElem?_append_left (List.getElem?_eq_some_iff.mp h2).1]
      exact h2
    obtain ⟨o', ho, us, rfl⟩ := x.kd a _ (List.mem_of_getElem? h2) k1
    have hb := S.at_ n a _ ha (List.getElem?_eq_getElem (S.lt ha))
    cases e : sto[n]'(S.lt ha) with
    | l xs =>
      rw [e] at hb
      obtain ⟨ys, h3, h4⟩ := hb
      refine ⟨ys, .of h3, ?_⟩
      show (match (match sto[n]? with | some (.l xs) => nthC xs i | _ => none) with
        | some v => ∃ y, ys[i]? = some y ∧ RV K H ρ v y
        | none => ys.length ≤ i)
      rw [List.getElem?_eq_getElem (S.lt ha), e]
      dsimp only
      rw [nthC_eq]
      exact get_none h4 i
    | d kvs => rw [e] at hb; obtain ⟨ys, h3, _⟩ := hb; rw [ho] at h3; cases h3
    | e kvs => rw [e] at hb; obtain ⟨ys, h3, _⟩ := hb; rw [ho] at h3; cases h3
    | i c xs => rw [e] at hb; obtain ⟨_, _, _, _, _, h3, _⟩ := hb; rw [ho] at h3; cases h3
    | y xs => rw [e] at hb; obtain ⟨_, _, h3, _⟩ := hb; rw [ho] at h3; cases h3
    | z kvs => rw [e] at hb; obtain ⟨_, _, h3, _⟩ := hb; rw [ho] at h3; cases h3
  | _ => cases h
theorem itl_ok {J : MIt} (h : ListIt K H0 ρ0 a J) : ItOk K H0 ρ0 (Itl K a) J := by
  intro i H ρ sto x S
  obtain ⟨ys, h1, h2⟩ := h i H ρ sto x S
  split at h2
  · rename_i v e
    obtain ⟨y, k1, k2⟩ := h2
    refine ⟨⟨ys, y, h1, k1⟩, fun z H' hz => ?_⟩
    obtain ⟨rfl, hz⟩ := hz
    have : some z = some y := (hz ys h1).symm.trans k1
    cases this
    exact ⟨.refl, S, k2⟩
  · rename_i e
    exact ⟨ys, h1, h2⟩
theorem itt_ok {xs : List PV} {ys : List V} (h : FzT K H0 ρ0 a ys) (r : RVs K H0 ρ0 xs ys) : ItOk K H0 ρ0 (Itt K a) (fun i _ => nthC xs i) := by
  simp only [nthC_eq]
  intro i H ρ sto x S
  have h1 := (h.mono x).sq
  have r1 := r.mono x
  have g := get_none r1 i
  show (match xs[i]? with
    | some v => _
    | none => _)
  split at g
  · rename_i v e
    obtain ⟨y, k1, k2⟩ := g
    refine ⟨⟨ys, y, h1, k1⟩, fun z H' hz => ?_⟩
    obtain ⟨rfl, hz⟩ := hz
    have : some z = some y := (hz ys h1).symm.trans k1
    cases this
    exact ⟨.refl, S, k2⟩
  · exact ⟨ys, h1, g⟩
theorem irng_ok {lo : Int} {n : Nat} : ItOk K H0 ρ0 (Itr lo n) (irng lo n) := by
  intro i H ρ sto x S
  unfold irng
  cases q : Nat.blt i n with
  | true =>
    refine ⟨Nat.le_of_ble_eq_true q, fun z H' hz => ?_⟩
    obtain ⟨rfl, rfl⟩ := hz
    exact ⟨.refl, S, rfl⟩
  | false =>
    show n ≤ i
    apply Nat.le_of_not_lt
    intro h
    have : Nat.blt i n = true := Nat.ble_eq_true_of_le h
    rw [this] at q; cases q
theorem newPair {H : Hp} {ρ : Rh} {sto : Sto} {v w : PV} {x y : V} {T : Addr} (S : RSt K H ρ sto) (hT : H T = none) (r1 : RV K H ρ v x) (r2 : RV K H ρ w y) : Ext ρ H ρ (upd H T (.tup [x, y])) ∧ RSt K (upd H T (.tup [x, y])) ρ sto ∧ RV K (upd H T (.tup [x, y])) ρ (.tup [v, w]) (.ref T) := by
  have hx := S.ext (o := .tup [x, y]) hT
  exact ⟨hx, S.new hT, T, [x, y], rfl, .inl ⟨upd_same, S.fresh hT, S.freshR hT⟩, .cons (r1.mono hx.toExtW) (.cons (r2.mono hx.toExtW) .nil)⟩
theorem ite_ok {J : MIt} (h : ListIt K H0 ρ0 a J) : ItOk K H0 ρ0 (Ite K a) (enuI J) := by
  intro i H ρ sto x S
  obtain ⟨ys, h1, h2⟩ := h i H ρ sto x S
  unfold enuI
  cases e : J i sto with
  | some v =>
    rw [e] at h2
    obtain ⟨y, k1, k2⟩ := h2
    refine ⟨⟨ys, y, h1, k1⟩, fun z H' hz => ?_⟩
    obtain ⟨T, w, rfl, hT, rfl, hw⟩ := hz
    have : some w = some y := (hw ys h1).symm.trans k1
    cases this
    exact newPair S hT rfl k2
  | none =>
    rw [e] at h2
    exact ⟨ys, h1, h2⟩
theorem itz_ok {b : Addr} {J L : MIt} (h : ListIt K H0 ρ0 a J) (h' : ListIt K H0 ρ0 b L) : ItOk K H0 ρ0 (Itz K a b) (zipI J L) := by
  intro i H ρ sto x S
  obtain ⟨ys, h1, h2⟩ := h i H ρ sto x S
  obtain ⟨zs, h3, h4⟩ := h' i H ρ sto x S
  unfold zipI
  cases e : J i sto with
  | some v =>
    rw [e] at h2
    obtain ⟨y, k1, k2⟩ := h2
    cases e' : L i sto with
    | some w =>
      rw [e'] at h4
      obtain ⟨u, k3, k4⟩ := h4
      refine ⟨⟨ys, zs, y, u, h1, h3, k1, k3⟩, fun z H' hz => ?_⟩
      obtain ⟨T, p, q, rfl, hT, rfl, hp, hq⟩ := hz
      have : some p = some y := (hp ys h1).symm.trans k1
      cases this
      have : some q = some u := (hq zs h3).symm.trans k3
      cases this
      exact newPair S hT k2 k4
    | none =>
      rw [e'] at h4
      exact ⟨ys, zs, h1, h3, .inr h4⟩
  | none =>
    rw [e] at h2
    exact ⟨ys, zs, h1, h3, .inl h2⟩
theorem itzT_ok {b : Addr} {xs zs : List PV} {ys us : List V} (h : FzT K H0 ρ0 a ys) (r : RVs K H0 ρ0 xs ys) (h' : FzT K H0 ρ0 b us) (r' : RVs K H0 ρ0 zs us) : ItOk K H0 ρ0 (ItzT K a b) (zipI (fun i _ => nthC xs i) (fun i _ => nthC zs i)) := by
  simp only [nthC_eq]
  intro i H ρ sto x S
  have g := get_none (r.mono x) i
  have g' := get_none (r'.mono x) i
  have q1 := (h.mono x).sq
  have q2 := (h'.mono x).sq
  unfold zipI
  dsimp only
  cases e : xs[i]? with
  | some v =>
    rw [e] at g
    obtain ⟨y, k1, k2⟩ := g
    cases e' : zs[i]? with
    | some w =>
      rw [e'] at g'
      obtain ⟨u, k3, k4⟩ := g'
      refine ⟨⟨ys, us, y, u, q1, q2, k1, k3⟩, fun z H' hz => ?_⟩
      obtain ⟨T, p, q, rfl, hT, rfl, hp, hq⟩ := hz
      have : some p = some y := (hp ys q1).symm.trans k1
      cases this
      have : some q = some u := (hq us q2).symm.trans k3
      cases this
      exact newPair S hT k2 k4
    | none =>
      rw [e'] at g'
      exact ⟨ys, us, q1, q2, .inr g'⟩
  | none =>
    rw [e] at g
    exact ⟨ys, us, q1, q2, .inl g⟩
end
section
variable {X : Cx} {W : WK} {tg e e2 a b : Expr} {m : M} {ms : MA} {pos p : Pos} {elts : List Expr} {kk : Nat} {tpos : Pos}
theorem i_lst (h : ME X W e m) : MIr X W tg e (iLst m) := by
  obtain ⟨t, q, s⟩ := h
  refine ⟨_, pi_list q, fun σ H ρ env sto Rk hE hS hP => ?_⟩
  refine s σ H ρ env sto _ hE hS ((hP.bind hS).imp fun v s1 H1 ρ1 x1 S1 P1 y hy => ?_)
  cases k : itOf s1 v with
  | none => rw [k] at P1; exact P1.elim
  | some J =>
    rw [k] at P1
    obtain ⟨a, ys, rfl, h1, h2⟩ := itOf_ok S1 hy k
    exact ⟨a, rfl, ⟨ys, h1⟩, P1 H1 ρ1 .refl S1 _ (itl_ok h2)⟩
theorem i_tup (h : ME X W e m) : MIr X W tg e (iTup m) := by
  obtain ⟨t, q, s⟩ := h
  refine ⟨_, pi_tup q, fun σ H ρ env sto Rk hE hS hP => ?_⟩
  refine s σ H ρ env sto _ hE hS ((hP.bind hS).imp fun v s1 H1 ρ1 x1 S1 P1 y hy => ?_)
  split at P1
  · obtain ⟨a, ys, rfl, h1, h2⟩ := hy
    exact ⟨a, rfl, ⟨ys, h1.sq⟩, P1 H1 ρ1 .refl S1 _ (itt_ok h1 h2)⟩
  · exact P1.elim
theorem i_r1 (hg : Gl X "range") (hm : X.mg "range" = none) (ha : MEs X W [a] ms) (hs : starEach [a] X.env = [(false, eval a X.env)] := by rfl) : MIr X W tg (.Call (.Name "range" p) [a] [] pos) (iR1 ms) := by
  obtain ⟨t, q, s⟩ := ha
  refine ⟨_, pi_range1 hg hm q hs, fun σ H ρ env sto Rk hE hS hP => ?_⟩
  refine s σ H ρ env sto _ hE hS ((hP.bind hS).imp fun vs s1 H1 ρ1 x1 S1 P1 ys hys => ?_)
  split at P1
  · obtain ⟨v, rfl, hv⟩ := hys.one
    cases hv
    obtain ⟨hq, P1⟩ := and_of (C := Post X.K _ H1 ρ1 _) P1 (fun z => z)
    have hq := of_decide_eq_true hq
    exact ⟨_, rfl, hq.2.2.1, hq.2.2.2, P1 H1 ρ1 .refl S1 _ irng_ok⟩
  · exact P1.elim
theorem i_r2 (hg : Gl X "range") (hm : X.mg "range" = none) (ha : MEs X W [a, b] ms) (hs : starEach [a, b] X.env = [(false, eval a X.env), (false, eval b X.env)] := by rfl) (hs2 : starEach [b] X.env = [(false, eval b X.env)] := by rfl) : MIr X W tg (.Call (.Name "range" p) [a, b] [] pos) (iR2 ms) := by
  obtain ⟨t, q, s⟩ := ha
  refine ⟨_, pi_range2 hg hm q hs hs2, fun σ H ρ env sto Rk hE hS hP => ?_⟩
  refine s σ H ρ env sto _ hE hS ((hP.bind hS).imp fun vs s1 H1 ρ1 x1 S1 P1 ys hys => ?_)
  split at P1
  · obtain ⟨v, u, rfl, hv, hu⟩ := hys.two
    cases hv; cases hu
    obtain ⟨hq, P1⟩ := and_of (C := Post X.K _ H1 ρ1 _) P1 (fun z => z)
    have hq := of_decide_eq_true hq
    exact ⟨_, _, rfl, hq, P1 H1 ρ1 .refl S1 _ irng_ok⟩
  · exact P1.elim
theorem i_enu (hg : Gl X "enumerate") (hm : X.mg "enumerate" = none) (ha : MEs X W [e] ms) (hs : starEach [e] X.env = [(false, eval e X.env)] := by rfl) : MIr X W (.Tuple elts kk tpos) (.Call (.Name "enumerate" p) [e] [] pos) (iEnu ms) := by
  obtain ⟨t, q, s⟩ := ha
  refine ⟨_, pi_enum hg hm q hs, fun σ H ρ env sto Rk hE hS hP => ?_⟩
  refine s σ H ρ env sto _ hE hS ((hP.bind hS).imp fun vs s1 H1 ρ1 x1 S1 P1 ys hys => ?_)
  split at P1
  · obtain ⟨v, rfl, hv⟩ := hys.one
    rename_i v0
    cases k : itOf s1 v0 with
    | none => rw [k] at P1; exact P1.elim
    | some J =>
      rw [k] at P1
      obtain ⟨a, zs, rfl, h1, h2⟩ := itOf_ok S1 hv k
      exact ⟨a, zs, rfl, h1, P1 H1 ρ1 .refl S1 _ (ite_ok h2)⟩
  · exact P1.elim
theorem i_zp (hg : Gl X "zip") (hm : X.mg "zip" = none) (ha : MEs X W [e, e2] ms) (hs : starEach [e, e2] X.env = (false, eval e X.env) :: starEach [e2] X.env := by rfl) (hpl : (backTo pos (starEach [e2] X.env)).any (·.1) = false := by rfl) :
    MIr X W (.Tuple elts kk tpos) (.Call (.Name "zip" p) [e, e2] [] pos) (iZp ms) := by
  obtain ⟨t, q, s⟩ := ha
  refine ⟨_, pi_zipA hg hm q hs hpl, fun σ H ρ env sto Rk hE hS hP => ?_⟩
  refine s σ H ρ env sto _ hE hS ((hP.bind hS).imp fun vs s1 H1 ρ1 x1 S1 P1 ys hys => ?_)
  split at P1
  · obtain ⟨v, u, rfl, hv, hu⟩ := hys.two
    obtain ⟨a, as, rfl, h1, h2⟩ := hv
    obtain ⟨b, bs, rfl, h3, h4⟩ := hu
    exact ⟨a, b, as, bs, rfl, .inr ⟨h1.sq, h3.sq, P1 H1 ρ1 .refl S1 _ (itzT_ok h1 h2 h3 h4)⟩⟩
  · obtain ⟨v, u, rfl, hv, hu⟩ := hys.two
    split at P1
    · rename_i J L k1 k2
      obtain ⟨a, as, rfl, h1, h2⟩ := itOf_ok S1 hv k1
      obtain ⟨b, bs, rfl, h3, h4⟩ := itOf_ok S1 hu k2
      exact ⟨a, b, as, bs, rfl, .inl ⟨h1, h3, P1 H1 ρ1 .refl S1 _ (itz_ok h2 h4)⟩⟩
    · exact P1.elim
  · exact P1.elim
end
def forL (J : MIt) (g : MG) (body : MS) : Nat → Nat → Env → Sto → Fl
  | 0, _, _, _ => .bad
  | n + 1, i, env, s => match J i s with
    | none => .nx env s
    | some v => ((g v env s).noex).fl env fun env1 s1 => match body env1 s1 with
      | .nx e s2 => forL J g body n (i + 1) e s2
      | .ct e s2 => forL J g body n (i + 1) e s2
      | .bk e s2 => .nx e s2
      | r => r
def sFor (N : Nat) (mi : MI) (g : MG) (body : MS) : MS := fun env s => (mi env s).fl env fun J s1 => forL J g body N 0 env s1
def whL (t : MT) (body : MS) : Nat → Env → Sto → Fl
  | 0, _, _ => .bad
  | n + 1, env, s => (t env s).fl env fun c s1 => bif c then (match body env s1 with
      | .nx e s2 => whL t body n e s2
      | .ct e s2 => whL t body n e s2
      | .bk e s2 => .nx e s2
      | r => r) else .nx env s1
def sWh (N : Nat) (t : MT) (body : MS) : MS := fun env s => whL t body N env s
section
variable {X : Cx} {W : WK} {tg it c : Expr} {body : List Stmt} {mi : MI} {g : MG} {mb : MS} {tc : MT} {pos : Pos}
theorem s_for (N : Nat) (hp : PassesOwn (model X.prog X.w) X.A X.env X.xe) (hc : X.calm = true) {sl : List Nat} (hi : MIr X W tg it mi) (hg : MGt X W tg g sl) (hb : MSs X W body mb)
    (hs : ∀ x, foldedSetIterable it X.env x = pure x := by intro _; rfl) : MSt X W (.For tg it body [] pos) (sFor N mi g mb) := by
  obtain ⟨t, q, s⟩ := hi
  obtain ⟨u, qg, sg⟩ := hg
  refine ⟨_, ps_for hp hc q qg hb.can hs, fun D σ H ρ env sto h1 h2 h3 => ?_⟩
  refine s σ H ρ env sto _ h1 h2 ((FPost.bind h1 h2 h3).imp fun J s1 H1 ρ1 x1 S1 P1 Jh hJ => ?_)
  refine ⟨fun i n σ H => ∃ ρ env sto, ExtW ρ1 H1 ρ H ∧ REnv X.K H ρ env σ ∧ RSt X.K H ρ sto ∧ FPost X.K W D H ρ (forL J g mb n i env sto), ⟨N, ρ1, env, s1, Ext.refl.toExtW, h1.mono x1.toExtW, S1, P1⟩, ?_⟩
  rintro i n σ2 H2 ⟨ρ2, env2, s2, x2, E2, S2, P2⟩
  cases n with
  | zero => exact P2.elim
  | succ n =>
    have hj := hJ i H2 ρ2 s2 x2 S2
    unfold forL at P2
    cases e : J i s2 with
    | none =>
      rw [e] at hj P2
      exact .inl ⟨hj, P2 σ2 H2 ρ2 .refl S2 E2⟩
    | some v =>
      rw [e] at hj P2
      refine .inr ⟨hj.1, fun σ' H' => ∃ ρ env sto, ExtW ρ1 H1 ρ H' ∧ REnv X.K H' ρ env σ' ∧ RSt X.K H' ρ sto ∧ FPost X.K W D H' ρ (forL J g mb n (i + 1) env sto), fun σ' H' h => ⟨n, Nat.lt_succ_self n, h⟩, fun x H' hy => ?_⟩
      obtain ⟨y1, y2, y3⟩ := hj.2 x H' hy
      have P2' := FPost.shift y1 S2.hh P2
      refine sg v x σ2 H' ρ2 env2 s2 _ (E2.mono y1.toExtW) y2 y3 (Post.unex (WP := fun c d h => W c d σ2 h) ((FPost.bind (E2.mono y1.toExtW) y2 P2').imp fun env3 s3 H3 ρ3 x3 S3 P3 σ3 E3 _ => ?_))
      refine ⟨ρ3, env3, s3, E3, S3, ?_⟩
      have x4 : ExtW ρ1 H1 ρ3 H3 := (x2.trans y1.toExtW).trans x3.toExtW
      cases r : mb env3 s3 with
      | nx e4 s4 => rw [r] at P3; exact fun σ' H' ρ' x S E => ⟨ρ', e4, s4, x4.trans x.toExtW, E, S, FPost.shift x S3.hh P3⟩
      | ct e4 s4 => rw [r] at P3; exact fun σ' H' ρ' x S E => ⟨ρ', e4, s4, x4.trans x.toExtW, E, S, FPost.shift x S3.hh P3⟩
      | bk e4 s4 => rw [r] at P3; exact P3
      | rt v s4 => rw [r] at P3; exact P3
      | ex v e4 s4 => rw [r] at P3; exact P3
      | bad => rw [r] at P3; exact P3
theorem s_wh (N : Nat) (hp : PassesOwn (model X.prog X.w) X.A X.env X.xe) (hc : MTe X W c tc) (hb : MSs X W body mb) : MSt X W (.While c body [] pos) (sWh N tc mb) := by
  refine ⟨_, ps_while hp hc.can hb.can, fun D σ H ρ env sto h1 h2 h3 => ?_⟩
  refine ⟨fun n σ H => ∃ ρ env sto, REnv X.K H ρ env σ ∧ RSt X.K H ρ sto ∧ FPost X.K W D H ρ (whL tc mb n env sto), ⟨N, ρ, env, sto, h1, h2, h3⟩, ?_⟩
  rintro n σ2 H2 ⟨ρ2, env2, s2, E2, S2, P2⟩
  cases n with
  | zero => exact P2.elim
  | succ n =>
    unfold whL at P2
    refine ⟨ρ2, env2, s2, E2, S2, (FPost.bind E2 S2 P2).imp fun c s3 H3 ρ3 x3 S3 P3 => ?_⟩
    cases c with
    | false => exact P3 σ2 H3 ρ3 .refl S3 (E2.mono x3.toExtW)
    | true =>
      refine ⟨fun σ' H' => ∃ ρ env sto, REnv X.K H' ρ env σ' ∧ RSt X.K H' ρ sto ∧ FPost X.K W D H' ρ (whL tc mb n env sto), fun σ' H' h => ⟨n, Nat.lt_succ_self n, h⟩, ρ3, env2, s3, E2.mono x3.toExtW, S3, ?_⟩
      have P3 : FPost X.K W D H3 ρ3 (match mb env2 s3 with
        | .nx e s2 => whL tc mb n e s2
        | .ct e s2 => whL tc mb n e s2
        | .bk e s2 => .nx e s2
        | r => r) := P3
      cases r : mb env2 s3 with
      | nx e4 s4 => rw [r] at P3; exact fun σ' H' ρ' x S E => ⟨ρ', e4, s4, E, S, FPost.shift x S3.hh P3⟩
      | ct e4 s4 => rw [r] at P3; exact fun σ' H' ρ' x S E => ⟨ρ', e4, s4, E, S, FPost.shift x S3.hh P3⟩
      | bk e4 s4 => rw [r] at P3; exact P3
      | rt v s4 => rw [r] at P3; exact P3
      | ex v e4 s4 => rw [r] at P3; exact P3
      | bad => rw [r] at P3; exact P3
end
end Mi

noncomputable section
namespace Mi
open PySem PySem.Spec PyProof.Rows L2

/-! ### comprehensions -/
def WF : WK := fun _ _ _ _ => False
def wipeE (env : Env) : List Nat → Env
  | [] => env
  | v :: vs => (wipeE env vs).set v none
section
variable {K : PySem.W.Frag} {H : Hp} {ρ : Rh} {sto : Sto} {D : Addr} {o : HO}
theorem wipeE_ok {env : Env} {σ : L2.St} (h : REnv K H ρ env σ) : ∀ vs, REnv K H ρ (wipeE env vs) (wipe σ vs)
  | [] => h
  | v :: vs => by
    have ih := wipeE_ok h vs
    refine ⟨by show ((wipeE env vs).set v none).length = ((wipe σ vs).set v none).length; simp [ih.1], fun i p e => ?_⟩
    have e : ((wipeE env vs).set v none)[i]? = some (some p) := e
    show ∃ w, ((wipe σ vs).set v none)[i]? = some (some w) ∧ _
    by_cases hv : v = i
    · subst hv
      by_cases hl : v < (wipeE env vs).length
      · rw [List.getElem?_set_self hl] at e; cases e
      · rw [List.getElem?_eq_none_iff.mpr (by simpa using hl)] at e; cases e
    · rw [List.getElem?_set_ne hv] at e
      obtain ⟨w, k1, k2⟩ := ih.2 i p e
      exact ⟨w, by rw [List.getElem?_set_ne hv]; exact k1, k2⟩
theorem wipe_len (σ : L2.St) : ∀ vs, (wipe σ vs).length = σ.length
  | [] => rfl
  | v :: vs => by
    show ((wipe σ vs).set v none).length = σ.length
    rw [List.length_set]; exact wipe_len σ vs
theorem wipe_get (σ : L2.St) (j : Nat) : ∀ vs, (j ∉ vs → (wipe σ vs)[j]? = σ[j]?) ∧ (j ∈ vs → (wipe σ vs)[j]? = if j < σ.length then some none else none)
  | [] => ⟨fun _ => rfl, fun h => by cases h⟩
  | v :: vs => by
    have ih := wipe_get σ j vs
    constructor
    · intro h
      show ((wipe σ vs).set v none)[j]? = _
      rw [List.getElem?_set_ne fun q => h (by rw [q]; exact List.mem_cons_self)]
      exact ih.1 fun z => h (List.mem_cons_of_mem _ z)
    · intro h
      show ((wipe σ vs).set v none)[j]? = _
      by_cases hv : v = j
      · subst hv
        by_cases hl : v < σ.length
        · rw [List.getElem?_set_self (by rw [wipe_len]; exact hl), if_pos hl]
        · rw [if_neg hl]
          exact List.getElem?_eq_none_iff.mpr (by rw [List.length_set, wipe_len]; omega)
      · rw [List.getElem?_set_ne hv]
        rcases List.mem_cons.mp h with z | z
        · exact absurd z.symm hv
        · exact ih.2 z
theorem wipe_only {σ σ2 : L2.St} {sl vs : List Nat} (h : Only sl (wipe σ vs) σ2) (hs : ∀ j ∈ sl, j ∈ vs) : wipe σ2 vs = wipe σ vs := by
  have hl : σ2.length = σ.length := h.1.trans (wipe_len σ vs)
  apply List.ext_getElem?
  intro j
  by_cases hj : j ∈ vs
  · rw [(wipe_get σ2 j vs).2 hj, (wipe_get σ j vs).2 hj, hl]
  · rw [(wipe_get σ2 j vs).1 hj, (wipe_get σ j vs).1 hj, h.2 j fun z => hj (hs j z)]
    exact (wipe_get σ j vs).1 hj
end
section
variable {K : PySem.W.Frag} {H : Hp} {ρ : Rh} {sto : Sto} {D : Addr} {o : HO}
/-- a new object, reserved -/
theorem extR (hD : H D = none) : ExtW ρ H ⟨ρ.bx, D :: ρ.rs, ρ.cg⟩ (upd H D o) :=
  ⟨⟨[], by simp, by simp⟩, ⟨⟨fun a h => List.mem_cons_of_mem _ h, fun a h => (List.mem_cons.mp h).elim (fun q => .inr (by rw [q]; exact hD)) .inl⟩, rfl⟩, fun a u h _ _ => by rw [upd_ne (ne_of_none h hD)]; exact h, fun a h => has_upd a h, kd_new hD⟩
theorem RSt.res (S : RSt K H ρ sto) (hD : H D = none) : RSt K (upd H D o) ⟨ρ.bx, D :: ρ.rs, ρ.cg⟩ sto :=
  ⟨S.nd, S.len, fun n a b e1 e2 => (S.at_ n a b e1 e2).imp (fun r => r.mono (extR hD)) fun u q => by rw [upd_ne (ne_of_none q hD)]; exact q, fun a ha => by
    rcases List.mem_cons.mp ha with z | z
    · rw [z]; exact ⟨(by rw [upd_same]; exact fun q => nomatch q), S.fresh hD⟩
    · exact ⟨has_upd a (S.rsv a z).1, (S.rsv a z).2⟩, fun a ha => by
    obtain ⟨h1, h2, h3⟩ := S.tb a ha
    have na : a ≠ D := ne_of_none h1 hD
    exact ⟨by rw [upd_ne na]; exact h1, h2, fun z => (List.mem_cons.mp z).elim na h3⟩⟩
/-- a reserved list is written -/
theorem extD {zs : List V} (hm : D ∈ ρ.rs) (hb : D ∉ ρ.bx) : ExtW ρ H ρ (upd H D (.lst zs)) :=
  ⟨⟨[], by simp, by simp⟩, rs_refl, fun a u h _ n => by rw [upd_ne fun q => n (by rw [q]; exact hm)]; exact h, fun a h => has_upd a h, fun a u ha h => ⟨u, by rw [upd_ne (show a ≠ D from fun q => hb (by rw [← q]; exact ha))]; exact h, alike_refl u⟩⟩
theorem RSt.putD {zs : List V} (S : RSt K H ρ sto) (hm : D ∈ ρ.rs) : RSt K (upd H D (.lst zs)) ρ sto :=
  ⟨S.nd, S.len, fun n a b e1 e2 => (S.at_ n a b e1 e2).imp (fun r => r.mono (extD hm (S.rsv D hm).2)) fun u q => by rw [upd_ne fun q => (S.rsv D hm).2 (by rw [← q]; exact List.mem_of_getElem? e1)]; exact q, fun a ha => ⟨has_upd a (S.rsv a ha).1, (S.rsv a ha).2⟩, S.tbw (extD hm (S.rsv D hm).2)⟩
end
/-! a reservation becomes a list that may change -/
mutual
theorem RV.boxed {K : PySem.W.Frag} {H : Hp} {b r r' : List Addr} {g : Addr} {D : Addr} (hD : D ∈ r) (e : ∀ a, a ∈ r' → a ∈ r) : ∀ {p : PV} {v : V}, RV K H ⟨b, r, g⟩ p v → RV K H ⟨b ++ [D], r', g⟩ p v
  | .non, _, h => h
  | .bl _, _, h => h
  | .int _, _, h => h
  | .str _, _, h => h
  | .ty _, _, h => h
  | .obj _, _, h => h
  | .fn _, _, h => h
  | .cat a dx ns xs, _, h => by
    obtain ⟨ys, h1, ⟨k1, k2, k3⟩, h3⟩ := h
    exact ⟨ys, h1, ⟨k1, fun z => (List.mem_append.mp z).elim k2 fun z => k3 (by rw [List.mem_singleton.mp z]; exact hD), fun z => k3 (e _ z)⟩, RVs.boxed hD e h3⟩
  | .box n, _, h => by
    obtain ⟨a, h1, h2⟩ := h
    refine ⟨a, h1, ?_⟩
    show (b ++ [D])[n]? = some a
    rw [List.getElem?_append_left (List.getElem?_eq_some_iff.mp h2).1]
    exact h2
  | .tup xs, _, h => by
    obtain ⟨a, ys, h1, h2, h3⟩ := h
    exact ⟨a, ys, h1, h2.imp (fun q => ⟨q.1, fun z => (List.mem_append.mp z).elim q.2.1 fun z => q.2.2 (by rw [List.mem_singleton.mp z]; exact hD), fun z => q.2.2 (e _ z)⟩) id, RVs.boxed hD e h3⟩
  | .lst xs, _, h => by
    obtain ⟨a, ys, h1, q, h3⟩ := h
    exact ⟨a, ys, h1, ⟨q.1, fun z => (List.mem_append.mp z).elim q.2.1 fun z => q.2.2 (by rw [List.mem_singleton.mp z]; exact hD), fun z => q.2.2 (e _ z)⟩, RVs.boxed hD e h3⟩
  | .fro xs, _, h => by
    obtain ⟨a, ys, h1, h2, h3⟩ := h
    exact ⟨a, ys, h1, h2.imp (fun q => ⟨q.1, fun z => (List.mem_append.mp z).elim q.2.1 fun z => q.2.2 (by rw [List.mem_singleton.mp z]; exact hD), fun z => q.2.2 (e _ z)⟩) id, RVs.boxed hD e h3⟩
  | .exc C ns xs, _, h => by
    obtain ⟨a, ys, h1, h2, h3⟩ := h
    obtain ⟨q1, q2, C', hc, q3⟩ := h2
    refine ⟨a, ys, h1, ⟨fun z => (List.mem_append.mp z).elim q1 fun z => q2 (by rw [List.mem_singleton.mp z]; exact hD), fun z => q2 (e _ z), C', hc, ?_⟩, RVs.boxed hD e h3⟩
    rcases q3 with h | ⟨dx, dn, dm, h⟩
    · exact .inl h
    · exact .inr ⟨dx, fun z => (List.mem_append.mp z).elim dn fun z => dm (by rw [List.mem_singleton.mp z]; exact hD), fun z => dm (e _ z), h⟩
  | .rg lo hi, _, h => by
    obtain ⟨a, h1, h2, q1, q2⟩ := h
    exact ⟨a, h1, h2, fun z => (List.mem_append.mp z).elim q1 fun z => q2 (by rw [List.mem_singleton.mp z]; exact hD), fun z => q2 (e _ z)⟩
theorem RVs.boxed {K : PySem.W.Frag} {H : Hp} {b r r' : List Addr} {g : Addr} {D : Addr} (hD : D ∈ r) (e : ∀ a, a ∈ r' → a ∈ r) : ∀ {p : List PV} {v : List V}, RVs K H ⟨b, r, g⟩ p v → RVs K H ⟨b ++ [D], r', g⟩ p v
  | [], _, h => h
  | x :: xs, _, h => by
    obtain ⟨v, ws, h1, h2, h3⟩ := h
    exact ⟨v, ws, h1, RV.boxed hD e h2, RVs.boxed hD e h3⟩
end
def lcL (J : MIt) (g : MG) (tt : MT) (elt : M) (env : Env) : Nat → Nat → List PV → Sto → R (List PV)
  | 0, _, _, _ => .bad
  | n + 1, i, acc, s => match J i s with
    | none => .ok acc s
    | some v => ((g v env s).noex).bind fun env1 s1 => ((tt env1 s1).noex).bind fun c s2 => bif c then
        ((elt env1 s2).noex).bind fun y s3 => bif Nat.blt acc.length sizeLine then lcL J g tt elt env n (i + 1) (acc ++ [y]) s3 else .bad
      else lcL J g tt elt env n (i + 1) acc s2
def mLc (N : Nat) (fr : Bool) (mi : MI) (vs : List Nat) (g : MG) (tt : MT) (elt : M) : M := fun env s => (mi env s).bind fun J s1 =>
  ((lcL J g tt elt (wipeE env vs) N 0 [] s1).noex).bind fun acc s2 => fresh fr acc s2
def mYes : MT := fun _ s => .ok true s
section
variable {X : Cx} {W : WK} {elt tg iter c : Expr} {ifs : List Expr} {scope : Scope} {own : List (Str × Nat)} {pos : Pos} {mi : MI} {g : MG} {tt : MT} {me : M} {sl : List Nat}
theorem noex_post {α : Type} {K : PySem.W.Frag} {WP WP' : XK} {H : Hp} {ρ : Rh} {G : α → Sto → Hp → Rh → Prop} {r : R α} (h : Post K WP H ρ G r.noex) : Post K WP' H ρ G r := Post.unex h
theorem mTs_nil {X : Cx} {W : WK} : ∃ t, PTs X [] t ∧ ST X.K W t mYes := ⟨_, pts_nil, fun _ H ρ _ _ _ _ hS hP => hP H ρ .refl hS⟩
theorem noex_noex {α : Type} (r : R α) : r.noex.noex = r.noex := by cases r <;> rfl
theorem noex_bind {α β : Type} (r : R α) (f : α → Sto → R β) : (r.bind f).noex = r.noex.bind fun a s => (f a s).noex := by cases r <;> rfl
end
/-- what is wanted behind the turns of a comprehension, from its start on -/
def PL (K : PySem.W.Frag) (ρ1 : Rh) (H1 : Hp) (D : Addr) (Q : VK) : R (List PV) → Prop
  | .ok acc s => ∀ H' ρ' ys, ExtW ⟨ρ1.bx, D :: ρ1.rs, ρ1.cg⟩ (upd H1 D (.lst [])) ρ' H' → ρ'.rs = D :: ρ1.rs → RSt K H' ρ' s → RVs K H' ρ' acc ys → H' D = some (.lst ys) → (∀ a, a ∈ ρ1.rs → H' a = H1 a) → Q (.ref D) H'
  | .ex _ _ => False
  | .bad => False
section
variable {X : Cx} {W : WK} {elt tg iter c : Expr} {ifs : List Expr} {scope : Scope} {own : List (Str × Nat)} {pos : Pos} {mi : MI} {g : MG} {tt : MT} {me : M} {sl : List Nat}
theorem PL.bind {α : Type} {K : PySem.W.Frag} {ρ1 : Rh} {H1 : Hp} {D : Addr} {Q : VK} {f : α → Sto → R (List PV)} {WP : XK} {H : Hp} {ρ : Rh} : ∀ {r : R α}, PL K ρ1 H1 D Q (r.noex.bind f) → Post K WP H ρ (fun a s _ _ => PL K ρ1 H1 D Q (f a s)) r
  | .ok _ _, h => fun _ _ _ _ => h
  | .ex _ _, h => h.elim
  | .bad, h => h
/-- the reading of a comprehension -/
theorem lc_ok {K : PySem.W.Frag} {vs : List Nat} {wi : TI} {gt : TG} {ttt : TT} {te : TE} (N : Nat) (fr : Bool) (hi : SI K W wi mi) (hg : SG K WF gt g sl) (ht : ST K WF ttt tt) (he : SE K WF te me) (hs : ∀ j ∈ sl, j ∈ vs) : SE K W (tLc wi gt ttt te vs) (mLc N fr mi vs g tt me) := by
  intro σ H ρ env sto Q hE hS hP
  refine hi σ H ρ env sto _ hE hS ((hP.bind hS).imp fun J s1 H1 ρ1 x1 S1 P1 Jh hJ => ?_)
  intro D hD
  have ED : REnv K (upd H1 D (.lst [])) ⟨ρ1.bx, D :: ρ1.rs, ρ1.cg⟩ (wipeE env vs) (wipe σ vs) := (wipeE_ok (hE.mono x1.toExtW) vs).mono (extR hD)
  have SD : RSt K (upd H1 D (.lst [])) ⟨ρ1.bx, D :: ρ1.rs, ρ1.cg⟩ s1 := S1.res hD
  have hnD : D ∉ ρ1.bx := S1.fresh hD
  have hnR : D ∉ ρ1.rs := S1.freshR hD
  refine ⟨fun i n H => ∃ (ρ : Rh) (s : Sto) (acc : List PV) (ys : List V), ExtW ⟨ρ1.bx, D :: ρ1.rs, ρ1.cg⟩ (upd H1 D (.lst [])) ρ H ∧ ρ.rs = D :: ρ1.rs ∧ (∀ a, a ∈ ρ1.rs → H a = H1 a) ∧ RSt K H ρ s ∧ H D = some (.lst ys) ∧ RVs K H ρ acc ys ∧
    PL K ρ1 H1 D Q (lcL J g tt me (wipeE env vs) n i acc s), ⟨N, ⟨ρ1.bx, D :: ρ1.rs, ρ1.cg⟩, s1, [], [], Ext.refl.toExtW, rfl, fun a ha => upd_ne fun q => hnR (q ▸ ha), SD, upd_same, rfl, ?_⟩, ?_⟩
  · cases r : lcL J g tt me (wipeE env vs) N 0 [] s1 with
    | bad => rw [r] at P1; exact P1.elim
    | ex e s => rw [r] at P1; exact P1.elim
    | ok acc s2 =>
      rw [r] at P1
      have P1' : Post K (fun c d h => W c d σ h) H1 ρ1 (GV K Q) (fresh fr acc s2) := P1
      intro H' ρ' ys xw xr S rv hDy hr
      have hDr : D ∈ ρ'.rs := by rw [xr]; exact List.mem_cons_self
      have hDb : D ∉ ρ'.bx := (S.rsv D hDr).2
      have pre : ∃ r, ρ'.bx = ρ1.bx ++ r ∧ ∀ a ∈ r, H1 a = none := by
        obtain ⟨r, hr, hn⟩ := xw.pre
        refine ⟨r, hr, fun a ha => ?_⟩
        have := hn a ha
        by_cases q : a = D
        · rw [q]; exact hD
        · rw [upd_ne q] at this; exact this
      have keep : ∀ a o, H1 a = some o → a ∉ ρ1.bx → a ∉ ρ1.rs → H' a = some o := fun a o h n m => by
        have qa : a ≠ D := ne_of_none h hD
        exact xw.keep a o (by rw [upd_ne qa]; exact h) n fun z => (List.mem_cons.mp z).elim qa m
      have has : ∀ a, H1 a ≠ none → H' a ≠ none := fun a h => xw.has a (has_upd a h)
      have kd : ∀ a o, a ∈ ρ1.bx → H1 a = some o → ∃ o', H' a = some o' ∧ alike o o' := fun a o hb h => xw.kd a o hb (by rw [upd_ne (ne_of_none h hD)]; exact h)
      have tb : ∀ a, GenTab K a → H' a = some (.ext (G0.tabOk a)) ∧ a ∉ ρ'.bx ∧ a ∉ ρ1.rs := fun a ha => by
        obtain ⟨h1, h2, h3⟩ := S.tb a ha
        exact ⟨h1, h2, fun z => h3 (by rw [xr]; exact List.mem_cons_of_mem _ z)⟩
      have hres : ∀ a, a ∈ ρ1.rs → a ∉ ρ1.bx → H' a = H1 a := fun a ha _ => hr a ha
      have un : ∀ a, a ∈ ρ1.rs → a ∈ ρ'.rs := fun a ha => by rw [xr]; exact List.mem_cons_of_mem _ ha
      cases fr with
      | false =>
        have S' : RSt K H' ⟨ρ'.bx, ρ1.rs, ρ'.cg⟩ s2 := ⟨S.nd, S.len, fun n a b e1 e2 => (S.at_ n a b e1 e2).imp (fun h2 => RVs.unres (b := ρ'.bx) un h2) fun _ q => q, fun a ha => S.rsv a (un a ha), tb⟩
        exact P1' H' ⟨ρ'.bx, ρ1.rs, ρ'.cg⟩ ⟨⟨pre, ⟨rs_refl.1, xw.rs.2⟩, keep, has, kd⟩, rfl, hres⟩ S' _ ⟨D, ys, rfl, ⟨hDy, hDb, hnR⟩, RVs.unres (b := ρ'.bx) un rv⟩
      | true =>
        obtain ⟨r, hr1, hn⟩ := pre
        have pre2 : ∃ r, ρ'.bx ++ [D] = ρ1.bx ++ r ∧ ∀ a ∈ r, H1 a = none := ⟨r ++ [D], by rw [hr1, List.append_assoc], fun a ha => by
          rcases List.mem_append.mp ha with z | z
          · exact hn a z
          · rw [List.mem_singleton.mp z]; exact hD⟩
        have mv : ∀ {p : List PV} {v : List V}, RVs K H' ρ' p v → RVs K H' ⟨ρ'.bx ++ [D], ρ1.rs, ρ'.cg⟩ p v := fun h => RVs.boxed (b := ρ'.bx) hDr un h
        have S2 : RSt K H' ⟨ρ'.bx ++ [D], ρ1.rs, ρ'.cg⟩ (s2 ++ [.l acc]) := by
          refine ⟨?_, by simp [S.len], fun n a zs e1 e2 => ?_, fun a ha => ⟨(S.rsv a (un a ha)).1, fun z => ?_⟩, fun a ha => ⟨(tb a ha).1, fun z => (List.mem_append.mp z).elim (tb a ha).2.1 fun z => (S.tb a ha).2.2 (by rw [List.mem_singleton.mp z]; exact hDr), (tb a ha).2.2⟩⟩
          · refine List.nodup_append.mpr ⟨S.nd, by simp, fun a ha b hb => ?_⟩
            rw [List.mem_singleton.mp hb]
            exact fun q => hDb (q ▸ ha)
          · by_cases hn : n < ρ'.bx.length
            · rw [List.getElem?_append_left hn] at e1
              rw [List.getElem?_append_left (S.len ▸ hn)] at e2
              exact (S.at_ n a zs e1 e2).imp (fun h2 => mv h2) fun _ q => q
            · have hn' : n = ρ'.bx.length := by
                have := (List.getElem?_eq_some_iff.mp e1).1
                simp at this; omega
              subst hn'
              simp at e1
              rw [S.len] at e2
              simp at e2
              subst e1; subst e2
              exact ⟨ys, hDy, mv rv⟩
          · rcases List.mem_append.mp z with z | z
            · exact (S.rsv a (un a ha)).2 z
            · exact hnR (by rw [← List.mem_singleton.mp z]; exact ha)
        exact P1' H' ⟨ρ'.bx ++ [D], ρ1.rs, ρ'.cg⟩ ⟨⟨pre2, ⟨rs_refl.1, xw.rs.2⟩, keep, has, kd⟩, rfl, hres⟩ S2 _ ⟨D, rfl, by rw [← S.len]; simp⟩
  · rintro i n H2 ⟨ρ2, s2, acc, ys, x2, xr2, hr2, S2, hDy, rv, P2⟩
    cases n with
    | zero => exact P2.elim
    | succ n =>
      have hDr : D ∈ ρ2.rs := by rw [xr2]; exact List.mem_cons_self
      have hj := hJ i H2 ρ2 s2 ((extR hD).trans x2) S2
      unfold lcL at P2
      cases e : J i s2 with
      | none =>
        rw [e] at hj P2
        exact .inl ⟨hj, P2 H2 ρ2 ys x2 xr2 S2 rv hDy hr2⟩
      | some v =>
        rw [e] at hj P2
        refine .inr ⟨hj.1, fun H => ∃ (ρ : Rh) (s : Sto) (acc : List PV) (ys : List V), ExtW ⟨ρ1.bx, D :: ρ1.rs, ρ1.cg⟩ (upd H1 D (.lst [])) ρ H ∧ ρ.rs = D :: ρ1.rs ∧ (∀ a, a ∈ ρ1.rs → H a = H1 a) ∧ RSt K H ρ s ∧ H D = some (.lst ys) ∧ RVs K H ρ acc ys ∧
          PL K ρ1 H1 D Q (lcL J g tt me (wipeE env vs) n (i + 1) acc s), fun H' h => ⟨n, Nat.lt_succ_self n, h⟩, fun x H' hy => ?_⟩
        obtain ⟨y1, y2, y3⟩ := hj.2 x H' hy
        have E2 : REnv K H' ρ2 (wipeE env vs) (wipe σ vs) := (ED.mono x2).mono y1.toExtW
        refine hg v x (wipe σ vs) H' ρ2 (wipeE env vs) s2 _ E2 y2 y3 ((PL.bind P2).imp fun env3 s3 H3 ρ3 x3 S3 P4 σ3 E3 O3 => ?_)
        refine ⟨wipe_only O3 hs, ?_⟩
        refine ht σ3 H3 ρ3 env3 s3 _ E3 S3 ((PL.bind P4).imp fun c s4 H4 ρ4 x4 S4 P5 => ?_)
        have xD4 : Ext ρ2 H2 ρ4 H4 := (y1.trans x3 S2.hh).trans x4 S2.hh
        have fin : ∀ {H5 : Hp} {ρ5 : Rh}, Ext ρ4 H4 ρ5 H5 → ExtW ⟨ρ1.bx, D :: ρ1.rs, ρ1.cg⟩ (upd H1 D (.lst [])) ρ5 H5 ∧ ρ5.rs = D :: ρ1.rs ∧ (∀ a, a ∈ ρ1.rs → H5 a = H1 a) ∧ H5 D = some (.lst ys) ∧ RVs K H5 ρ5 acc ys := fun x5 => by
          have xx := xD4.trans x5 S2.hh
          refine ⟨x2.trans xx.toExtW, xx.rse.trans xr2, fun a ha => ?_, ?_, rv.mono xx.toExtW⟩
          · have ha2 : a ∈ ρ2.rs := by rw [xr2]; exact List.mem_cons_of_mem _ ha
            exact (xx.res a ha2 (S2.rsv a ha2).2).trans (hr2 a ha)
          · exact (xx.res D hDr (S2.rsv D hDr).2).trans hDy
        cases c with
        | false =>
          obtain ⟨f1, f2, f3, f4, f5⟩ := fin .refl
          exact ⟨ρ4, s4, acc, ys, f1, f2, f3, S4, f4, f5, P5⟩
        | true =>
          refine he σ3 H4 ρ4 env3 s4 _ (E3.mono x4.toExtW) S4 ((PL.bind P5).imp fun y s5 H5 ρ5 x5 S5 P6 z hz => ?_)
          obtain ⟨f1, f2, f3, f4, f5⟩ := fin x5
          have f6 : D ∈ ρ5.rs := by rw [f2]; exact List.mem_cons_self
          cases q : Nat.blt acc.length sizeLine with
          | false => rw [q] at P6; exact P6.elim
          | true =>
            rw [q] at P6
            refine ⟨ys, f4, by rw [← f5.length]; exact Nat.le_of_ble_eq_true q, ?_⟩
            have xe := extD (H := H5) (zs := ys ++ [z]) f6 (S5.rsv D f6).2
            refine ⟨ρ5, s5, acc ++ [y], ys ++ [z], f1.trans xe, f2, fun a ha => ?_, S5.putD f6, upd_same, (f5.append (.cons hz .nil)).mono xe, P6⟩
            have na : a ≠ D := fun q => hnR (by rw [← q]; exact ha)
            rw [upd_ne na]; exact f3 a ha
/-- what holds in every block of this comprehension -/
abbrev InBlk (X : Cx) (scope : Scope) (P : Cx → Prop) : Prop := ∀ (s : Shared) (H : Hp) (C : Addr) (cl : List (Str × Addr)) (fp : List Addr), P (X.blk s H scope (compEnvC scope cl C X.env) fp)
def cG (K : PySem.W.Frag) (m : MG) (sl : List Nat) : TG := fun x σ H Q => ∃ v ρ env sto, REnv K H ρ env σ ∧ RSt K H ρ sto ∧ RV K H ρ v x ∧ Post K (fun _ _ _ => False) H ρ (fun env1 _ H' ρ' => ∀ σ', REnv K H' ρ' env1 σ' → Only sl σ σ' → Q σ' H') (m v env sto)
theorem MGt.can (h : MGt X W tg g sl) : PG X tg (cG X.K g sl) := by
  obtain ⟨t, p, s⟩ := h
  exact ⟨fun pins st σ H x u Q I r ⟨v, ρ, env, sto, h1, h2, h3, h4⟩ => p.run pins st σ H x u Q I r (s v x σ H ρ env sto Q h1 h2 h3 h4)⟩
theorem sg_can {K : PySem.W.Frag} : SG K W (cG K g sl) g sl := fun v x σ H ρ env sto Q h1 h2 h3 h4 => ⟨v, ρ, env, sto, h1, h2, h3, h4⟩
def MTs (X : Cx) (W : WK) (ifs : List Expr) (m : MT) : Prop := PTs X ifs (cT X.K W m)
theorem ts_nil : MTs X W [] mYes := ⟨fun pins st σ H Q I ⟨ρ, env, sto, h1, h2, h3⟩ => pts_nil.run pins st σ H Q I (h3 H ρ .refl h2)⟩
theorem ts_one {e : Expr} (h : MTe X W e tt) : MTs X W [e] tt := pts_one h.can
theorem e_lc (N : Nat) (fr : Bool) (hc : X.calm = true) (hN : X.N.Nodup) (ok : BlkOk X.N X.env.scope scope own) (hs : ∀ j ∈ sl, j ∈ own.map (·.2)) (hi : MIr X W tg iter mi)
    (hg : InBlk X scope fun Y => MGt Y WF tg g sl) (ht : InBlk X scope fun Y => MTs Y WF ifs tt) (he : InBlk X scope fun Y => ME Y WF elt me)
    (hf : ∀ x, foldedSetIterable iter X.env x = pure x := by intro _; rfl) : ME X W (.ListComp elt [⟨tg, iter, ifs, 0⟩] scope pos) (mLc N fr mi (own.map (·.2)) g tt me) := by
  obtain ⟨t, q, s⟩ := hi
  exact ⟨_, pe_lc (g := cG X.K g sl) (tt := cT X.K WF tt) (te := cE X.K WF me) hc hN q ok (fun s H C cl fp => (hg s H C cl fp).can) (fun s H C cl fp => ht s H C cl fp) (fun s H C cl fp => (he s H C cl fp).can) hf, lc_ok N fr s sg_can st_can se_can hs⟩
/-- x = [..] -/
theorem s_lc {i : Nat} {y : Str} {py : Pos} {spos : Pos} (N : Nat) (fr : Bool) (hc : X.calm = true) (hN : X.N.Nodup) (hy : X.N[i]? = some y) (hyl : X.env.scope.names.lookup y = some .local)
    (hsw : swapsWith (.ListComp elt [⟨tg, iter, ifs, 0⟩] scope pos) (some (.Name y py)) spos.line X.env = pure true) (ok : BlkOk X.N X.env.scope scope own) (hs : ∀ j ∈ sl, j ∈ own.map (·.2)) (hi : MIr X W tg iter mi)
    (hg : InBlk X scope fun Y => MGt Y WF tg g sl) (ht : InBlk X scope fun Y => MTs Y WF ifs tt) (he : InBlk X scope fun Y => ME Y WF elt me)
    (hf : ∀ x, foldedSetIterable iter X.env x = pure x := by intro _; rfl) : MSt X W (.Assign [.Name y py] (.ListComp elt [⟨tg, iter, ifs, 0⟩] scope pos) spos) (sAsg (mLc N fr mi (own.map (·.2)) g tt me) (gNm i)) := by
  obtain ⟨t, q, s⟩ := hi
  refine ⟨_, ps_setLc (g := cG X.K g sl) (tt := cT X.K WF tt) (te := cE X.K WF me) hc hN hy hyl hsw q ok (fun s H C cl fp => (hg s H C cl fp).can) (fun s H C cl fp => ht s H C cl fp) (fun s H C cl fp => (he s H C cl fp).can) hf, fun D σ H ρ env sto h1 h2 h3 => ?_⟩
  refine lc_ok N fr s sg_can st_can se_can hs σ H ρ env sto _ h1 h2 ((FPost.bind h1 h2 h3).imp fun v s1 H1 ρ1 x1 S1 P1 => ?_)
  intro y hy
  exact P1 _ H1 ρ1 .refl S1 (by rw [setR_eq]; exact (h1.mono x1.toExtW).set i hy)
end
end Mi

noncomputable section
namespace Mi
open PySem PySem.Spec PyProof.Rows L2

/-! ### defs: what they promise -/
def spF (K : PySem.W.Frag) (n : Nat) (run : GC) : Sp := fun vs H Q E => vs.length = n ∧ ∃ (args : List PV) (ρ : Rh) (sto : Sto), RVs K H ρ args vs ∧ RSt K H ρ sto ∧ Post K E H ρ (GV K Q) (run args sto)
abbrev FOk (P : Program) (w : World) (K : PySem.W.Frag) (mg : Str → Option Value) (base : Heap) (k : Nat) (f : Addr) (fd : FuncData) (ps : List Str) (run : GC) : Prop :=
  FnOk P w K mg base (L2.CX P w) k f fd ps (spF K ps.length run)
def start' (n : Nat) (args : List PV) : Env := args.map some ++ List.replicate n none
def ret : Fl → R PV
  | .rt v s => .ok v s
  | .nx _ s => .ok .non s
  | .ex e _ s => .ex e s
  | _ => .bad
/-- m: how many names besides the parameters -/
def runB (m : Nat) (body : MS) : GC := fun args s => ret (body (start' m args) s)
section
variable {K : PySem.W.Frag} {H : Hp} {ρ : Rh} {sto : Sto}
theorem start_ok {N : List Str} {args : List PV} {vs : List V} {m : Nat} (r : RVs K H ρ args vs) (hm : N.length - vs.length = m) : REnv K H ρ (start' m args) (L2.start N vs) := by
  unfold start' L2.start
  rw [hm]
  refine ⟨by simp [r.length], fun i p e => ?_⟩
  by_cases hi : i < args.length
  · rw [List.getElem?_append_left (by simpa using hi), List.getElem?_map] at e
    cases q : args[i]? with
    | none => rw [q] at e; cases e
    | some x =>
      rw [q] at e
      cases e
      obtain ⟨y, h1, h2⟩ := r.get q
      refine ⟨y, ?_, h2⟩
      rw [List.getElem?_append_left (by rw [List.length_map, ← r.length]; exact hi), List.getElem?_map, h1]
      rfl
  · rw [List.getElem?_append_right (by simpa using Nat.le_of_not_lt hi)] at e
    rw [List.getElem?_replicate] at e
    split at e <;> cases e
end
section
variable {P : Program} {w : World} {K : PySem.W.Frag} {mg : Str → Option Value} {base : Heap} {k : Nat} {f : Addr} {fd : FuncData} {ps N : List Str} {x qual : Str} {st : Stmt}
theorem fn_bad : FOk P w K mg base k f fd ps (fun _ _ => .bad) :=
  ⟨fun _ _ _ _ h => h.1, fun _ _ _ _ _ _ _ _ _ _ _ _ _ h => let ⟨_, _, _, _, _, _, z⟩ := h; z.elim⟩
theorem fn_ok {body : MS} (m : Nat) (F : Fun K x qual st f fd) (S : FnScope N ps (defScope st)) (hm : N.length - ps.length = m)
    (hb : ∀ (cdv : Value) (A : Around) (outer : List PySem.Env) (s : Shared) (H : Hp) (E : XK), Room k (A.deeper (envOfC qual (defScope st) s.heap.objs.size f cdv)) →
      MSs (cxOf (L2.CX P w) P w K mg base N qual (defScope st) f cdv A outer s H E) (fun cls d _ H => E cls d H) (defBody st) body) :
    FOk P w K mg base (k + 1) f fd ps (runB m body) := by
  refine F.okX S (fun _ _ _ _ h => h.1) fun cdv A outer s H vs Q E hr h => ?_
  obtain ⟨hl, args, ρ, sto, r, St, P⟩ := h
  obtain ⟨t, p, z⟩ := hb cdv A outer s H E hr
  refine ⟨t, p, z _ (L2.start N vs) H ρ (start' m args) sto (start_ok r (by rw [hl]; exact hm)) St ?_⟩
  unfold runB at P
  cases q : body (start' m args) sto with
  | nx env s => rw [q] at P; exact fun σ' H' ρ' x S' _ => P H' ρ' x S' _ rfl
  | rt v s => rw [q] at P; exact fun y H' ρ' x S' hy => P H' ρ' x S' y hy
  | bk env s => rw [q] at P; exact P.elim
  | ct env s => rw [q] at P; exact P.elim
  | ex e env s => rw [q] at P; exact fun cls d σ' H' ρ' x S' _ hx => P cls d H' ρ' x S' hx
  | bad => rw [q] at P; exact P.elim
theorem FOk.mono {run : GC} {j : Nat} (h : FOk P w K mg base j f fd ps run) (hk : j ≤ k) : FOk P w K mg base k f fd ps run := FnOk.mono h hk
end

/-! ### calls of the text's own defs -/
section
variable {X : Cx} {W : WK} {k : Nat} {f : Addr} {fd : FuncData} {ps : List Str} {run : GC} {x : Str} {e : Expr} {es : List Expr} {ms mk : MA} {p pos kpos : Pos}
theorem sp_now {t : TA} (n : Nat) (hn : ∀ args s r, run args s = r → r ≠ .bad → args.length = n) (s : SA X.K W t ms) : SE X.K W (fun σ H Q => t σ H fun vs H1 => spF X.K n run vs H1 Q (WE W σ)) (mCall run ms) := by
  intro σ H ρ env sto Q hE hS hP
  refine s σ H ρ env sto _ hE hS ((hP.bind hS).imp fun v s1 H1 ρ1 x1 S1 P1 ys hys => ?_)
  refine ⟨?_, v, ρ1, s1, hys, S1, P1⟩
  rw [← hys.length]
  refine hn v s1 _ rfl fun q => ?_
  rw [q] at P1
  exact P1.elim
/-- a meaning that takes n arguments -/
def Ar (n : Nat) (run : GC) : Prop := ∀ args s r, run args s = r → r ≠ .bad → args.length = n
def ar (n : Nat) (run : GC) : GC := fun args s => bif Nat.beq args.length n then run args s else .bad
theorem ar_ok (n : Nat) (run : GC) : Ar n (ar n run) := fun args s r h hb => by
  unfold ar at h
  cases q : Nat.beq args.length n with
  | true => exact Nat.eq_of_beq_eq_true q
  | false => rw [q] at h; exact absurd h.symm hb
theorem e_call (F : FOk X.prog X.w X.K X.mg X.base k f fd ps run) (hr : Room k X.A) (tk : Takes X W) (hg : Gl X x) (hm : X.mg x = some (.ref f)) (hk : PySem.W.keepIn X.K (.ref f) = true) (hb : Binds X.K fd ps []) (ha : MEs X W (e :: es) ms)
    {n : Nat} (hn : ps.length = n := by rfl) (hdb : (x == ("__debug__" : Str)) = false := by decide) (he : starEach (e :: es) X.env = (false, eval e X.env) :: starEach es X.env := by rfl) (hpl : (backTo pos (starEach es X.env)).any (·.1) = false := by rfl) :
    ME X W (.Call (.Name x p) (e :: es) [] pos) (mCall (ar n run) ms) := by
  subst hn
  obtain ⟨t, q, s⟩ := ha
  refine ⟨_, pe_callS F hr hg hm hk hb (fun σ => passAt tk σ) q hdb he hpl, fun σ H ρ env sto Q hE hS hP => ?_⟩
  refine s σ H ρ env sto _ hE hS ((hP.bind hS).imp fun v s1 H1 ρ1 x1 S1 P1 ys hys => ?_)
  unfold ar at P1
  cases q : Nat.beq v.length ps.length with
  | false => rw [q] at P1; exact P1.elim
  | true =>
    rw [q] at P1
    exact ⟨by rw [← hys.length]; exact Nat.eq_of_beq_eq_true q, v, ρ1, s1, hys, S1, P1⟩
theorem e_call0 (F : FOk X.prog X.w X.K X.mg X.base k f fd [] run) (hr : Room k X.A) (tk : Takes X W) (hg : Gl X x) (hm : X.mg x = some (.ref f)) (hk : PySem.W.keepIn X.K (.ref f) = true) (hb : Binds X.K fd [] [])
    (hdb : (x == ("__debug__" : Str)) = false := by decide) : ME X W (.Call (.Name x p) [] [] pos) (fun _ s => run [] s) := by
  refine ⟨fun σ H Q => spF X.K 0 run [] H Q (WE W σ), ⟨fun pins s σ H Q I h => ?_⟩, fun σ H ρ env sto Q hE hS hP => ⟨rfl, [], ρ, sto, rfl, hS, hP⟩⟩
  refine wpAny_Call_Name_kw (ld_glob I hg hm ?_ hdb)
  exact PySem.W.callWith_K0 I.kIn hk (run_fnS (E := WE W) (us := []) (vs := []) F hr hb (passAt tk σ) I .nil h)
/-- keywords: how the values go to the parameters, g; in PV likewise -/
structure KB (K : PySem.W.Frag) (fd : FuncData) (ps ks : List Str) (g : List Value → List Value → List Value) (gV : List V → List V → List V) (gP : List PV → List PV → List PV) : Prop extends KBinds K fd ps ks g gV where
  relP : ∀ {H : Hp} {ρ : Rh} {vs zs : List PV} {us ws : List V}, RVs K H ρ vs us → RVs K H ρ zs ws → RVs K H ρ (gP vs zs) (gV us ws)
def MKs (X : Cx) (W : WK) (kws : List Keyword) (m : MA) : Prop := ∃ t, PK X kws t ∧ SA X.K W t m
theorem k_nil : MKs X W [] mNil := ⟨_, pk_nil, fun _ H ρ _ _ _ _ hS hP => hP H ρ .refl hS _ rfl⟩
theorem k_cons {nm : Option Str} {kws : List Keyword} {m : M} {mk : MA} (h1 : ME X W e m) (h2 : MKs X W kws mk) : MKs X W (⟨nm, e, kpos⟩ :: kws) (mCons m mk) := by
  obtain ⟨t, p, s⟩ := h1
  obtain ⟨u, q, r⟩ := h2
  refine ⟨_, pk_cons p q, fun σ H ρ env sto Q hE hS hP => ?_⟩
  refine s σ H ρ env sto _ hE hS ((hP.bind hS).imp fun v s1 H1 ρ1 x1 S1 P1 y hy => ?_)
  refine r σ H1 ρ1 env s1 _ (hE.mono x1.toExtW) S1 ((P1.bind S1).imp fun vs s2 H2 ρ2 x2 S2 P2 ys hys => ?_)
  exact P2 H2 ρ2 .refl S2 _ (.cons (hy.mono x2.toExtW) hys)
def mCallK (gP : List PV → List PV → List PV) (n : Nat) (run : GC) (ms mk : MA) : M := fun env s => (ms env s).bind fun vs s1 => (mk env s1).bind fun zs s2 => ar n run (gP vs zs) s2
theorem run_kw {ks : List Str} {g : List Value → List Value → List Value} {gV : List V → List V → List V} {gP : List PV → List PV → List PV} {pins : List (Addr × Obj)} {σ : L2.St} {H : Hp} {s : Shared} {Q : VK} {us ws : List Value} {vs zs : List V}
    (F : FOk X.prog X.w X.K X.mg X.base k f fd ps run) (hr : Room k X.A) (tk : Takes X W) (hb : KB X.K fd ps ks g gV gP)
    (I : Inv X pins σ H s) (r : Vals vs us) (rz : Vals zs ws) (h : spF X.K ps.length run (gV vs zs) H Q (WE W σ)) : wpAny (model X.prog X.w) X.A (call (.ref f) us (ks.zip ws)) (EP X pins σ Q) X.xe s := by
  have r2 := hb.rel r rz
  have hl : (g us ws).length = ps.length := by rw [← r2.length]; exact F.len _ _ _ _ h
  have c := F.run X.A X.stack s H ⟨us, ks.zip ws⟩ (g us ws) (gV vs zs) Q (WE W σ) hr I.env0 (hb.to s us ws I.kIn hl) r2 h
  refine wpAny_call (codeAny_mono c fun r s' hq => ?_)
  match r, hq with
  | .error e, hq => exact passAt tk σ pins H s e s' I hq
  | .ok (.ret u), hq => exact I.after hq
  | .ok .next, hq => exact hq.elim
  | .ok .brk, hq => exact hq.elim
  | .ok .cont, hq => exact hq.elim
theorem e_callK {ks : List Str} {g : List Value → List Value → List Value} {gV : List V → List V → List V} {gP : List PV → List PV → List PV} {kws : List Keyword}
    (F : FOk X.prog X.w X.K X.mg X.base k f fd ps run) (hr : Room k X.A) (tk : Takes X W) (hg : Gl X x) (hm : X.mg x = some (.ref f)) (hk : PySem.W.keepIn X.K (.ref f) = true) (hb : KB X.K fd ps ks g gV gP)
    (ha : MEs X W (e :: es) ms) (hkw : MKs X W kws mk) {n : Nat} (hn : ps.length = n := by rfl) (hall : (backToKw pos (keywordEach kws X.env)).all (·.1.isSome) = true := by rfl) (hks : (backToKw pos (keywordEach kws X.env)).filterMap (·.1) = ks := by rfl)
    (hdb : (x == ("__debug__" : Str)) = false := by decide) (he : starEach (e :: es) X.env = (false, eval e X.env) :: starEach es X.env := by rfl)
    (hpl : ((backTo pos (starEach (e :: es) X.env)).any (·.1) || (backToKw pos (keywordEach kws X.env)).any (·.1.isNone)) = false := by rfl) :
    ME X W (.Call (.Name x p) (e :: es) kws pos) (mCallK gP n run ms mk) := by
  subst hn
  obtain ⟨t, q, s⟩ := ha
  obtain ⟨u, qk, sk⟩ := hkw
  refine ⟨fun σ H Q => t σ H fun vs H1 => u σ H1 fun zs H2 => spF X.K ps.length run (gV vs zs) H2 Q (WE W σ), ⟨fun pins st σ H Q I h => ?_⟩, fun σ H ρ env sto Q hE hS hP => ?_⟩
  · refine wpAny_Call_Name_kw (ld_glob I hg hm ?_ hdb)
    refine PySem.W.callWith_KW (h₀ := X.base) I.ok.mod.kin hk hall (thn (q.run pos pins st σ H _ I h) fun us s1 ⟨vs, H1, I1, r, q1⟩ => ?_) hpl he
    refine thn (qk.run pos pins s1 σ H1 _ I1 q1) fun ws s2 ⟨zs, H2, I2, rz, q2⟩ => ⟨I2.kIn, ?_⟩
    rw [hks]
    exact run_kw F hr tk hb I2 r rz q2
  · refine s σ H ρ env sto _ hE hS ((hP.bind hS).imp fun v s1 H1 ρ1 x1 S1 P1 ys hys => ?_)
    refine sk σ H1 ρ1 env s1 _ (hE.mono x1.toExtW) S1 ((P1.bind S1).imp fun z s2 H2 ρ2 x2 S2 P2 us hus => ?_)
    have rr := hb.relP (hys.mono x2.toExtW) hus
    unfold ar at P2
    cases q : Nat.beq (gP v z).length ps.length with
    | false => rw [q] at P2; exact P2.elim
    | true =>
      rw [q] at P2
      exact ⟨by rw [← rr.length]; exact Nat.eq_of_beq_eq_true q, _, ρ2, s2, rr, S2, P2⟩
end
end Mi

noncomputable section
namespace Mi
open PySem PySem.Spec PyProof.Rows L2
section
variable {X : Cx} {W : WK}
/-- the name that stands in the i-th slot -/
theorem e_v (i : Nat) {x : Str} {pos : Pos} (hN : X.N[i]? = some x := by rfl) (hv : Vis X.env.scope x := by first | exact Or.inl rfl | exact Or.inr (Or.inl rfl) | exact Or.inr (Or.inr rfl)) (hd : (x == ("__debug__" : Str)) = false := by decide)
    (hcd : (x == ("__classdict__" : Str)) = false := by decide) : ME X W (.Name x pos) (mVar i) := e_var hN hv hd hcd
theorem gl_of {x : Str} (h : X.env.kindOf x = some .globalImplicit) : Gl X x := h
end
/-! math.lcm -/
def okL (a b : Int) : Bool := Nat.blt (max 1 a.natAbs).log2 13000 && Nat.blt (max a.natAbs b.natAbs).log2 13000
def gLcm : GC := fun xs s => match xs with
  | [.int a, .int b] => bif okL a b then .ok (.int ((Nat.lcm a.natAbs b.natAbs : Nat) : Int)) s else .bad
  | _ => .bad
def rLcm : List V → Hp → VK → Prop := fun vs H Q => ∃ a b : Int, vs = [.int a, .int b] ∧ okL a b = true ∧ Q (.int ((Nat.lcm a.natAbs b.natAbs : Nat) : Int)) H
theorem log2_mono' {a b : Nat} (h : a ≤ b) : a.log2 ≤ b.log2 := by
  by_cases h0 : a = 0
  · subst h0; simp
  · exact (Nat.le_log2 (by omega)).mpr (Nat.le_trans (Nat.log2_self_le h0) h)
theorem lcm_log {a b : Nat} (ha : a.log2 < 13000) (hb : b.log2 < 13000) : (Nat.lcm a b).log2 < 26002 := by
  by_cases h0 : Nat.lcm a b = 0
  · rw [h0]; simp
  · have h1 : Nat.lcm a b ≤ a * b := Nat.le_of_dvd (Nat.pos_of_ne_zero fun e => by
      rcases Nat.mul_eq_zero.mp e with z | z
      · rw [z, Nat.lcm_zero_left] at h0; exact h0 rfl
      · rw [z, Nat.lcm_zero_right] at h0; exact h0 rfl) (Nat.lcm_dvd_mul a b)
    have h2 : a < 2 ^ 13000 := by
      by_cases z : a = 0
      · rw [z]; exact Nat.two_pow_pos _
      · exact (Nat.log2_lt z).mp ha
    have h3 : b < 2 ^ 13000 := by
      by_cases z : b = 0
      · rw [z]; exact Nat.two_pow_pos _
      · exact (Nat.log2_lt z).mp hb
    refine (Nat.log2_lt h0).mpr (Nat.lt_of_le_of_lt h1 (Nat.lt_of_lt_of_le (Nat.mul_lt_mul'' h2 h3) ?_))
    rw [← Nat.pow_add]
    exact Nat.pow_le_pow_right (by decide) (by decide)
theorem cr_lcm {X : Cx} : CallR X (.builtin "math.lcm") rLcm := by
  intro pins s σ H vs us Q I r h
  obtain ⟨a, b, rfl, hq, q⟩ := h
  obtain ⟨t, u, rfl⟩ := Vals.int2 r
  unfold okL at hq
  rw [Bool.and_eq_true] at hq
  have h1 : (max 1 a.natAbs).log2 < 13000 := Nat.le_of_ble_eq_true hq.1
  have h2 : (max a.natAbs b.natAbs).log2 < 13000 := Nat.le_of_ble_eq_true hq.2
  have e : (Nat.lcm 1 a.natAbs).lcm b.natAbs = Nat.lcm a.natAbs b.natAbs := by rw [Nat.lcm_one_left]
  have ha : a.natAbs.log2 < 13000 := Nat.lt_of_le_of_lt (log2_mono' (Nat.le_max_left _ _)) h2
  have hb : b.natAbs.log2 < 13000 := Nat.lt_of_le_of_lt (log2_mono' (Nat.le_max_right _ _)) h2
  have hz : ((((Nat.lcm 1 a.natAbs).lcm b.natAbs : Nat) : Int)).natAbs.log2 < bitsLine := by
    rw [e, Int.natAbs_natCast]
    exact Nat.lt_of_lt_of_le (lcm_log ha hb) (by decide)
  have g := PySem.W.mg_run_lcm a t b u (by omega) (by omega) hz
  rw [e] at g
  exact call_function_meets PySem.W.MGF.kind_lcm PySem.W.MGF.plain_lcm PySem.W.MGF.entry_lcm (PySem.W.MGF.args_lcm _ _) g.meets ⟨.int _, H, I.tok _, ⟨_, rfl⟩, q⟩
theorem g_lcm {K : PySem.W.Frag} : SRc K rLcm gLcm := by
  intro WP H ρ sto xs vs Q S r P
  unfold gLcm at P
  split at P
  · obtain ⟨v, u, rfl, h1, h2⟩ := r.two
    cases h1; cases h2
    obtain ⟨hq, P⟩ := and_of (C := Post K WP H ρ (GV K Q)) P (fun z => z)
    exact ⟨_, _, rfl, hq, now S P rfl⟩
  · exact P.elim
section
variable {X : Cx} {W : WK} {e tg : Expr} {es : List Expr} {ms : MA} {m : M} {p pos : Pos}
theorem e_lcm (gl : Gl X "lcm") (hm : X.mg "lcm" = some (.builtin "math.lcm")) (ha : MEs X W (e :: es) ms) (he : starEach (e :: es) X.env = (false, eval e X.env) :: starEach es X.env := by rfl) (hpl : (backTo pos (starEach es X.env)).any (·.1) = false := by rfl) :
    ME X W (.Call (.Name "lcm" p) (e :: es) [] pos) (mCall gLcm ms) := e_callBf cr_lcm g_lcm gl hm ha (by decide) he hpl
/-- a list or a tuple is walked -/
def itAny (s : Sto) : PV → Option MIt
  | .tup xs => some fun i _ => nthC xs i
  | v => itOf s v
def iAny (m : M) : MI := fun env s => (m env s).bind fun v s1 => match itAny s1 v with
  | some J => .ok J s1
  | none => .bad
theorem i_any (h : ME X W e m) : MIr X W tg e (iAny m) := by
  obtain ⟨t, q, s⟩ := h
  refine ⟨fun σ H R => L2.iList X.K t σ H R ∨ L2.iTup X.K t σ H R, ⟨fun pins st σ H R I h => h.elim (fun h => (pi_list q).run pins st σ H R I h) fun h => (pi_tup q).run pins st σ H R I h⟩, ?_⟩
  intro σ H ρ env sto Rk hE hS hP
  unfold iAny at hP
  cases r : m env sto with
  | bad => rw [r] at hP; exact hP.elim
  | ex x s1 =>
    rw [r] at hP
    exact .inl (s σ H ρ env sto _ hE hS (by rw [r]; exact hP))
  | ok v s1 =>
    rw [r] at hP
    have hP : Post X.K (fun c d h => W c d σ h) H ρ (fun J _ H' ρ' => ∀ Jh, ItOk X.K H' ρ' Jh J → Rk Jh H') (match itAny s1 v with
      | some J => .ok J s1
      | none => .bad) := hP
    cases k : itAny s1 v with
    | none => rw [k] at hP; exact hP.elim
    | some J =>
      rw [k] at hP
      have lst : itOf s1 v = some J → L2.iList X.K t σ H Rk := fun k => by
        refine s σ H ρ env sto _ hE hS ?_
        rw [r]
        intro H' ρ' x S y hy
        obtain ⟨a, ys, rfl, h1, h2⟩ := itOf_ok S hy k
        exact ⟨a, rfl, ⟨ys, h1⟩, hP H' ρ' x S _ (itl_ok h2)⟩
      cases v with
      | tup xs =>
        cases k
        refine .inr (s σ H ρ env sto _ hE hS ?_)
        rw [r]
        intro H' ρ' x S y hy
        obtain ⟨a, ys, rfl, h1, h2⟩ := hy
        exact ⟨a, rfl, ⟨ys, h1.sq⟩, hP H' ρ' x S _ (itt_ok h1 h2)⟩
      | _ => exact .inl (lst k)
/-- e_lc, s_lc with the slots told ahead -/
theorem e_lcv {elt tg iter : Expr} {ifs : List Expr} {scope : Scope} {own : List (Str × Nat)} {pos : Pos} {mi : MI} {g : MG} {tt : MT} {me : M} {sl : List Nat} (N : Nat) (fr : Bool) (vs : List Nat) (hc : X.calm = true) (hN : X.N.Nodup) (ok : BlkOk X.N X.env.scope scope own) (hs : ∀ j ∈ sl, j ∈ vs) (hi : MIr X W tg iter mi)
    (hg : InBlk X scope fun Y => MGt Y WF tg g sl) (ht : InBlk X scope fun Y => MTs Y WF ifs tt) (he : InBlk X scope fun Y => ME Y WF elt me) (hv : own.map (·.2) = vs := by rfl)
    (hf : ∀ x, foldedSetIterable iter X.env x = pure x := by intro _; rfl) : ME X W (.ListComp elt [⟨tg, iter, ifs, 0⟩] scope pos) (mLc N fr mi vs g tt me) := by
  subst hv
  exact e_lc N fr hc hN ok hs hi hg ht he hf
theorem s_lcv {elt tg iter : Expr} {ifs : List Expr} {scope : Scope} {own : List (Str × Nat)} {pos : Pos} {mi : MI} {g : MG} {tt : MT} {me : M} {sl : List Nat} {i : Nat} {y : Str} {py : Pos} {spos : Pos} (N : Nat) (fr : Bool) (vs : List Nat) (hc : X.calm = true) (hN : X.N.Nodup) (hy : X.N[i]? = some y) (hyl : X.env.scope.names.lookup y = some .local)
    (hsw : swapsWith (.ListComp elt [⟨tg, iter, ifs, 0⟩] scope pos) (some (.Name y py)) spos.line X.env = pure true) (ok : BlkOk X.N X.env.scope scope own) (hs : ∀ j ∈ sl, j ∈ vs) (hi : MIr X W tg iter mi)
    (hg : InBlk X scope fun Y => MGt Y WF tg g sl) (ht : InBlk X scope fun Y => MTs Y WF ifs tt) (he : InBlk X scope fun Y => ME Y WF elt me) (hv : own.map (·.2) = vs := by rfl)
    (hf : ∀ x, foldedSetIterable iter X.env x = pure x := by intro _; rfl) : MSt X W (.Assign [.Name y py] (.ListComp elt [⟨tg, iter, ifs, 0⟩] scope pos) spos) (sAsg (mLc N fr mi vs g tt me) (gNm i)) := by
  subst hv
  exact s_lc N fr hc hN hy hyl hsw ok hs hi hg ht he hf
end
end Mi

namespace PySem
namespace MiX
open Builtin Builtin.ObjectAttr
section
variable {prog : Program} {w : World} {A : Around} {E : Value → Shared → Prop} {h : Heap} {g : Array GenState} {d : Drawn} {t : Nat} {os : OsState} {C : Addr} {B newId initId : String} {bm bc : List Value}
variable {nm qn : Str} {N : Addr} {bs : List Value} {hdct : Bool} {sn : List Str} {sub : List Value} {ab : Bool} {col : Option Bool} {dd : Option Addr} {k0 k1 k2 k3 k5 : Option Value}
theorem knew_chk {M : Model} (F : ExcBaseFacts B newId initId bm) (hT : ∀ Y : String, bc.contains (.type Y) = bm.contains (.type Y)) {kw : List (Str × Value)} {Q : Unit → Shared → Prop}
    (hC : h.get? C = some (excClassObj nm qn C N bs bc hdct sn sub ab col dd k0 k1 k2 k3 k5 newId)) (q : Q () ⟨h, g, d, t, os⟩) : wpAny M A (checkBuiltinCall newId ⟨[.ref C], kw⟩) Q E ⟨h, g, d, t, os⟩ := by
  have c1 : (Value.ref C :: bc).contains (.type B) = true := by rw [List.contains_cons, hT, F.hasB, Bool.or_true]
  have c2 := F.noStar
  simp only [checkBuiltinCall, F.newKind, F.newSplit, F.newRow]
  repeat (first | refine wpAny_loadPart_at hC ?_ | (refine wpAny_isSubtype_exc hC ?_; rw [c1]) | refine wpAny_staticBase_exc hC ?_ | refine wpAny_madeBy_exc hC ?_ | simp only [bne_self_eq_false, Bool.false_eq_true, if_false] | wp_step)
  exact q
theorem knew (F : ExcBaseFacts B newId initId bm) (hT : ∀ Y : String, bc.contains (.type Y) = bm.contains (.type Y)) {kw : List (Str × Value)} {R : Result → Shared → Prop}
    (hC : h.get? C = some (excClassObj nm qn C N bs bc hdct sn sub ab col dd k0 k1 k2 k3 k5 newId))
    (q : R (.ok (.ret (.ref (h.objs.size + 1)))) ⟨(h.push (PySem.W.kdv_tup [])).push (PySem.HandSPX.excO C h.objs.size), g, d, t, os⟩) :
    codeAny (model prog w) A (.builtin newId ⟨[.ref C], kw⟩) R ⟨h, g, d, t, os⟩ := by
  have c0 := F.ends
  have c1 : (Value.ref C :: bc).contains (.type B) = true := by rw [List.contains_cons, hT, F.hasB, Bool.or_true]
  have c2 : (Value.ref C :: bc).contains (.type "AttributeError") = false := by rw [List.contains_cons, hT, F.noAttr]; rfl
  have c3 : (Value.ref C :: bc).contains (.type "NameError") = false := by rw [List.contains_cons, hT, F.noName]; rfl
  refine codeAny_builtinAt F.entry ?_
  unfold Builtin.«BaseException.__new__»
  refine wpAt_bind ?_
  show wpAt _ _ _ (stack >>= _) _ _ _
  refine wpAt_bind (wpAt_stack fun p below => wpAt_of_wpAny ?_)
  wp_walk
  refine wpAt_of_wpAny ?_
  rw [F.owner]
  repeat (first | with_reducible refine wpAny_madeHere_exc F.canon hC ?_ | with_reducible refine wpAny_loadPart_at hC ?_ | (with_reducible refine wpAny_isSubtype_exc hC ?_; first | rw [c1] | rw [c2] | rw [c3]) | wp_step)
  show R _ _
  rw [Heap.size_push]
  exact q
theorem kcall (F : ExcBaseFacts B newId initId bm) (hT : ∀ Y : String, bc.contains (.type Y) = bm.contains (.type Y)) {kw : List (Str × Value)} {fI : Addr} {Q : Fin → Shared → Prop}
    (hC : h.get? C = some (excClassObj nm qn C N bs bc hdct sn sub ab col dd k0 k1 k2 k3 k5 newId))
    (hi : W.Looks (model prog w) h (typeLookup (.ref C) "__init__") (some (.ref fI))) (hb : ∀ v, W.Looks (model prog w) h (bindSpecial (.ref fI) v) (.ref fI, [v]))
    (q : codeAny (model prog w) A (.call (.ref fI) ⟨[.ref (h.objs.size + 1)], kw⟩)
      (fun r s' => match r with | .ok (.ret v) => v = .none ∧ Q (.done (.ret (.ref (h.objs.size + 1)))) s' | .ok _ => False | .error e => E e s')
      ⟨(h.push (W.kdv_tup [])).push (HandSPX.excO C h.objs.size), g, d, t, os⟩) :
    wpAny (model prog w) A (Builtin.«type.__call__» ⟨[.ref C], kw⟩) Q E ⟨h, g, d, t, os⟩ := by
  repeat (first | with_reducible refine wpAny_loadPart_at hC ?_ | with_reducible refine wpAny_madeBy_exc hC ?_ | wp_step)
  refine codeAny_call_builtin_code (Code.quiet_builtin _ F.quiet) (knew_chk F hT hC ?_)
  refine knew F hT hC ?_
  show wpAny _ _ _ _ _ _
  have kk : ∀ b o, h.get? b = some o → ((h.push (W.kdv_tup [])).push (HandSPX.excO C h.objs.size)).get? b = some o := fun b o z => Heap.get?_push_of_some _ (Heap.get?_push_of_some _ z)
  have hC' := kk _ _ hC
  have hx : ((h.push (W.kdv_tup [])).push (HandSPX.excO C h.objs.size)).get? (h.objs.size + 1) = some (HandSPX.excO C h.objs.size) := by heap_get
  have cc : (Value.ref C :: bc).contains (.ref C) = true := by simp
  have i' := hi.keeps kk
  have b' := (hb (.ref (h.objs.size + 1))).keeps kk
  unfold isInstance
  repeat (first | with_reducible refine wpAny_loadPart_at hx ?_ | (with_reducible refine wpAny_isSubtype_exc hC' ?_; rw [cc]) | wp_step)
  show wpAny _ _ (typeLookup (.ref C) _) _ _ _
  refine i'.at ?_
  refine wpAny_holding (wpAny_bind (b'.at ?_))
  refine wpAny_bind (wpAny_call (codeAny_mono q fun r s' z => ?_))
  rcases r with e | (v | _ | _ | _) <;> first | exact z | exact z.elim | skip
  obtain ⟨rfl, z⟩ := z
  first
    | exact wpAny_pure (wpAny_pure z)
    | (wp_walk; exact z)
theorem kown (F : ExcBaseFacts B newId initId bm) (hT : ∀ Y : String, bc.contains (.type Y) = bm.contains (.type Y)) {kw : List (Str × Value)} {fI : Addr} {R : Result → Shared → Prop}
    (hC : h.get? C = some (excClassObj nm qn C N bs bc hdct sn sub ab col dd k0 k1 k2 k3 k5 newId))
    (hi : W.Looks (model prog w) h (typeLookup (.ref C) "__init__") (some (.ref fI))) (hb : ∀ v, W.Looks (model prog w) h (bindSpecial (.ref fI) v) (.ref fI, [v]))
    (q : codeAny (model prog w) (A.under (.builtin "type.__call__" ⟨[.ref C], kw⟩)) (.call (.ref fI) ⟨[.ref (h.objs.size + 1)], kw⟩) (W.InitBack (h.objs.size + 1) R)
      ⟨(h.push (W.kdv_tup [])).push (HandSPX.excO C h.objs.size), g, d, t, os⟩) :
    codeAny (model prog w) A (.call (.ref C) ⟨[], kw⟩) R ⟨h, g, d, t, os⟩ := by
  have f1 := tc_lookup
  have f2 := tc_bind (.ref C)
  have f3 : (⟨h, g, d, t, os⟩ : Shared).TypeIs (.ref C) "type" := ⟨_, hC, rfl⟩
  refine codeAny_of_tree ?_
  show wpAny _ _ (callAny (.ref C) _) _ _ _
  repeat (any_goals (first | assumption | with_reducible refine wpAny_loadPart_at hC ?_ | wp_step))
  refine ⟨rfl, ?_⟩
  refine codeAny_call_builtin_at (Code.quiet_builtin _ (by decide +kernel)) entry_typeCall (wpAny_check_type_call_sub hC (kcall F hT hC hi hb ?_))
  refine codeAny_mono q fun r s' z => ?_
  rcases r with e | (v | _ | _ | _) <;> exact z
end
end MiX
end PySem

noncomputable section
namespace Mi
open PySem PySem.Spec PyProof.Rows L2

/-! ### exceptions of the text's own classes, in hand -/
/-- how the instances of a class of exceptions are read -/
structure OxA (K : PySem.W.Frag) (C : Addr) : Prop where
  hd : PySem.W.hasDictIn K C = true
  ga : PySem.W.findIn K (.ref C) "__getattribute__" = some (some (.builtin "BaseException.__getattribute__"))
  gg : PySem.W.findIn K (.ref C) "__getattr__" = some none
  exC : PySem.W.subIn K (.ref C) (.type "BaseException") = some true
  cl : PySem.W.findIn K (.ref C) "__class__" = some (some (.builtin "object.__class__"))
  ob : PySem.W.mroIn K C (.type "object") = some true
  ty : PySem.W.typeIn K (.ref C) = some (.type "type")
/-- .. and made -/
structure OxC (K : PySem.W.Frag) (newId : String) (bm : List Value) (C : Addr) : Prop where
  ini : PySem.W.excInitIn K C bm newId = true
  ovr : PySem.W.excOver K C bm = true
  sa : PySem.W.findIn K (.ref C) "__setattr__" = some (some (.builtin "object.__setattr__"))
  kC : PySem.W.keepIn K (.ref C) = true
  A : OxA K C
structure OxK (K : PySem.W.Frag) : Prop where
  gs : PySem.W.specialIn K (.builtin "object.__class__") "__get__" = some (some (.builtin "getset_descriptor.__get__"))
  tk : PySem.W.takesIn K (.builtin "object.__class__") = some true
section
variable {X : Cx} {pins : List (Addr × Obj)} {σ : L2.St} {H : Hp} {s : Shared} {a C : Addr} {B newId initId : String} {bm : List Value}
/-- B.__init__(self, ..) -/
theorem binit (FB : ExcBaseFacts B newId initId bm) (q : PySem.W.excInitIn X.K C bm newId = true) {us : List Value} {Q : Value → Shared → Prop} {E : Value → Shared → Prop} {A : Around} (I : Inv X pins σ H s) (e : H a = some (exo a C none)) (hl : us.length ≤ sizeLine)
    (h : ∀ s', Inv X pins σ H s' → Q .none s') : wpAny (model X.prog X.w) A (call (.builtin initId) (.ref a :: us)) Q E s := by
  obtain ⟨nm, N, qn, bs, bc, hdct, sn, sub, ab, col, dd, k0, k1, k2, k3, k5, hC, hT⟩ := PySem.W.excInit_of I.kIn q
  obtain ⟨t1, ho⟩ := exo_at I.hok e
  obtain ⟨hp, g, d, t, os⟩ := s
  refine wpAny_call (PySem.HandSPX.init_base FB hT hC ho hl fun h' t2 kk hx => ?_)
  have J : Inv X pins σ (upd H a (exo a C none)) ⟨h', g, d, t, os⟩ := I.write (t' := t) (x := a) (e := a) (by rw [e]; exact True.intro) (.inl rfl) kk ⟨_, hx⟩ (exo_ok hx)
  have eu : upd H a (exo a C none) = H := funext fun b => by
    by_cases hb : b = a
    · rw [hb, upd_same, e]
    · exact upd_ne hb
  exact h _ (eu ▸ J)
/-- self.f = y, the first field -/
theorem bset (SF : StoreFacts B bm "object.__setattr__" "object") (T : OxC X.K newId bm C) {f : Str} {y : V} {u : Value} {Q : Unit → Shared → Prop} {E : Value → Shared → Prop} {A : Around} (I : Inv X pins σ H s) (e : H a = some (exo a C none)) (hno : PySem.W.takerIn X.K C f = some none) (ry : RelV y u)
    (h : ∀ dx s', H dx = none → dx ≠ a → Inv X pins σ (upd (upd H dx (exd dx [(f, y)])) a (exo a C (some dx))) s' → Q () s') : wpAny (model X.prog X.w) A (setAttr (.ref a) f u) Q E s := by
  obtain ⟨t1, ho⟩ := exo_at I.hok e
  obtain ⟨hp, g, d, t, os⟩ := s
  have In : PySem.W.InstAt hp a { cls := .ref C, dict := none, data := .fields #[.ref t1, .none, .none, .none, .bool false, .none] } C none := ⟨ho, rfl, rfl, trivial⟩
  refine PySem.W.set_plain I.kIn In T.sa ?_
  refine PySem.W.osa_openX SF (s := ⟨hp, g, d, t + 1, os⟩) I.kIn In T.ovr hno fun b => ?_
  have hxs : a ≠ hp.objs.size := Nat.ne_of_lt (Heap.lt_size ho)
  obtain ⟨cd, hcd, hh⟩ := PySem.W.any_some (show (PySem.W.clsIn X.K C).any (·.hasDict) = true from T.A.hd)
  have hcls : PySem.W.Looks (model X.prog X.w) hp (classData C) cd := PySem.W.looks_clsIn I.kIn hcd
  obtain ⟨nm, bs, mro, ns, qn, hdc, sn, sb, ab, col, del⟩ := cd
  dsimp only at hh
  subst hh
  dsimp only
  unfold Builtin.ObjectAttr.storeInOwnDict Builtin.ObjectAttr.ownDictForStores
  repeat (first | with_reducible refine PySem.HandSPX.store_in_new ?_ ?_ | with_reducible refine wpAny_loadPart_at ho ?_ | with_reducible refine hcls.at ?_ | wp_step)
  · exact ⟨_, #[], _, (Heap.get?_update_ne _ _ _ _ hxs.symm).trans (Heap.get?_push_at rfl rfl), rfl, fun z hz => absurd hz (by simp), fun _ => rfl⟩
  · intro h' tk' hn' hs
    have hnd : H hp.objs.size = none := I.hok.fresh (Nat.le_refl _)
    have kk : ∀ c o, c ≠ a → hp.get? c = some o → h'.get? c = some o := fun c o n z => (hs.2 c (Nat.ne_of_lt (Heap.lt_size z))).trans ((Heap.get?_update_ne _ _ _ _ n).trans (Heap.get?_push_of_some _ z))
    have hx : h'.get? a = some ({ cls := .ref C, dict := some hp.objs.size, data := .fields #[.ref t1, .none, .none, .none, .bool false, .none] } : Obj) := (hs.2 a hxs).trans (Heap.get?_update_self _ (Heap.get?_push_of_some _ ho) rfl)
    have nd : ∀ {c : Addr} {o : Obj}, hp.get? c = some o → c ≠ hp.objs.size := fun z => Nat.ne_of_lt (Heap.lt_size z)
    have na : ∀ {c : Addr}, H c = none → c ≠ a := fun n z => by rw [z, e] at n; cases n
    have U : Un X.fs [] H (upd (upd H hp.objs.size (exd hp.objs.size [(f, y)])) a (exo a C (some hp.objs.size))) hp h' := {
      keep := fun c o z n _ _ => kk c o (na n) z
      slot := fun c o z n _ _ => ⟨o.slots, kk c o (na n) z⟩
      free := fun c o z n _ => by rw [upd_ne (na n), upd_ne (nd z)]; exact n
      there := fun c o z _ => by
        by_cases hc : c = a
        · exact ⟨_, by rw [hc]; exact hx⟩
        · exact ⟨o, kk c o hc z⟩
      tups := fun c xs z => by rw [upd_ne (at_ne e z exo_tup), upd_ne (ne_of_none z hnd)]; exact z
      frzs := fun c o v z => by rw [upd_ne (at_ne e z exo_frz), upd_ne (ne_of_none z hnd)]; exact z
      tbls := fun c ps z => ⟨#[], by rw [upd_ne (at_ne e z exo_tbl), upd_ne (ne_of_none z hnd), z]; simp⟩ }
    refine h hp.objs.size _ hnd hxs.symm (I.un (t' := tk') U fun c o z => ?_)
    by_cases hc : c = a
    · subst hc
      rw [upd_same] at z; cases z
      exact exo_ok hx
    · rw [upd_ne hc] at z
      by_cases hd : c = hp.objs.size
      · subst hd
        rw [upd_same] at z; cases z
        exact exd_ok hn' (relO_put (fs := []) ry fun _ => True.intro)
      · rw [upd_ne hd] at z
        refine (I.hok c o z).stay (fun b v hb q => kk b v ?_ q) (fun b q => by rw [upd_ne (at_ne e q exo_own), upd_ne (ne_of_none q hnd)]; exact q) fun b xs q => by rw [upd_ne (at_ne e q exo_tup), upd_ne (ne_of_none q hnd)]; exact q
        rcases hb with hb | hb
        · rw [hb]; exact hc
        · exact at_ne e hb exo_own
/-- C(..), its own __init__ keeping sp -/
theorem bnew {W : WK} {x : Str} {fI : Addr} {k : Nat} {fd : FuncData} {ps : List Str} {sp : Sp} (FB : ExcBaseFacts B newId initId bm) (T : OxC X.K newId bm C) (iC : PySem.W.findIn X.K (.ref C) "__init__" = some (some (.ref fI))) (tI : PySem.W.typeIn X.K (.ref fI) = some (.type "function"))
    (F : FnOk X.prog X.w X.K X.mg X.base (L2.CX X.prog X.w) k fI fd ps sp) (hr : Room (k + 1) X.A) (hb : Binds X.K fd ps []) (tk : Takes X W) {us : List Value} {vs : List V} {Q : VK} (I : Inv X pins σ H s) (r : Vals vs us) (hl : us.length ≤ 1000)
    (h : ∀ a, H a = none → sp (.ref a :: vs) (upd H a (exo a C none)) (fun v H2 => v = .non ∧ Q (.ref a) H2) (WE W σ)) : wpAny (model X.prog X.w) X.A (call (.ref C) us) (EP X pins σ Q) X.xe s := by
  obtain ⟨nm, N, qn, bs, bc, hdct, sn, sub, ab, col, dd, k0, k1, k2, k3, k5, hC, hT⟩ := PySem.W.excInit_of I.kIn T.ini
  obtain ⟨hp, g, dr, t, os⟩ := s
  have hsz : hp.objs.size ≤ hp.objs.size + 1 := Nat.le_succ _
  have hq := h (hp.objs.size + 1) (I.hok.fresh hsz)
  have kk : ∀ b o, hp.get? b = some o → ((hp.push (PySem.W.kdv_tup us)).push (PySem.HandSPX.excO C hp.objs.size)).get? b = some o := fun b o z => Heap.get?_push_of_some _ (Heap.get?_push_of_some _ z)
  have hget : ((hp.push (PySem.W.kdv_tup us)).push (PySem.HandSPX.excO C hp.objs.size)).get? (hp.objs.size + 1) = some (PySem.HandSPX.excO C hp.objs.size) := by heap_get
  have J : Inv X pins σ (upd H (hp.objs.size + 1) (exo (hp.objs.size + 1) C none)) ⟨(hp.push (PySem.W.kdv_tup us)).push (PySem.HandSPX.excO C hp.objs.size), g, dr, t, os⟩ :=
    I.laid (t' := t) (a := hp.objs.size + 1) kk hsz (exo_ok hget)
  have r2 : Vals (V.ref (hp.objs.size + 1) :: vs) (Value.ref (hp.objs.size + 1) :: us) := .cons rfl r
  have hlen : (Value.ref (hp.objs.size + 1) :: us).length = ps.length := by
    rw [← r2.length]; exact F.len _ _ _ _ hq
  have b := hb _ (Value.ref (hp.objs.size + 1) :: us) J.kIn (by rw [List.append_nil]; exact hlen)
  rw [List.append_nil] at b
  refine wpAny_call (PySem.HandSPX.call_own FB hT hC (PySem.W.looks_findIn I.kIn iC) (fun self => PySem.W.bind_fn I.kIn self tI) (Nat.le_trans hl (by rw [sizeLine_eq]; omega))
    (codeAny_mono (F.run _ X.stack _ _ ⟨Value.ref (hp.objs.size + 1) :: us, []⟩ _ _ _ _ (hr.make C us []) (J.env0.make C us []) b r2 hq) fun r' s' z => ?_))
  match r', z with
  | .error er, z => exact passAt tk σ pins _ _ er s' J z
  | .ok (.ret u), z =>
    obtain ⟨v, H', J', rv, hv, q⟩ := J.after z
    subst hv
    exact ⟨rv, .ref (hp.objs.size + 1), H', J', rfl, q⟩
  | .ok .next, z => exact z.elim
  | .ok .brk, z => exact z.elim
  | .ok .cont, z => exact z.elim
/-- C(f=..) -/
theorem bnewK {W : WK} {fI : Addr} {k : Nat} {fd : FuncData} {ps : List Str} {sp : Sp} (FB : ExcBaseFacts B newId initId bm) (T : OxC X.K newId bm C) (iC : PySem.W.findIn X.K (.ref C) "__init__" = some (some (.ref fI))) (tI : PySem.W.typeIn X.K (.ref fI) = some (.type "function"))
    (F : FnOk X.prog X.w X.K X.mg X.base (L2.CX X.prog X.w) k fI fd ps sp) (hr : Room (k + 1) X.A) (tk : Takes X W) {kw : List (Str × Value)} {us : List Value} {vs : List V} {Q : VK} (I : Inv X pins σ H s) (r : Vals vs us)
    (hb : ∀ (s : Shared) (a : Addr), BindsTo s fd ⟨[.ref a], kw⟩ (ps.zip (.ref a :: us)))
    (h : ∀ a, H a = none → sp (.ref a :: vs) (upd H a (exo a C none)) (fun v H2 => v = .non ∧ Q (.ref a) H2) (WE W σ)) : wpAny (model X.prog X.w) X.A (call (.ref C) [] kw) (EP X pins σ Q) X.xe s := by
  obtain ⟨nm, N, qn, bs, bc, hdct, sn, sub, ab, col, dd, k0, k1, k2, k3, k5, hC, hT⟩ := PySem.W.excInit_of I.kIn T.ini
  obtain ⟨hp, g, dr, t, os⟩ := s
  have hsz : hp.objs.size ≤ hp.objs.size + 1 := Nat.le_succ _
  have hq := h (hp.objs.size + 1) (I.hok.fresh hsz)
  have kk : ∀ b o, hp.get? b = some o → ((hp.push (PySem.W.kdv_tup [])).push (PySem.HandSPX.excO C hp.objs.size)).get? b = some o := fun b o z => Heap.get?_push_of_some _ (Heap.get?_push_of_some _ z)
  have hget : ((hp.push (PySem.W.kdv_tup [])).push (PySem.HandSPX.excO C hp.objs.size)).get? (hp.objs.size + 1) = some (PySem.HandSPX.excO C hp.objs.size) := by heap_get
  have J : Inv X pins σ (upd H (hp.objs.size + 1) (exo (hp.objs.size + 1) C none)) ⟨(hp.push (PySem.W.kdv_tup [])).push (PySem.HandSPX.excO C hp.objs.size), g, dr, t, os⟩ :=
    I.laid (t' := t) (a := hp.objs.size + 1) kk hsz (exo_ok hget)
  have r2 : Vals (V.ref (hp.objs.size + 1) :: vs) (Value.ref (hp.objs.size + 1) :: us) := .cons rfl r
  refine wpAny_call (PySem.MiX.kown FB hT hC (PySem.W.looks_findIn I.kIn iC) (fun v => PySem.W.bind_fn I.kIn v tI)
    (codeAny_mono (F.run _ X.stack _ _ ⟨[Value.ref (hp.objs.size + 1)], kw⟩ _ _ _ _ (hr.make C [] kw) (J.env0.make C [] kw) (hb _ _) r2 hq) fun r' s' z => ?_))
  match r', z with
  | .error er, z => exact passAt tk σ pins _ _ er s' J z
  | .ok (.ret u), z =>
    obtain ⟨v, H', J', rv, hv, q⟩ := J.after z
    subst hv
    exact ⟨rv, .ref (hp.objs.size + 1), H', J', rfl, q⟩
  | .ok .next, z => exact z.elim
  | .ok .brk, z => exact z.elim
  | .ok .cont, z => exact z.elim
end
/-! what __init__ promises -/
def sp0 (C : Addr) : Sp := fun vs H Q _ => ∃ a, vs = [.ref a] ∧ H a = some (exo a C none) ∧ Q .non H
def sp1 (C : Addr) (f : Str) : Sp := fun vs H Q _ => ∃ a y, vs = [.ref a, y] ∧ H a = some (exo a C none) ∧ ∀ dx, H dx = none → dx ≠ a → Q .non (upd (upd H dx (exd dx [(f, y)])) a (exo a C (some dx)))
section
variable {X : Cx} {W : WK} {C : Addr} {B newId initId : String} {bm : List Value} {e o c : Expr} {es : List Expr} {te to : TE} {ta : TA} {f : Str} {p p1 p2 p' pos : Pos}
theorem pe_binit (FB : ExcBaseFacts B newId initId bm) (q : PySem.W.excInitIn X.K C bm newId = true) {x : Str} {pl : Sem Bool} (hg : Gl X x) (hm : X.mg x = none) (hv : bootBuiltins x = some (.type B)) (ty : typeOf (.type B) = pure (.type "type")) (hs : Manifest.isStub B = false)
    (vV : PySem.W.findCls X.K (.type B) (.type "type") "__init__" = some (.val (.builtin initId))) (hh : PySem.W.handedIn (.builtin initId) = true) (ha : PA X (e :: es) ta)
    (hc : eval (.Call (.Attribute (.Name x p1) "__init__" p2) (e :: es) [] pos) X.env = (do
      let ov ← eval (.Name x p1) X.env
      standAt p2.atName
      let (f, first) ← holding [ov] (getMethod ov "__init__" pl)
      callWith pos f first (backTo pos (starEach (e :: es) X.env)) (backToKw pos (keywordEach [] X.env))) := by rfl)
    (hn : x ≠ "__name__" := by decide) (hd : (x == ("__debug__" : Str)) = false := by decide)
    (he : starEach (e :: es) X.env = (false, eval e X.env) :: starEach es X.env := by rfl) (hpl : (backTo pos (starEach es X.env)).any (·.1) = false := by rfl) :
    PE X (.Call (.Attribute (.Name x p1) "__init__" p2) (e :: es) [] pos) (fun σ H Q => ta σ H fun vs H1 => ∃ a ws, vs = .ref a :: ws ∧ ws.length ≤ 1000 ∧ H1 a = some (exo a C none) ∧ Q .non H1) := by
  refine ⟨fun pins s σ H Q I h => ?_⟩
  refine PySem.W.methodCall_KW (ld_blt I hg hm hv ?_ hn hd) hc
  obtain ⟨m, fr⟩ := I.fr
  refine PySem.W.method_type fr I.ok.mod.kin ty hs vV hh ?_
  show wpAny _ _ (callWith pos (Value.builtin initId) [] (backTo pos (starEach (e :: es) X.env)) []) _ _ _
  refine PyProof.Rows.callWith_method1 (thn (ha.run pos pins _ σ H _ (I.tok _) h) fun us s1 ⟨vs, H1, I1, r1, a, ws, ev, hl, ea, q1⟩ => ?_) he hpl
  subst ev
  cases r1 with
  | @cons _ u0 _ ur ra rw' =>
    obtain rfl : u0 = Value.ref a := ra
    exact binit FB q I1 ea (by rw [← Paired.length rw', sizeLine_eq]; omega) fun s' J => ⟨.non, H1, J, rfl, q1⟩
theorem ps_bset (SF : StoreFacts B bm "object.__setattr__" "object") (T : OxC X.K newId bm C) (hno : PySem.W.takerIn X.K C f = some none) (ho : PE X o to) (he : PE X e te) (hs : swapsWith e (some (.Attribute o f p')) pos.line X.env = pure false := by rfl) :
    PS X (.Assign [.Attribute o f p'] e pos) (fun D σ H => te σ H fun y H1 => to σ H1 fun x H2 => ∃ a, x = .ref a ∧ H2 a = some (exo a C none) ∧ ∀ dx, H2 dx = none → dx ≠ a → D.nx σ (upd (upd H2 dx (exd dx [(f, y)])) a (exo a C (some dx)))) := by
  refine ⟨fun pins s σ H D I h => ?_⟩
  refine plainObj_wpAny_Assign_Attribute (thn (he.run pins s σ H _ I h) fun v s1 ⟨y, H1, I1, r1, q1⟩ => thn (ho.run pins s1 σ H1 _ I1 q1) fun u s2 ⟨x, H2, I2, r2, a, ex, ea, q⟩ => ?_) hs
  subst ex
  obtain rfl : u = Value.ref a := r2
  exact bset SF T I2 ea hno r1 fun dx s' n ne J => ⟨σ, _, J, q dx n ne⟩
/-! ### made, in the layer -/
def gNew (n : Str) (ns : List Str) : GC := fun vs s => bif Nat.beq vs.length ns.length then .ok (.exc n ns vs) s else .bad
theorem Ext.of {H H' : Hp} {ρ : Rh} (hr : ∀ a ∈ ρ.rs, H a ≠ none) (h : ∀ b, H b ≠ none → H' b = H b) : Ext ρ H ρ H' :=
  ⟨⟨⟨[], by simp, by simp⟩, rs_refl, fun a o q _ _ => (h a (sm q)).trans q, fun a q => by rw [h a q]; exact q, fun a o _ q => ⟨o, (h a (sm q)).trans q, alike_refl o⟩⟩, rfl, fun a ha _ => h a (hr a ha)⟩
theorem RSt.of {K : PySem.W.Frag} {H H' : Hp} {ρ : Rh} {sto : Sto} (S : RSt K H ρ sto) (h : ∀ b, H b ≠ none → H' b = H b) : RSt K H' ρ sto := S.mono' (.of S.hh h) fun a ha => h a fun q => S.fresh q ha
theorem new_post0 {K : PySem.W.Frag} {n : Str} {H : Hp} {ρ : Rh} {sto : Sto} {WP : XK} {Q : VK} {a : Addr} (hC : PySem.W.nsIn K mainGlobals n = some (some (.ref C))) (S : RSt K H ρ sto) (P : Post K WP H ρ (GV K Q) (gNew n [] [] sto)) (ha : H a = none) :
    sp0 C [.ref a] (upd H a (exo a C none)) (fun v H2 => v = .non ∧ Q (.ref a) H2) WP :=
  ⟨a, rfl, upd_same, rfl, P _ ρ (S.ext ha) (S.new ha) _ ⟨a, [], rfl, ⟨S.fresh ha, S.freshR ha, C, hC, .inl ⟨rfl, upd_same⟩⟩, rfl⟩⟩
theorem new_post1 {K : PySem.W.Frag} {n : Str} {H : Hp} {ρ : Rh} {sto : Sto} {WP : XK} {Q : VK} {a : Addr} {xs : List PV} {vs : List V} (hC : PySem.W.nsIn K mainGlobals n = some (some (.ref C))) (S : RSt K H ρ sto) (r : RVs K H ρ xs vs) (P : Post K WP H ρ (GV K Q) (gNew n [f] xs sto)) (ha : H a = none) :
    sp1 C f (.ref a :: vs) (upd H a (exo a C none)) (fun v H2 => v = .non ∧ Q (.ref a) H2) WP := by
  unfold gNew at P
  obtain ⟨hl, P⟩ := and_of (C := Post K WP H ρ (GV K Q)) P (fun z => z)
  match xs, vs, r, hl with
  | [x], vs, r, _ =>
    obtain ⟨y, rfl, hy⟩ := r.one
    refine ⟨a, y, rfl, upd_same, fun dx hd ne => ⟨rfl, ?_⟩⟩
    have hdx : H dx = none := by rw [upd_ne ne] at hd; exact hd
    have k : ∀ b, H b ≠ none → upd (upd (upd H a (exo a C none)) dx (exd dx [(f, y)])) a (exo a C (some dx)) b = H b := fun b hb => by
      rw [upd_ne (fun z => hb (by rw [z]; exact ha)), upd_ne (fun z => hb (by rw [z]; exact hdx)), upd_ne (fun z => hb (by rw [z]; exact ha))]
    refine P _ ρ (.of S.hh k) (S.of k) _ ⟨a, [y], rfl, ⟨S.fresh ha, S.freshR ha, C, hC, .inr ⟨dx, S.fresh hdx, S.freshR hdx, upd_same, ?_⟩⟩, r.mono (Ext.of S.hh k).toExtW⟩
    rw [upd_ne ne, upd_same]
    rfl
  | [], _, _, hl => cases hl
  | _ :: _ :: _, _, _, hl => cases hl
/-- C() -/
theorem e_new0 {n : Str} {fI : Addr} {k : Nat} {fd : FuncData} (FB : ExcBaseFacts B newId initId bm) (T : OxC X.K newId bm C) (hC : PySem.W.nsIn X.K mainGlobals n = some (some (.ref C))) (iC : PySem.W.findIn X.K (.ref C) "__init__" = some (some (.ref fI))) (tI : PySem.W.typeIn X.K (.ref fI) = some (.type "function"))
    (F : FnOk X.prog X.w X.K X.mg X.base (L2.CX X.prog X.w) k fI fd ["self"] (sp0 C)) (hr : Room (k + 1) X.A) (hb : Binds X.K fd ["self"] []) (tk : Takes X W) (hg : Gl X n) (hm : X.mg n = some (.ref C)) (hdb : (n == ("__debug__" : Str)) = false := by decide) :
    ME X W (.Call (.Name n p) [] [] pos) (fun _ s => gNew n [] [] s) := by
  refine ⟨fun σ H Q => ∀ a, H a = none → sp0 C [.ref a] (upd H a (exo a C none)) (fun v H2 => v = .non ∧ Q (.ref a) H2) (WE W σ), ⟨fun pins s σ H Q I h => ?_⟩, fun σ H ρ env sto Q hE hS hP a ha => new_post0 hC hS hP ha⟩
  refine wpAny_Call_Name_kw (ld_glob I hg hm ?_ hdb)
  exact PySem.W.callWith_K0 I.kIn T.kC (bnew (x := n) FB T iC tI F hr hb tk (us := []) (vs := []) I .nil (by simp) h)
/-- C(e) -/
theorem e_new1 {n : Str} {fI : Addr} {k : Nat} {fd : FuncData} {ms : MA} (FB : ExcBaseFacts B newId initId bm) (T : OxC X.K newId bm C) (hC : PySem.W.nsIn X.K mainGlobals n = some (some (.ref C))) (iC : PySem.W.findIn X.K (.ref C) "__init__" = some (some (.ref fI))) (tI : PySem.W.typeIn X.K (.ref fI) = some (.type "function"))
    (F : FnOk X.prog X.w X.K X.mg X.base (L2.CX X.prog X.w) k fI fd ["self", f] (sp1 C f)) (hr : Room (k + 1) X.A) (hb : Binds X.K fd ["self", f] []) (tk : Takes X W) (hg : Gl X n) (hm : X.mg n = some (.ref C)) (ha : MEs X W [e] ms)
    (hdb : (n == ("__debug__" : Str)) = false := by decide) (he : starEach [e] X.env = (false, eval e X.env) :: starEach [] X.env := by rfl) (hpl : (backTo pos (starEach [] X.env)).any (·.1) = false := by rfl) :
    ME X W (.Call (.Name n p) [e] [] pos) (mCall (gNew n [f]) ms) := by
  obtain ⟨t, q, s⟩ := ha
  refine ⟨fun σ H Q => t σ H fun vs H1 => vs.length ≤ 1000 ∧ ∀ a, H1 a = none → sp1 C f (.ref a :: vs) (upd H1 a (exo a C none)) (fun v H2 => v = .non ∧ Q (.ref a) H2) (WE W σ), ⟨fun pins st σ H Q I h => ?_⟩, fun σ H ρ env sto Q hE hS hP => ?_⟩
  · refine wpAny_Call_Name_kw (ld_glob I hg hm ?_ hdb)
    exact PySem.W.callWith_K (h₀ := X.base) I.ok.mod.kin T.kC (thn (q.run pos pins st σ H _ I h) fun us s1 ⟨vs, H1, I1, r, hz, q1⟩ => ⟨I1.kIn, bnew (x := n) FB T iC tI F hr hb tk I1 r (by rw [List.nil_append, ← Paired.length r]; exact hz) q1⟩) he hpl
  · refine s σ H ρ env sto _ hE hS ((hP.bind hS).imp fun v s1 H1 ρ1 x1 S1 P1 ys hys => ⟨?_, fun a ha => new_post1 hC S1 hys P1 ha⟩)
    have P2 := P1
    unfold gNew at P2
    obtain ⟨hl, _⟩ := and_of (C := Post X.K _ H1 ρ1 (GV X.K Q)) P2 (fun z => z)
    rw [← hys.length, Nat.eq_of_beq_eq_true hl]
    show 1 ≤ 1000
    decide
/-- C(f=e) -/
theorem e_new1K {n : Str} {fI : Addr} {k : Nat} {fd : FuncData} {mk : MA} {kpos : Pos} (FB : ExcBaseFacts B newId initId bm) (T : OxC X.K newId bm C) (hC : PySem.W.nsIn X.K mainGlobals n = some (some (.ref C))) (iC : PySem.W.findIn X.K (.ref C) "__init__" = some (some (.ref fI))) (tI : PySem.W.typeIn X.K (.ref fI) = some (.type "function"))
    (F : FnOk X.prog X.w X.K X.mg X.base (L2.CX X.prog X.w) k fI fd ["self", f] (sp1 C f)) (hr : Room (k + 1) X.A) (hb : ∀ (s : Shared) (a : Addr) (u : Value), BindsTo s fd ⟨[.ref a], [(f, u)]⟩ [("self", .ref a), (f, u)]) (tk : Takes X W) (hg : Gl X n) (hm : X.mg n = some (.ref C)) (ha : MKs X W [⟨some f, e, kpos⟩] mk)
    (hdb : (n == ("__debug__" : Str)) = false := by decide) (hall : (backToKw pos (keywordEach [⟨some f, e, kpos⟩] X.env)).all (·.1.isSome) = true := by rfl) (hks : (backToKw pos (keywordEach [⟨some f, e, kpos⟩] X.env)).filterMap (·.1) = [f] := by rfl)
    (hpl : ((backTo pos (starEach [] X.env)).any (·.1) || (backToKw pos (keywordEach [⟨some f, e, kpos⟩] X.env)).any (·.1.isNone)) = false := by rfl) :
    ME X W (.Call (.Name n p) [] [⟨some f, e, kpos⟩] pos) (mCall (gNew n [f]) mk) := by
  obtain ⟨t, q, s⟩ := ha
  refine ⟨fun σ H Q => t σ H fun vs H1 => vs.length = 1 ∧ ∀ a, H1 a = none → sp1 C f (.ref a :: vs) (upd H1 a (exo a C none)) (fun v H2 => v = .non ∧ Q (.ref a) H2) (WE W σ), ⟨fun pins st σ H Q I h => ?_⟩, fun σ H ρ env sto Q hE hS hP => ?_⟩
  · refine wpAny_Call_Name_kw (ld_glob I hg hm ?_ hdb)
    refine PySem.W.callWith_KW0 (h₀ := X.base) I.ok.mod.kin T.kC hall (thn (q.run pos pins st σ H _ I h) fun us s1 ⟨vs, H1, I1, r, hz, q1⟩ => ⟨I1.kIn, ?_⟩) hpl
    rw [hks]
    have hl : us.length = 1 := (Paired.length r).symm.trans hz
    match us, hl with
    | [u], _ => exact bnewK FB T iC tI F hr tk I1 r (fun s a => hb s a u) q1
  · refine s σ H ρ env sto _ hE hS ((hP.bind hS).imp fun v s1 H1 ρ1 x1 S1 P1 ys hys => ⟨?_, fun a ha => new_post1 hC S1 hys P1 ha⟩)
    have P2 := P1
    unfold gNew at P2
    obtain ⟨hl, _⟩ := and_of (C := Post X.K _ H1 ρ1 (GV X.K Q)) P2 (fun z => z)
    rw [← hys.length, Nat.eq_of_beq_eq_true hl]
    rfl
/-! ### read, in the layer -/
theorem x_inst {pins : List (Addr × Obj)} {σ : L2.St} {H : Hp} {s : Shared} {ρ : Rh} {a : Addr} {n : Str} {ns : List Str} {ys : List V} (I : Inv X pins σ H s) (h : FzX X.K H ρ a n ns ys) : ∃ C ox od, PySem.W.nsIn X.K mainGlobals n = some (some (.ref C)) ∧ PySem.W.InstAt s.heap a ox C od ∧
    (ns ≠ [] → ∃ o, od = some o ∧ ∀ g, ∃ u, PySem.W.lookIn g o = some u ∧ RelO ((ns.zip ys).lookup g) u) := by
  obtain ⟨_, _, C, hC, h⟩ := h
  rcases h with ⟨hn, h⟩ | ⟨dx, _, _, h, hd⟩
  · obtain ⟨t1, ho⟩ := exo_at I.hok h
    exact ⟨C, _, none, hC, ⟨ho, rfl, rfl, trivial⟩, fun z => absurd hn z⟩
  · obtain ⟨t1, ho⟩ := exo_at I.hok h
    obtain ⟨mA, hns, hr⟩ := exd_at I.hok hd
    obtain ⟨od, hod, hl⟩ := lookIn_ns hns
    exact ⟨C, _, some od, hC, ⟨ho, rfl, rfl, hod⟩, fun _ => ⟨od, rfl, fun g => ⟨_, hl g, hr g⟩⟩⟩
def IsTab (K : PySem.W.Frag) (cv : Value) (tab : List (Str × Bool)) : Prop := ∀ n b, tab.lookup n = some b → ∀ C, PySem.W.nsIn K mainGlobals n = some (some (.ref C)) → OxA K C ∧ PySem.W.kitOne K (.ref C) cv = some b
def IsTabs (K : PySem.W.Frag) (cs : List Value) (tab : List (Str × Bool)) : Prop := ∀ n b, tab.lookup n = some b → ∀ C, PySem.W.nsIn K mainGlobals n = some (some (.ref C)) → OxA K C ∧ PySem.W.kitAny K (.ref C) cs = some b
def gIsx (tab : List (Str × Bool)) : GC := fun vs s => match vs with
  | [.exc n _ _] => match tab.lookup n with
    | some b => .ok (.bl b) s
    | none => .bad
  | _ => .bad
def rIsx (K : PySem.W.Frag) (tab : List (Str × Bool)) (cV : V) : List V → Hp → VK → Prop := fun vs H Q => ∃ a n ns ys ρ b, vs = [.ref a, cV] ∧ FzX K H ρ a n ns ys ∧ tab.lookup n = some b ∧ Q (.bl b) H
theorem cr_isx {tab : List (Str × Bool)} {cV : V} {cv : Value} (Kk : OxK X.K) (hcv : ∀ u, RelV cV u → u = cv) (T : IsTab X.K cv tab) : CallR X (.builtin "isinstance") (rIsx X.K tab cV) := by
  intro pins s σ H vs us Q I r h
  obtain ⟨a, n, ns, ys, ρ, b, rfl, hx, hb, q⟩ := h
  obtain ⟨u1, u2, rfl, r1, r2⟩ := vals2 r
  obtain rfl : u1 = Value.ref a := r1
  have e2 := hcv _ r2
  subst e2
  obtain ⟨C, ox, od, hC, J, _⟩ := x_inst I hx
  obtain ⟨A, k⟩ := T n b hb C hC
  have hcl : (PySem.W.clsIn X.K C).isSome = true := by
    obtain ⟨cd, hcd, _⟩ := PySem.W.any_some (show (PySem.W.clsIn X.K C).any (·.hasDict) = true from A.hd)
    rw [hcd]; rfl
  exact PySem.W.kia_one (PySem.W.kitx_exc hcl A.ga A.gg A.exC A.cl Kk.gs Kk.tk A.ob) I.kIn J k (fun z => nomatch z) fun t => ⟨.bl b, H, I.tok t, rfl, q⟩
def rIsxT (K : PySem.W.Frag) (tab : List (Str × Bool)) (cs : List V) : List V → Hp → VK → Prop := fun vs H Q => ∃ a n ns ys ρ b tp, vs = [.ref a, .ref tp] ∧ FzX K H ρ a n ns ys ∧ H tp = some (.tup cs) ∧ tab.lookup n = some b ∧ Q (.bl b) H
theorem cr_isxT {tab : List (Str × Bool)} {cs : List V} {cvs : List Value} (Kk : OxK X.K) (hcv : ∀ us, Vals cs us → us = cvs) (T : IsTabs X.K cvs tab) : CallR X (.builtin "isinstance") (rIsxT X.K tab cs) := by
  intro pins s σ H vs us Q I r h
  obtain ⟨a, n, ns, ys, ρ, b, tp, rfl, hx, hT, hb, q⟩ := h
  obtain ⟨u1, u2, rfl, r1, r2⟩ := vals2 r
  obtain rfl : u1 = Value.ref a := r1
  obtain rfl : u2 = Value.ref tp := r2
  obtain ⟨C, ox, od, hC, J, _⟩ := x_inst I hx
  obtain ⟨A, k⟩ := T n b hb C hC
  have hcl : (PySem.W.clsIn X.K C).isSome = true := by
    obtain ⟨cd, hcd, _⟩ := PySem.W.any_some (show (PySem.W.clsIn X.K C).any (·.hasDict) = true from A.hd)
    rw [hcd]; rfl
  obtain ⟨_, its, rv, o, h1, h2, m, h3⟩ := (show ObjOk X.prog X.w H s.heap tp (.tup cs) from I.hok tp _ hT)
  have e3 := hcv _ rv
  subst e3
  obtain ⟨oc, od', dt, sl⟩ := o
  simp only at h2 h3
  subst h2 h3
  exact PySem.W.kia_tup (PySem.W.kitx_exc hcl A.ga A.gg A.exC A.cl Kk.gs Kk.tk A.ob) I.kIn J h1 k (fun z => nomatch z) fun t => ⟨.bl b, H, I.tok t, rfl, q⟩
def mIsx (tab : List (Str × Bool)) (m : M) : M := fun env s => (m env s).bind fun v s1 => gIsx tab [v] s1
theorem gIsx_some {tab : List (Str × Bool)} {v : PV} {s : Sto} {K : PySem.W.Frag} {WP : XK} {H : Hp} {ρ : Rh} {G : PV → Sto → Hp → Rh → Prop} (P : Post K WP H ρ G (gIsx tab [v] s)) : ∃ n ns xs b, v = .exc n ns xs ∧ tab.lookup n = some b ∧ Post K WP H ρ G (.ok (.bl b) s) := by
  unfold gIsx at P
  split at P
  · rename_i n ns xs e
    cases e
    cases k : tab.lookup n with
    | none => rw [k] at P; exact P.elim
    | some b => rw [k] at P; exact ⟨n, ns, xs, b, rfl, k, P⟩
  · exact P.elim
theorem e_isx {tab : List (Str × Bool)} {cV : V} {cv : Value} {m : M} (Kk : OxK X.K) (gl : Gl X "isinstance") (hm : X.mg "isinstance" = none) (hc : PE X c (tC cV)) (hcv : ∀ u, RelV cV u → u = cv) (T : IsTab X.K cv tab) (ha : ME X W e m)
    (he : starEach [e, c] X.env = (false, eval e X.env) :: starEach [c] X.env := by rfl) (he2 : starEach [c] X.env = (false, eval c X.env) :: starEach [] X.env := by rfl) (hpl : (backTo pos (starEach [c] X.env)).any (·.1) = false := by rfl) :
    ME X W (.Call (.Name "isinstance" p) [e, c] [] pos) (mIsx tab m) := by
  obtain ⟨t, q, s⟩ := ha
  refine ⟨_, pe_callB (cr_isx Kk hcv T) gl hm (by decide +kernel) (pa_cons q (pa_cons hc pa_nil he2) he) (by decide) (by decide) he hpl, fun σ H ρ env sto Q hE hS hP => ?_⟩
  refine s σ H ρ env sto _ hE hS ((hP.bind hS).imp fun v s1 H1 ρ1 x1 S1 P1 y hy => ?_)
  obtain ⟨n, ns, xs, b, rfl, k, P2⟩ := gIsx_some P1
  obtain ⟨a, ys, rfl, h2, _⟩ := hy
  exact ⟨a, n, ns, ys, ρ1, b, rfl, h2, k, P2 H1 ρ1 .refl S1 _ rfl⟩
/-- isinstance(e, (T, U)), T and U built in -/
theorem e_isx2 {tab : List (Str × Bool)} {y z : Str} {T U : String} {x1 : Nat} {p3 p4 : Pos} {m : M} (Kk : OxK X.K) (gl : Gl X "isinstance") (hm : X.mg "isinstance" = none) (hy : PE X (.Name y p2) (tC (.ty T))) (hz : PE X (.Name z p3) (tC (.ty U))) (TT : IsTabs X.K [.type T, .type U] tab) (ha : ME X W e m)
    (he : starEach [e, .Tuple [.Name y p2, .Name z p3] x1 p4] X.env = (false, eval e X.env) :: starEach [.Tuple [.Name y p2, .Name z p3] x1 p4] X.env := by rfl)
    (he2 : starEach [.Tuple [.Name y p2, .Name z p3] x1 p4] X.env = (false, eval (.Tuple [.Name y p2, .Name z p3] x1 p4) X.env) :: starEach [] X.env := by rfl) (hpl : (backTo pos (starEach [.Tuple [.Name y p2, .Name z p3] x1 p4] X.env)).any (·.1) = false := by rfl)
    (h1 : starEach [.Name y p2, .Name z p3] X.env = (false, eval (.Name y p2) X.env) :: starEach [.Name z p3] X.env := by rfl) (h2 : starEach [.Name z p3] X.env = (false, eval (.Name z p3) X.env) :: starEach [] X.env := by rfl) :
    ME X W (.Call (.Name "isinstance" p) [e, .Tuple [.Name y p2, .Name z p3] x1 p4] [] pos) (mIsx tab m) := by
  obtain ⟨t, q, s⟩ := ha
  have hcv : ∀ us, Vals [V.ty T, V.ty U] us → us = [Value.type T, Value.type U] := fun us r => by
    obtain ⟨u1, u2, rfl, r1, r2⟩ := vals2 r
    cases r1; cases r2; rfl
  refine ⟨_, pe_callB (cr_isxT Kk hcv TT) gl hm (by decide +kernel) (pa_cons q (pa_cons (pe_tup (pa_cons hy (pa_cons hz pa_nil h2) h1)) pa_nil he2) he) (by decide) (by decide) he hpl, fun σ H ρ env sto Q hE hS hP => ?_⟩
  refine s σ H ρ env sto _ hE hS ((hP.bind hS).imp fun v s1 H1 ρ1 x1 S1 P1 y hy => ?_)
  obtain ⟨n, ns, xs, b, rfl, k, P2⟩ := gIsx_some P1
  refine ⟨by show 2 ≤ sizeLine; decide, fun tp htp => ?_⟩
  have hx := S1.ext (o := .tup [.ty T, .ty U]) htp
  obtain ⟨a, ys, rfl, h2, _⟩ := hy
  exact ⟨a, n, ns, ys, ρ1, b, tp, rfl, h2.mono hx.toExtW, upd_same, k, P2 _ ρ1 hx (S1.new htp) _ rfl⟩
/-- e.f -/
def FdTab (K : PySem.W.Frag) (f : Str) (tab : List Str) : Prop := ∀ n ∈ tab, ∀ C, PySem.W.nsIn K mainGlobals n = some (some (.ref C)) → OxA K C ∧ PySem.W.findIn K (.ref C) f = some none
def lookP (f : Str) : List Str → List PV → Option PV
  | n :: ns, x :: xs => bif f == n then some x else lookP f ns xs
  | _, _ => none
def gFld (tab : List Str) (f : Str) : PV → Sto → R PV := fun v s => match v with
  | .exc n ns xs => bif tab.elem n then (match lookP f ns xs with
    | some y => .ok y s
    | none => .bad) else .bad
  | _ => .bad
def mFld (tab : List Str) (f : Str) (m : M) : M := fun env s => (m env s).bind fun v s1 => gFld tab f v s1
theorem lookP_ok {K : PySem.W.Frag} {H : Hp} {ρ : Rh} {x : PV} : ∀ {ns : List Str} {xs : List PV} {ys : List V}, RVs K H ρ xs ys → lookP f ns xs = some x → ∃ y, (ns.zip ys).lookup f = some y ∧ RV K H ρ x y
  | n :: ns, z :: zs, ys, r, h => by
    obtain ⟨v, ws, rfl, h2, h3⟩ := r
    unfold lookP at h
    cases q : f == n with
    | true => rw [q] at h; cases h; exact ⟨v, by simp [List.lookup, q], h2⟩
    | false =>
      rw [q] at h
      obtain ⟨y, h4, h5⟩ := lookP_ok h3 h
      exact ⟨y, by simp [List.lookup, q]; exact h4, h5⟩
  | [], _, _, _, h => by cases h
  | _ :: _, [], _, _, h => by cases h
theorem e_fld {tab : List Str} {m : M} (T : FdTab X.K f tab) (ha : ME X W e m) (hb : attributeBase e f X.env (eval e X.env) = eval e X.env := by rfl) : ME X W (.Attribute e f pos) (mFld tab f m) := by
  obtain ⟨t, q, s⟩ := ha
  refine ⟨fun σ H Q => t σ H fun x H1 => ∃ a n ns ys ρ v, x = .ref a ∧ FzX X.K H1 ρ a n ns ys ∧ n ∈ tab ∧ (ns.zip ys).lookup f = some v ∧ Q v H1, ⟨fun pins st σ H Q I h => ?_⟩, fun σ H ρ env sto Q hE hS hP => ?_⟩
  · refine attr_of hb (thn (q.run pins st σ H _ I h) fun u s1 ⟨x, H1, I1, r1, a, n, ns, ys, ρ, v, ex, hx, hn, hl, q1⟩ => ?_)
    subst ex
    obtain rfl : u = Value.ref a := r1
    obtain ⟨C, ox, od, hC, J, hf⟩ := x_inst I1 hx
    obtain ⟨A, hno⟩ := T n hn C hC
    obtain ⟨o, rfl, hg⟩ := hf fun z => by rw [z] at hl; cases hl
    obtain ⟨u, hu, ru⟩ := hg f
    rw [hl] at ru
    obtain ⟨u', rfl, ru'⟩ := RelO.some_of ru
    exact HandSPX.exc_get I1.kIn J A.ga A.gg A.exC (PySem.W.findObj_own A.hd hno rfl hu) (handed_of ru') ⟨v, H1, I1.tok _, ru', q1⟩
  · refine s σ H ρ env sto _ hE hS ((hP.bind hS).imp fun v s1 H1 ρ1 x1 S1 P1 y hy => ?_)
    unfold gFld at P1
    split at P1
    · rename_i n ns xs
      obtain ⟨hn, P1⟩ := and_of (C := Post X.K _ H1 ρ1 (GV X.K Q)) P1 (fun z => z)
      cases k : lookP f ns xs with
      | none => rw [k] at P1; exact P1.elim
      | some z =>
        rw [k] at P1
        obtain ⟨a, ys, rfl, h2, h3⟩ := hy
        obtain ⟨y, h4, h5⟩ := lookP_ok h3 k
        exact ⟨a, n, ns, ys, ρ1, y, rfl, h2, by simpa using hn, h4, P1 H1 ρ1 .refl S1 _ h5⟩
    · exact P1.elim
/-! tables -/
inductive TabOne (K : PySem.W.Frag) (cv : Value) : List (Str × Bool) → Prop
  | nil : TabOne K cv []
  | cons {n : Str} {C : Addr} {b : Bool} {r : List (Str × Bool)} (a : PySem.W.nsIn K mainGlobals n = some (some (.ref C))) (A : OxA K C) (q : PySem.W.kitOne K (.ref C) cv = some b) (t : TabOne K cv r) : TabOne K cv ((n, b) :: r)
inductive TabAny (K : PySem.W.Frag) (cs : List Value) : List (Str × Bool) → Prop
  | nil : TabAny K cs []
  | cons {n : Str} {C : Addr} {b : Bool} {r : List (Str × Bool)} (a : PySem.W.nsIn K mainGlobals n = some (some (.ref C))) (A : OxA K C) (q : PySem.W.kitAny K (.ref C) cs = some b) (t : TabAny K cs r) : TabAny K cs ((n, b) :: r)
inductive TabFld (K : PySem.W.Frag) (f : Str) : List Str → Prop
  | nil : TabFld K f []
  | cons {n : Str} {C : Addr} {r : List Str} (a : PySem.W.nsIn K mainGlobals n = some (some (.ref C))) (A : OxA K C) (q : PySem.W.findIn K (.ref C) f = some none) (t : TabFld K f r) : TabFld K f (n :: r)
theorem tab_one {K : PySem.W.Frag} {cv : Value} : ∀ (tab : List (Str × Bool)), TabOne K cv tab → IsTab K cv tab
  | _, .nil => fun n b h => by simp [List.lookup] at h
  | _, .cons (n := m) (C := D) (b := b0) (r := r) a A q t => fun n b h C hC => by
    by_cases e : n = m
    · subst e
      rw [a] at hC
      cases hC
      rw [List.lookup_cons_self] at h
      cases h
      exact ⟨A, q⟩
    · have e' : (n == m) = false := by simpa using e
      simp only [List.lookup, e'] at h
      exact tab_one r t n b h C hC
theorem tab_any {K : PySem.W.Frag} {cs : List Value} : ∀ (tab : List (Str × Bool)), TabAny K cs tab → IsTabs K cs tab
  | _, .nil => fun n b h => by simp [List.lookup] at h
  | _, .cons (n := m) (C := D) (b := b0) (r := r) a A q t => fun n b h C hC => by
    by_cases e : n = m
    · subst e
      rw [a] at hC
      cases hC
      rw [List.lookup_cons_self] at h
      cases h
      exact ⟨A, q⟩
    · have e' : (n == m) = false := by simpa using e
      simp only [List.lookup, e'] at h
      exact tab_any r t n b h C hC
theorem tab_fld {K : PySem.W.Frag} {f : Str} : ∀ {tab : List Str}, TabFld K f tab → FdTab K f tab
  | _, .nil => fun n h => by simp at h
  | _, .cons (n := m) a A q t => fun n h C hC => by
    rcases List.mem_cons.mp h with e | h
    · subst e
      rw [a] at hC
      cases hC
      exact ⟨A, q⟩
    · exact tab_fld t n h C hC
end
end Mi

noncomputable section
namespace Mi
open PySem PySem.Spec PyProof.Rows L2

/-! ### raise C() -/
section
variable {X : Cx} {pins : List (Addr × Obj)} {σ : L2.St} {H : Hp} {s : Shared} {a C : Addr} {B newId initId : String} {bm : List Value}
/-- the end of C(): the object is let go, the heap read as ahead of it -/
theorem mk_gone {hp hp2 h2 : Heap} {g1 g2 : Array GenState} {d1 d2 : Drawn} {t1 t2 : Nat} {os1 os2 : OsState} (I : Inv X pins σ H ⟨hp, g1, d1, t1, os1⟩) (ha : hp.objs.size ≤ a) (k : ∀ b o, hp.get? b = some o → hp2.get? b = some o)
    (un : Un (frs X.stack) [] (upd H a (exo a C none)) (upd H a (exo a C none)) hp2 h2) (hok : HOk X.prog X.w (upd H a (exo a C none)) h2) (ho : os2 = os1) (hb : AllBare g2) :
    ∃ (t0 : Addr) (G : Heap), Inv X pins σ H ⟨G, g2, d2, t2, os2⟩ ∧ (∀ b o, G.get? b = some o → h2.get? b = some o) ∧ G.get? a = none ∧ H a = none ∧
      h2.get? a = some ({ cls := .ref C, dict := none, data := .fields #[.ref t0, .none, .none, .none, .bool false, .none] } : Obj) := by
  obtain ⟨t0, hoe⟩ := exo_at hok upd_same
  have hn : H a = none := I.hok.fresh ha
  obtain ⟨G, r1, r2⟩ := restrict h2 fun b => decide (b ≠ a)
  have gk : ∀ b, b ≠ a → G.get? b = h2.get? b := fun b z => r1 b (decide_eq_true z)
  have ge : G.get? a = none := r2 a (by simp)
  have na : ∀ {b : Addr} {o : Obj}, hp.get? b = some o → b ≠ a := fun z => Nat.ne_of_lt (Nat.lt_of_lt_of_le (Heap.lt_size z) ha)
  have up : ∀ {b : Addr}, b ≠ a → H b = none → upd H a (exo a C none) b = none := fun z n => by rw [upd_ne z]; exact n
  have U : Un (frs X.stack) [] H H hp G := {
    keep := fun b o z n hf hx => by rw [gk b (na z)]; exact un.keep b o (k b o z) (up (na z) n) hf hx
    slot := fun b o z n hf hx => by rw [gk b (na z)]; exact un.slot b o (k b o z) (up (na z) n) hf hx
    free := fun b o z n hx => n
    there := fun b o z hx => by rw [gk b (na z)]; exact un.there b o (k b o z) hx
    tups := fun b xs z => z
    frzs := fun b o v z => z
    tbls := fun b ps z => ⟨#[], by rw [z]; simp⟩ }
  have hok3 : HOk X.prog X.w H G := fun b o z => by
    have hba : b ≠ a := fun e => by rw [e, hn] at z; cases z
    have z2 : upd H a (exo a C none) b = some o := by rw [upd_ne hba]; exact z
    have noa : ∀ {c u}, H c = some u → c ≠ a := fun hc e => by rw [e, hn] at hc; cases hc
    refine (hok b o z2).stay (fun c v hc y => ?_) (fun c hc => ?_) (fun c xs hc => ?_)
    · have hca : c ≠ a := by
        rcases hc with hc | hc
        · rw [hc]; exact hba
        · exact fun e => by rw [e, upd_same] at hc; exact exo_own (Option.some.inj hc)
      rw [gk c hca]; exact y
    · have hca : c ≠ a := fun e => by rw [e, upd_same] at hc; exact exo_own (Option.some.inj hc)
      rw [upd_ne hca] at hc; exact hc
    · have hca : c ≠ a := fun e => by rw [e, upd_same] at hc; exact exo_tup (Option.some.inj hc)
      rw [upd_ne hca] at hc; exact hc
  have J : Inv X pins σ H ⟨G, g2, d2, t2, os2⟩ := I.call' (ch := []) ho U hok3 hb (fun b z => absurd z (by simp))
  refine ⟨t0, G, J, fun b o z => ?_, ge, hn, hoe⟩
  by_cases hba : b = a
  · rw [hba, ge] at z; cases z
  · exact (gk b hba).symm.trans z
theorem bmk0 {W : WK} {fI : Addr} {k : Nat} {fd : FuncData} (FB : ExcBaseFacts B newId initId bm) (T : OxC X.K newId bm C) (iC : PySem.W.findIn X.K (.ref C) "__init__" = some (some (.ref fI))) (tI : PySem.W.typeIn X.K (.ref fI) = some (.type "function"))
    (F : FnOk X.prog X.w X.K X.mg X.base (L2.CX X.prog X.w) k fI fd ["self"] (sp0 C)) (hr : Room (k + 1) X.A) (hb : Binds X.K fd ["self"] []) (tk : Takes X W) {Q : XK} (I : Inv X pins σ H s) (h : Q (.ref C) none H) :
    wpAny (model X.prog X.w) X.A (call (.ref C) []) (MkP X pins σ Q) X.xe s := by
  obtain ⟨nm, N, qn, bs, bc, hdct, sn, sub, ab, col, dd, k0, k1, k2, k3, k5, hC, hT⟩ := PySem.W.excInit_of I.kIn T.ini
  obtain ⟨hp, g, dr, t, os⟩ := s
  have hsz : hp.objs.size ≤ hp.objs.size + 1 := Nat.le_succ _
  have kk : ∀ b o, hp.get? b = some o → ((hp.push (PySem.W.kdv_tup [])).push (PySem.HandSPX.excO C hp.objs.size)).get? b = some o := fun b o z => Heap.get?_push_of_some _ (Heap.get?_push_of_some _ z)
  have hget : ((hp.push (PySem.W.kdv_tup [])).push (PySem.HandSPX.excO C hp.objs.size)).get? (hp.objs.size + 1) = some (PySem.HandSPX.excO C hp.objs.size) := by heap_get
  have J : Inv X pins σ (upd H (hp.objs.size + 1) (exo (hp.objs.size + 1) C none)) ⟨(hp.push (PySem.W.kdv_tup [])).push (PySem.HandSPX.excO C hp.objs.size), g, dr, t, os⟩ :=
    I.laid (t' := t) (a := hp.objs.size + 1) kk hsz (exo_ok hget)
  have b := hb _ [Value.ref (hp.objs.size + 1)] J.kIn (by rfl)
  rw [List.append_nil] at b
  refine wpAny_call (PySem.HandSPX.call_own FB hT hC (PySem.W.looks_findIn I.kIn iC) (fun v => PySem.W.bind_fn I.kIn v tI) (by rw [sizeLine_eq]; simp)
    (codeAny_mono (F.run _ X.stack _ _ ⟨[Value.ref (hp.objs.size + 1)], []⟩ _ [.ref (hp.objs.size + 1)] (fun v H2 => v = .non ∧ H2 = upd H (hp.objs.size + 1) (exo (hp.objs.size + 1) C none)) (WE W σ) (hr.make C [] []) (J.env0.make C [] []) b (.cons rfl .nil) ⟨_, rfl, upd_same, rfl, rfl⟩) fun r' s' z => ?_))
  match r', z with
  | .error er, z => exact passAt tk σ pins _ _ er s' J z
  | .ok (.ret u), z =>
    obtain ⟨v, H2, os2, bare2, un2, hok2, rv, hv, e2⟩ := z
    subst hv
    subst e2
    obtain ⟨h2, g2, d2, t2, os'⟩ := s'
    obtain ⟨t0, G, J2, kG, ge, hn, hoe⟩ := mk_gone (d2 := d2) (t2 := t2) I hsz kk un2 hok2 os2 bare2
    exact ⟨rv, hp.objs.size + 1, _, _, ⟨G, g2, d2, t2, os'⟩, H, .ref C, none, rfl, J2, kG, ge, hoe, ⟨rfl, rfl⟩, rfl, rfl, hn, rfl, bare2, raises_own T.A.exC T.A.ty, h⟩
  | .ok .next, z => exact z.elim
  | .ok .brk, z => exact z.elim
  | .ok .cont, z => exact z.elim
end
def sRaise (n : Str) : MS := fun env s => .ex ⟨n, []⟩ env s
section
variable {X : Cx} {W : WK} {C : Addr} {B newId initId : String} {bm : List Value} {p pos pos2 : Pos}
theorem s_raise0 {n : Str} {fI : Addr} {k : Nat} {fd : FuncData} (FB : ExcBaseFacts B newId initId bm) (T : OxC X.K newId bm C) (hC : PySem.W.nsIn X.K mainGlobals n = some (some (.ref C))) (iC : PySem.W.findIn X.K (.ref C) "__init__" = some (some (.ref fI))) (tI : PySem.W.typeIn X.K (.ref fI) = some (.type "function"))
    (F : FnOk X.prog X.w X.K X.mg X.base (L2.CX X.prog X.w) k fI fd ["self"] (sp0 C)) (hr : Room (k + 1) X.A) (hb : Binds X.K fd ["self"] []) (hc : X.calm = true) (tk : Takes X W) (hg : Gl X n) (hm : X.mg n = some (.ref C)) (hdb : (n == ("__debug__" : Str)) = false := by decide) :
    MSt X W (.Raise (some (.Call (.Name n p) [] [] pos)) none pos2) (sRaise n) := by
  have pm : PMk X (.Call (.Name n p) [] [] pos) (fun _ H Q => Q (.ref C) none H) := fun pins s σ H Q I h => by
    refine wpAny_Call_Name_kw (ld_glob I hg hm ?_ hdb)
    exact PySem.W.callWith_K0 I.kIn T.kC (bmk0 FB T iC tI F hr hb tk I h)
  exact ⟨_, ps_raise hc tk pm, fun D σ H ρ env sto h1 h2 h3 => h3 (.ref C) none σ H ρ .refl h2 h1 ⟨⟨C, hC, rfl⟩, rfl⟩⟩
end
/-! ### try: .. except C: .. -/
def XmTab (K : PySem.W.Frag) (c : Value) (tab : List (Str × Bool)) : Prop := ∀ n b, tab.lookup n = some b → ∀ C, PySem.W.nsIn K mainGlobals n = some (some (.ref C)) → PySem.W.exmOne K (.ref C) c = some b
def Fl.noex : Fl → Fl
  | .ex _ _ _ => .bad
  | r => r
def sTry (tab : List (Str × Bool)) (b u : MS) : MS := fun env s => match b env s with
  | .ex e env1 s1 => match tab.lookup e.cls with
    | some true => (u env1 s1).noex
    | some false => .ex e env1 s1
    | none => .bad
  | r => r
theorem FPost.unex {K : PySem.W.Frag} {W W' : WK} {D : Ends} {H : Hp} {ρ : Rh} : ∀ {f : Fl}, FPost K W D H ρ f.noex → FPost K W' D H ρ f
  | .nx _ _, h => h
  | .rt _ _, h => h
  | .bk _ _, h => h
  | .ct _ _, h => h
  | .ex _ _ _, h => h.elim
  | .bad, h => h
section
variable {X : Cx} {W : WK} {x : Str} {c : Value} {body suite : List Stmt} {b₀ : Stmt} {np pos pos' : Pos} {mb mu : MS}
theorem s_try {tab : List (Str × Bool)} (hs : X.stack = X.env :: X.outer) (hf : X.env.frame = some X.env.locals) (hc : Names X x c) (tk : Takes X W) (T : XmTab X.K c tab)
    (hb : ∀ (W' : WK) (pn : List (Addr × Obj)) (xe : Value → Shared → Prop), Takes (X.tr pn xe) W' → PassesOwn (model X.prog X.w) X.A X.env xe → MSs (X.tr pn xe) W' body mb)
    (hu : ∀ (a : Addr) (oe : Obj) (pn : List (Addr × Obj)), MSs (X.suite a ((a, oe) :: pn)) WF (b₀ :: suite) mu) :
    MSt X W (.Try body [.ExceptHandler (some (.Name x np)) none (b₀ :: suite) pos'] [] [] pos) (sTry tab mb mu) := by
  refine ⟨_, ps_try_only (tb := fun W' => cS X.K W' mb) (ts := fun _ _ _ => cS X.K WF mu) hs hf hc tk (fun W' pn xe h1 h2 => (hb W' pn xe h1 h2).can) (fun a oe cls d pn _ _ => (hu a oe pn).can), fun D σ H ρ env sto h1 h2 h3 => ⟨ρ, env, sto, h1, h2, ?_⟩⟩
  unfold sTry at h3
  cases q : mb env sto with
  | nx e s => rw [q] at h3; exact h3
  | rt v s => rw [q] at h3; exact h3
  | bk e s => rw [q] at h3; exact h3
  | ct e s => rw [q] at h3; exact h3
  | bad => rw [q] at h3; exact h3
  | ex e env1 s1 =>
    rw [q] at h3
    dsimp only at h3
    intro cls d σ' H' ρ' xx S E R
    obtain ⟨⟨C, hC, rfl⟩, _⟩ := id R
    cases l : tab.lookup e.cls with
    | none => rw [l] at h3; exact h3.elim
    | some b =>
      rw [l] at h3
      refine ⟨b, T _ _ l C hC, fun hb1 a ha => ?_, fun hb0 => ?_⟩
      · subst hb1
        exact ⟨ρ', env1, s1, E, S, FPost.unex (FPost.shift xx h2.hh h3)⟩
      · subst hb0
        exact h3 _ _ _ _ _ xx S E R
end
inductive TabXm (K : PySem.W.Frag) (c : Value) : List (Str × Bool) → Prop
  | nil : TabXm K c []
  | cons {n : Str} {C : Addr} {b : Bool} {r : List (Str × Bool)} (a : PySem.W.nsIn K mainGlobals n = some (some (.ref C))) (q : PySem.W.exmOne K (.ref C) c = some b) (t : TabXm K c r) : TabXm K c ((n, b) :: r)
theorem tab_xm {K : PySem.W.Frag} {c : Value} : ∀ (tab : List (Str × Bool)), TabXm K c tab → XmTab K c tab
  | _, .nil => fun n b h => by simp [List.lookup] at h
  | _, .cons (n := m) (C := D) (b := b0) (r := r) a q t => fun n b h C hC => by
    by_cases e : n = m
    · subst e
      rw [a] at hC
      cases hC
      rw [List.lookup_cons_self] at h
      cases h
      exact q
    · have e' : (n == m) = false := by simpa using e
      simp only [List.lookup, e'] at h
      exact tab_xm r t n b h C hC
theorem exm_own {K : PySem.W.Frag} {C : Addr} {cls : Value} {b : Bool} (A : OxA K C) (h : PySem.W.subIn K cls (.ref C) = some b) : PySem.W.exmOne K cls (.ref C) = some b := by
  obtain ⟨cd, hc, _⟩ := PySem.W.any_some (show (PySem.W.clsIn K C).any (·.hasDict) = true from A.hd)
  show (if (PySem.W.subIn K (.ref C) (.type "BaseException") == some true) = true then (if ((PySem.W.clsIn K C).isSome && PySem.W.typeIn K (.ref C) == some (.type "type")) = true then PySem.W.subIn K cls (.ref C) else none) else none) = some b
  rw [A.exC, hc, A.ty]
  exact h
end Mi

noncomputable section
namespace Mi
open PySem PySem.Spec PyProof.Rows L2

/-! ### f(a=.., b=..): all arguments by name, in the order of the parameters -/
section
variable {X : Cx} {W : WK} {k : Nat} {f : Addr} {fd : FuncData} {ps : List Str} {run : GC} {x : Str} {mk : MA} {p pos : Pos} {kws : List Keyword}
theorem e_callW (F : FOk X.prog X.w X.K X.mg X.base k f fd ps run) (hr : Room k X.A) (tk : Takes X W) (hg : Gl X x) (hm : X.mg x = some (.ref f)) (hk : PySem.W.keepIn X.K (.ref f) = true)
    (hb : ∀ (s : Shared) (ws : List Value), ws.length = ps.length → BindsTo s fd ⟨[], ps.zip ws⟩ (ps.zip ws)) (ha : MKs X W kws mk) {n : Nat} (hn : ps.length = n := by rfl)
    (hall : (backToKw pos (keywordEach kws X.env)).all (·.1.isSome) = true := by rfl) (hks : (backToKw pos (keywordEach kws X.env)).filterMap (·.1) = ps := by rfl) (hdb : (x == ("__debug__" : Str)) = false := by decide)
    (hpl : ((backTo pos (starEach [] X.env)).any (·.1) || (backToKw pos (keywordEach kws X.env)).any (·.1.isNone)) = false := by rfl) : ME X W (.Call (.Name x p) [] kws pos) (mCall (ar n run) mk) := by
  subst hn
  obtain ⟨t, q, s⟩ := ha
  refine ⟨fun σ H Q => t σ H fun vs H1 => spF X.K ps.length run vs H1 Q (WE W σ), ⟨fun pins st σ H Q I h => ?_⟩, fun σ H ρ env sto Q hE hS hP => ?_⟩
  · refine wpAny_Call_Name_kw (ld_glob I hg hm ?_ hdb)
    refine PySem.W.callWith_KW0 (h₀ := X.base) I.ok.mod.kin hk hall (thn (q.run pos pins st σ H _ I h) fun us s1 ⟨vs, H1, I1, r, q1⟩ => ⟨I1.kIn, ?_⟩) hpl
    rw [hks]
    have hl : us.length = ps.length := by rw [← Paired.length r]; exact F.len _ _ _ _ q1
    refine wpAny_call (codeAny_mono (F.run X.A X.stack s1 H1 ⟨[], ps.zip us⟩ us vs Q (WE W σ) hr I1.env0 (hb s1 us hl) r q1) fun r' s' z => ?_)
    match r', z with
    | .error er, z => exact passAt tk σ pins _ _ er s' I1 z
    | .ok (.ret u), z => exact I1.after z
    | .ok .next, z => exact z.elim
    | .ok .brk, z => exact z.elim
    | .ok .cont, z => exact z.elim
  · refine s σ H ρ env sto _ hE hS ((hP.bind hS).imp fun v s1 H1 ρ1 x1 S1 P1 ys hys => ?_)
    unfold ar at P1
    cases q : Nat.beq v.length ps.length with
    | false => rw [q] at P1; exact P1.elim
    | true =>
      rw [q] at P1
      exact ⟨by rw [← hys.length]; exact Nat.eq_of_beq_eq_true q, v, ρ1, s1, hys, S1, P1⟩
end
/-! ### isinstance(caught, T) in the suite -/
def mIsC (a : Addr) (i : Nat) (ob : Option Bool) : M := fun env s => match env[i]? with
  | some (some (.obj a')) => if a' = a then (match ob with
    | some b => .ok (.bl b) s
    | none => .bad) else .bad
  | _ => .bad
/-- the same, the name's slot left alone -/
def mIsD (ob : Option Bool) : M := fun _ s => match ob with
  | some b => .ok (.bl b) s
  | none => .bad
section
variable {X : Cx} {W : WK} {a C : Addr} {oe : Obj} {pn : List (Addr × Obj)} {c : Expr} {p p2 pos : Pos}
theorem cr_isC {cV : V} {cv : Value} {b : Bool} (Kk : OxK X.K) (A : OxA X.K C) (hz : Zc (.ref C) none oe) (hf : ∃ vs, oe.data = .fields vs) (hcv : ∀ u, RelV cV u → u = cv) (k : PySem.W.kitOne X.K (.ref C) cv = some b) :
    CallR (X.suite a ((a, oe) :: pn)) (.builtin "isinstance") (fun vs H Q => vs = [.ref a, cV] ∧ Q (.bl b) H) := by
  intro pins s σ H vs us Q I r h
  obtain ⟨rfl, q⟩ := h
  obtain ⟨u1, u2, rfl, r1, r2⟩ := vals2 r
  obtain rfl : u1 = Value.ref a := r1
  have e2 := hcv _ r2
  subst e2
  obtain ⟨hget, _⟩ := I.pin (a, oe) (List.mem_append.mpr (.inl List.mem_cons_self))
  obtain ⟨vs, hv⟩ := hf
  have J : PySem.W.InstAt s.heap a oe C none := by
    obtain ⟨oc, od, oda, osl⟩ := oe
    obtain ⟨h1, h2⟩ := hz
    dsimp only at h1 h2 hv
    subst h1 h2 hv
    exact ⟨hget, rfl, rfl, trivial⟩
  have hcl : (PySem.W.clsIn X.K C).isSome = true := by
    obtain ⟨cd, hcd, _⟩ := PySem.W.any_some (show (PySem.W.clsIn X.K C).any (·.hasDict) = true from A.hd)
    rw [hcd]; rfl
  exact PySem.W.kia_one (PySem.W.kitx_exc hcl A.ga A.gg A.exC A.cl Kk.gs Kk.tk A.ob) I.kIn J k (fun z => nomatch z) fun t => ⟨.bl b, H, I.tok t, rfl, q⟩
theorem e_isC {n : Str} {i : Nat} {tab : List (Str × Bool)} {cV : V} {cv : Value} {x : Str} (hn : PySem.W.nsIn X.K mainGlobals n = some (some (.ref C))) (Kk : OxK X.K) (T : IsTab X.K cv tab) (hz : Zc (.ref C) none oe) (hf : ∃ vs, oe.data = .fields vs)
    (gl : Gl (X.suite a ((a, oe) :: pn)) "isinstance") (hm : X.mg "isinstance" = none) (hc : PE (X.suite a ((a, oe) :: pn)) c (tC cV)) (hcv : ∀ u, RelV cV u → u = cv) (hN : X.N[i]? = some x) (hv : Vis X.env.scope x)
    (hd : (x == ("__debug__" : Str)) = false := by decide) (hcd : (x == ("__classdict__" : Str)) = false := by decide)
    (he : starEach [.Name x p2, c] X.env = (false, eval (.Name x p2) X.env) :: starEach [c] X.env := by rfl) (he2 : starEach [c] X.env = (false, eval c X.env) :: starEach [] X.env := by rfl) (hpl : (backTo pos (starEach [c] X.env)).any (·.1) = false := by rfl) :
    ME (X.suite a ((a, oe) :: pn)) W (.Call (.Name "isinstance" p) [.Name x p2, c] [] pos) (mIsC a i (tab.lookup n)) := by
  cases l : tab.lookup n with
  | none =>
    refine ⟨fun _ _ _ => False, ⟨fun _ _ _ _ _ _ h => h.elim⟩, fun σ H ρ env sto Q hE hS hP => ?_⟩
    unfold mIsC at hP
    split at hP
    · split at hP <;> exact hP.elim
    · exact hP.elim
  | some b =>
    obtain ⟨A, k⟩ := T n b l C hn
    refine ⟨_, pe_callB (cr_isC Kk A hz hf hcv k) gl hm (by decide +kernel) (pa_cons (pe_var (i := i) hN hv hd hcd) (pa_cons hc pa_nil he2) he) (by decide) (by decide) he hpl, fun σ H ρ env sto Q hE hS hP => ?_⟩
    unfold mIsC at hP
    split at hP
    · rename_i a' e
      split at hP
      · rename_i e2
        subst e2
        obtain ⟨v, h1, h2⟩ := hE.2 i _ e
        cases h2
        exact ⟨_, h1, rfl, hP H ρ .refl hS _ rfl⟩
      · exact hP.elim
    · exact hP.elim
end
/-! ### try: .. except C as n: .. -/
def putF (i : Nat) (v : Option PV) : Fl → Fl
  | .nx e s => .nx (e.set i v) s
  | .bk e s => .bk (e.set i v) s
  | .ct e s => .ct (e.set i v) s
  | .ex x e s => .ex x (e.set i v) s
  | r => r
theorem putF_nx (i : Nat) (v : Option PV) (e : Env) (s : Sto) : putF i v (.nx e s) = .nx (e.set i v) s := rfl
theorem putF_rt (i : Nat) (v : Option PV) (x : PV) (s : Sto) : putF i v (.rt x s) = .rt x s := rfl
theorem bind_ok {α β : Type} (a : α) (s : Sto) (f : α → Sto → R β) : (R.ok a s).bind f = f a s := rfl
theorem fl_ok {α : Type} (a : α) (s : Sto) (env : Env) (f : α → Sto → Fl) : (R.ok a s).fl env f = f a s := rfl
theorem putF_fl {α : Type} (i : Nat) (v : Option PV) (env : Env) (r : R α) (f : α → Sto → Fl) : putF i v (r.fl env f) = r.fl (env.set i v) fun x s => putF i v (f x s) := by cases r <;> rfl
theorem clr {i : Nat} {K : PySem.W.Frag} {H : Hp} {ρ : Rh} {v : Option PV} {e : Env} {σ : L2.St} (E : REnv K H ρ (e.set i v) σ) : REnv K H ρ (e.set i none) (σ.set i none) := by
  refine ⟨by simpa using E.1, fun j p q => ?_⟩
  by_cases hj : i = j
  · subst hj
    rw [List.getElem?_set] at q
    simp at q
  · rw [List.getElem?_set_ne hj] at q
    obtain ⟨w, h1, h2⟩ := E.2 j p (by rw [List.getElem?_set_ne hj]; exact q)
    exact ⟨w, by rw [List.getElem?_set_ne hj]; exact h1, h2⟩
def sTryAs (tab : List (Str × Bool)) (i : Nat) (b : MS) (u : Str → MS) : MS := fun env s => match b env s with
  | .ex e env1 s1 => match tab.lookup e.cls with
    | some true => match e.flds with
      | [] => bif Nat.blt i env1.length then putF i none (u e.cls (env1.set i none) s1).noex else .bad
      | _ => .bad
    | some false => .ex e env1 s1
    | none => .bad
  | r => r
section
variable {X : Cx} {W : WK} {x n : Str} {i : Nat} {c : Value} {body suite : List Stmt} {b₀ : Stmt} {np pos pos' : Pos} {mb : MS} {mu : Addr → Str → MS} {mu0 : Str → MS}
theorem putF_post {K : PySem.W.Frag} {D : Ends} {H : Hp} {ρ : Rh} {v : Option PV} : ∀ {f : Fl}, FPost K WF D H ρ (putF i none f).noex →
    FPost K WF { nx := fun σ' H' => D.nx (σ'.set i none) H', rt := D.rt, bk := fun σ' H' => D.bk (σ'.set i none) H', ct := fun σ' H' => D.ct (σ'.set i none) H' } H ρ (putF i v f)
  | .nx e s, h => fun σ' H' ρ' x S E => h _ H' ρ' x S (clr E)
  | .rt _ _, h => h
  | .bk e s, h => fun σ' H' ρ' x S E => h _ H' ρ' x S (clr E)
  | .ct e s, h => fun σ' H' ρ' x S E => h _ H' ρ' x S (clr E)
  | .ex _ _ _, h => h.elim
  | .bad, h => h
theorem s_try_as {tab : List (Str × Bool)} (hs : X.stack = X.env :: X.outer) (hf : X.env.frame = some X.env.locals) (hN : X.N.Nodup) (hi : X.N[i]? = some n) (hln : X.env.kindOf n = some .local) (hc : Names X x c) (tk : Takes X W) (T : XmTab X.K c tab)
    (hb : ∀ (W' : WK) (pn : List (Addr × Obj)) (xe : Value → Shared → Prop), Takes (X.tr pn xe) W' → PassesOwn (model X.prog X.w) X.A X.env xe → MSs (X.tr pn xe) W' body mb)
    (hu : ∀ (k : Str) (C a : Addr) (oe : Obj) (pn : List (Addr × Obj)), PySem.W.nsIn X.K mainGlobals k = some (some (.ref C)) → Zc (.ref C) none oe → (∃ vs, oe.data = .fields vs) → MSs (X.suite a ((a, oe) :: pn)) WF (b₀ :: suite) (mu a k))
    (hp : ∀ (a : Addr) (k : Str) (env : Env) (s : Sto), i < env.length → mu a k (env.set i (some (.obj a))) s = putF i (some (.obj a)) (mu0 k (env.set i none) s)) :
    MSt X W (.Try body [.ExceptHandler (some (.Name x np)) (some n) (b₀ :: suite) pos'] [] [] pos) (sTryAs tab i mb mu0) := by
  refine ⟨_, ps_try_as (i := i) (tb := fun W' => cS X.K W' mb) (ts := fun a cls d D σ H => ∃ k C, PySem.W.nsIn X.K mainGlobals k = some (some (.ref C)) ∧ cls = .ref C ∧ d = none ∧ cS X.K WF (mu a k) D σ H) hs hf hN hi hln hc tk (fun W' pn xe h1 h2 => (hb W' pn xe h1 h2).can) (fun a oe cls d pn hz hv => ⟨fun pins s σ H D I h => ?_⟩), fun D σ H ρ env sto h1 h2 h3 => ⟨ρ, env, sto, h1, h2, ?_⟩⟩
  · obtain ⟨k, C, hk, e1, e2, h⟩ := h
    subst e1 e2
    exact (hu k C a oe pn hk hz hv).can.run pins s σ H D I h
  unfold sTryAs at h3
  cases q : mb env sto with
  | nx e s => rw [q] at h3; exact h3
  | rt v s => rw [q] at h3; exact h3
  | bk e s => rw [q] at h3; exact h3
  | ct e s => rw [q] at h3; exact h3
  | bad => rw [q] at h3; exact h3
  | ex e env1 s1 =>
    rw [q] at h3
    dsimp only at h3
    intro cls d σ' H' ρ' xx S E R
    obtain ⟨⟨C, hC, rfl⟩, hd⟩ := id R
    cases l : tab.lookup e.cls with
    | none => rw [l] at h3; exact h3.elim
    | some b =>
      rw [l] at h3
      refine ⟨b, T _ _ l C hC, fun hb1 a ha => ?_, fun hb0 => ?_⟩
      · subst hb1
        dsimp only at h3
        cases fl : e.flds with
        | cons _ _ => rw [fl] at h3; exact h3.elim
        | nil =>
          rw [fl] at h3
          have hdn : d = none := by
            cases d with
            | none => rfl
            | some d => exact absurd fl hd.1
          subst hdn
          refine ⟨e.cls, C, hC, rfl, rfl, ρ', env1.set i (some (.obj a)), s1, E.set i rfl, S, ?_⟩
          obtain ⟨hlen, h3⟩ := and_of (C := FPost X.K W D H ρ) h3 (fun z => z)
          have hlen : i < env1.length := Nat.le_of_ble_eq_true hlen
          have z : FPost X.K WF D H' ρ' (putF i none (mu0 e.cls (env1.set i none) s1)).noex := by
            have z := FPost.shift xx h2.hh h3
            cases r : mu0 e.cls (env1.set i none) s1 <;> rw [r] at z <;> exact z
          rw [hp a e.cls env1 s1 hlen]
          exact putF_post z
      · subst hb0
        exact h3 _ _ _ _ _ xx S E R
end
end Mi

noncomputable section
namespace Mi
open PySem PySem.Spec PyProof.Rows L2

/-! ### the end of a law whose defs' tables may grow -/
/-- the tables of these defs, by the written part -/
def tabsOf (K : PySem.W.Frag) (pres : List Str) : List (Addr × Addr) := pres.filterMap (PySem.W.tabIn K)
theorem noTab_look {K : PySem.W.Frag} (h : PySem.W.noTabs K = true) {a : Addr} {ps : Array Value} : K.lookup a ≠ some (PySem.W.tabObj ps) := fun e => by
  have q := List.all_eq_true.mp h _ (PySem.W.mem_of_lookupK e)
  cases q
/-- what the law's call starts from -/
structure Begin (K : PySem.W.Frag) (tabs : List Addr) (a : Addr) (ns : List Int) (H : Hp) : Prop where
  tab : ∀ b ∈ tabs, H b = some (.ext (G0.tabOk b))
  sq : SqL K H a (ns.map V.int)
  only : ∀ b, H b = none ∨ b ∈ tabs ∨ ∃ o xs, H b = some (.frz o (.lst xs))
section
variable {P : Program} {w : World} {K : PySem.W.Frag} {mg mb : Str → Option Value} {CX : CXT} {k : Nat} {fa a : Addr} {cs : List (Addr × Addr)} {fd : FuncData} {x : Str} {sp : Sp} {s1 : Shared} {vs : List Value} {ns : List Int}
theorem law_run (KX : K.In s1.heap) (nK : PySem.W.noTabs K = true) (hns : s1.heap.Ns mainGlobals mg) (hb : s1.heap.Ns builtinsNs mb) (hbb : ∀ x : Str, x ≠ "__name__" → mb x = bootBuiltins x) (hlim : s1.heap.NoLimit) (hg : s1.gens = #[])
    (hT : ∀ p ∈ cs, PySem.W.CodeHd s1.heap p.1 p.2 ∧ s1.heap.get? p.2 = some (PySem.W.tabObj #[]))
    (hbm : ∃ (bm : Addr) (ob : Obj), mg "__builtins__" = some (.ref bm) ∧ bm ≠ builtinsNs ∧ s1.heap.get? bm = some ob ∧ ob.cls = .type "module" ∧ ob.dict = some builtinsNs ∧ ob.data = .plain)
    (ha : s1.heap.get? a = some { cls := .type "list", data := .seq vs.toArray }) (hi : IntsAre vs ns) (hl : ns.length ≤ sizeLine) (hr : Room k callerA)
    (F : ∀ base : Heap, K.In base → base.Ns mainGlobals mg → (∀ p ∈ cs, GxR.TabB base mg p.1 p.2) → FnOk P w K mg base CX k fa fd [x] sp) (hbind : ∀ (s : Shared) (u : Value), BindsTo s fd ⟨[u], []⟩ [(x, u)])
    (hsp : ∀ H : Hp, Begin K (cs.map (·.2)) a ns H → sp [.ref a] H (fun v H' => v = .bl true ∧ ∀ b ∈ cs.map (·.2), H' b = some (.ext (G0.tabOk b))) fun _ _ _ => False)
    (hCX : ∀ H e s', CX [] H s1 (fun _ _ _ => False) e s' → False) :
    codeAny (model P w) callerA (.call (.ref fa) ⟨[.ref a], []⟩) (fun r s' => r = .ok (.ret (.bool true)) ∧ OldK s1.heap s'.heap ∧ s'.os = s1.os ∧ AllBare s'.gens) s1 := by
  classical
  have rv := vals_ints hi
  have lenV := hi.length
  generalize hTs : cs.map (·.2) = ts at hsp
  have tabAt : ∀ b ∈ ts, s1.heap.get? b = some (PySem.W.tabObj #[]) := fun b hb => by
    rw [← hTs] at hb
    obtain ⟨p, hp, e⟩ := List.mem_map.mp hb
    rw [← e]; exact (hT p hp).2
  have aT : a ∉ ts := fun z => by
    have q := tabAt a z
    rw [ha] at q
    cases congrArg Obj.cls (Option.some.inj q)
  have mem2 : ∀ p ∈ cs, p.2 ∈ ts := fun p hp => by rw [← hTs]; exact List.mem_map.mpr ⟨p, hp, rfl⟩
  have go : ∀ H : Hp, Begin K ts a ns H → HOk P w H s1.heap → (∀ b, H b ≠ none → b = a ∨ b ∈ ts) → (H a ≠ none → K.lookup a = none) →
      codeAny (model P w) callerA (.call (.ref fa) ⟨[.ref a], []⟩) (fun r s' => r = .ok (.ret (.bool true)) ∧ OldK s1.heap s'.heap ∧ s'.os = s1.os ∧ AllBare s'.gens) s1 := by
    intro H B hok hA hK
    have other : ∀ {b : Addr} {o : Obj}, s1.heap.get? b = some o → (∀ v n, o.data ≠ .seq v n) → o.data ≠ .fields #[] → H b = none := fun {b o} e d1 d2 => by
      by_cases q : H b = none
      · exact q
      · rcases hA b q with z | z
        · rw [z, ha] at e; cases e; exact (d1 _ _ rfl).elim
        · rw [tabAt b z] at e; cases e; exact (d2 rfl).elim
    have shown : ∀ {b : Addr} {o : Obj}, s1.heap.get? b = some o → (∀ v n, o.data ≠ .seq v n) → o.data ≠ .fields #[] → (hidT s1.heap H).get? b = some o := fun e d1 d2 => hidT_get e (other e d1 d2)
    have nsK : ∀ {b : Addr} {m : Str → Option Value}, s1.heap.Ns b m → (hidT s1.heap H).Ns b m := fun {b m} ⟨o, es, ep, e, d, r⟩ => ⟨o, es, ep, shown e (fun v n z => by rw [d] at z; cases z) (fun z => by rw [d] at z; cases z), d, r⟩
    have hKb : K.In (hidT s1.heap H) := fun b o e => by
      have e1 := KX b o e
      refine hidT_get e1 ?_
      by_cases q : H b = none
      · exact q
      · rcases hA b q with z | z
        · rw [z] at e q; rw [hK q] at e; cases e
        · rw [tabAt b z] at e1; cases e1; exact (noTab_look nK e).elim
    have hM : L2.Mod K mg (hidT s1.heap H) := ⟨hKb, nsK hns, ⟨mb, nsK hb, hbb⟩, let ⟨mc, h1, h2⟩ := hlim; ⟨mc, nsK h1, h2⟩⟩
    have TB : ∀ p ∈ cs, GxR.TabB (hidT s1.heap H) mg p.1 p.2 := fun p hp => by
      obtain ⟨C, hTp⟩ := hT p hp
      refine ⟨?_, ?_, fun z => ?_⟩
      · obtain ⟨o, us, file, tf, flags, tg, inF, text, tt, e1, r1, r2, r3, rest⟩ := C
        exact ⟨o, us, file, tf, flags, tg, inF, text, tt, shown e1 (fun v n z => by rw [r2] at z; cases z) (fun z => by rw [r2] at z; cases z; simp at r3), r1, r2, r3, rest⟩
      · obtain ⟨bm, ob, b1, b2, b3, b4, b5, b6⟩ := hbm
        have d1 : ∀ v n, ob.data ≠ .seq v n := fun v n z => by rw [b6] at z; cases z
        have d2 : ob.data ≠ .fields #[] := fun z => by rw [b6] at z; cases z
        refine ⟨bm, ob, b1, b2, fun q => ?_, fun q => ?_, shown b3 d1 d2, b4, b5, b6⟩
        · obtain ⟨o, es, ep, e, hd, _⟩ := hns
          rw [q, e] at b3; cases b3
          rw [hd] at b6; cases b6
        · rw [q, hTp] at b3; cases b3; cases b6
      · obtain ⟨o, es, ep, e, hd, _⟩ := hns
        rw [z, hTp] at e; cases e; cases hd
    have e0 : Env0 P w K mg (hidT s1.heap H) callerA [] s1 H := ⟨rfl, hM, fun b o e => of_hidT e, Nat.le_of_eq (hidT_size _ _), trivial, fun b hb => absurd (show b ∈ ([] : List Addr) from hb) (by simp), hok, .of_eq hg⟩
    refine codeAny_mono ((F _ hKb (nsK hns) TB).run callerA [] s1 H ⟨[.ref a], []⟩ [.ref a] [.ref a] _ _ hr e0 (hbind s1 (.ref a)) (.cons rfl .nil) (hsp H B)) fun r s' h => ?_
    match r, h with
    | .error e, h => exact (hCX H e s' h).elim
    | .ok .next, h => exact h.elim
    | .ok .brk, h => exact h.elim
    | .ok .cont, h => exact h.elim
    | .ok (.ret u), h =>
      obtain ⟨v, H', os, bare, un, hok', r', q, qt⟩ := h
      subst q
      obtain rfl : u = Value.bool true := r'
      have key : ∀ b o, b ∉ ts → s1.heap.get? b = some o → s'.heap.get? b = some o := fun b o nb e => by
        rcases B.only b with q | q | ⟨ob, xs, z⟩
        · exact un.keep b o e q (fun z => by cases z) (fun z => by cases z)
        · exact absurd q nb
        · obtain ⟨e1, _⟩ := hok b _ z
          obtain ⟨e2, _⟩ := hok' b _ (un.frzs b ob _ z)
          rw [e] at e1; cases e1
          exact e2
      have grown : ∀ b ∈ ts, ∃ more : Array Value, s'.heap.get? b = some (PySem.W.tabObj more) := fun b hb => by
        obtain ⟨⟨ps, e, _⟩, _⟩ := hok' b _ (qt b hb)
        exact ⟨ps, e⟩
      refine ⟨rfl, ⟨fun b o e => ?_, fun b o e => ?_⟩, os, bare⟩
      · by_cases hbt : b ∈ ts
        · have hbt' := hbt
          rw [← hTs] at hbt'
          obtain ⟨p, hp, ep⟩ := List.mem_map.mp hbt'
          subst ep
          obtain ⟨more, hm⟩ := grown _ hbt
          obtain ⟨C, hTp⟩ := hT p hp
          rw [hTp] at e; cases e
          exact .inr (.inl ⟨(C.tab hTp).isCodeTable, rfl, #[], more, rfl, by rw [Array.empty_append]; exact hm⟩)
        · exact .inl (key b o hbt e)
      · by_cases hbt : b ∈ ts
        · obtain ⟨more, hm⟩ := grown _ hbt
          exact ⟨_, hm⟩
        · exact ⟨o, key b o hbt e⟩
  have tabs : ∀ b ∈ ts, ∀ H : Hp, ObjOk P w H s1.heap b (.ext (G0.tabOk b)) := fun b hb H => G0.tabOk_obj ⟨#[], tabAt b hb, by simp [TriplesOk]⟩
  cases hk : K.lookup a with
  | some o =>
    have e := KX a o hk
    rw [ha] at e; cases e
    refine go (fun b => if b ∈ ts then some (.ext (G0.tabOk b)) else none) ⟨fun b hb => if_pos hb, .inr ⟨_, vs.toArray, _, hk, rfl, rfl, rfl, by rw [List.size_toArray, lenV]; exact hl, by simpa using rv⟩, fun b => ?_⟩ (fun b u z => ?_) (fun b z => ?_) fun z => absurd (if_neg aT) z
    · by_cases hb : b ∈ ts
      · exact .inr (.inl hb)
      · exact .inl (if_neg hb)
    · by_cases hb : b ∈ ts
      · have z' := (if_pos hb).symm.trans z
        cases z'; exact tabs b hb _
      · have z' := (if_neg hb).symm.trans z
        cases z'
    · by_cases hb : b ∈ ts
      · exact .inr hb
      · exact absurd (if_neg hb) z
  | none =>
    refine go (fun b => if b = a then some (.frz { cls := .type "list", data := .seq vs.toArray } (.lst (ns.map V.int))) else if b ∈ ts then some (.ext (G0.tabOk b)) else none)
      ⟨fun b hb => (if_neg (show ¬ b = a from fun z => aT (z ▸ hb))).trans (if_pos hb), .inl (.inr ⟨{ cls := .type "list", data := .seq vs.toArray }, if_pos rfl⟩), fun b => ?_⟩ (fun b u z => ?_) (fun b z => ?_) fun _ => hk
    · by_cases h1 : b = a
      · exact .inr (.inr ⟨_, _, if_pos h1⟩)
      · by_cases h2 : b ∈ ts
        · exact .inr (.inl h2)
        · exact .inl ((if_neg h1).trans (if_neg h2))
    · by_cases h1 : b = a
      · have z' := (if_pos h1).symm.trans z
        cases z'
        rw [h1]
        exact ⟨ha, by rw [List.length_map]; exact hl, vs, _, rv, ha⟩
      · have z1 := (if_neg h1).symm.trans z
        by_cases h2 : b ∈ ts
        · have z' := (if_pos h2).symm.trans z1
          cases z'; exact tabs b h2 _
        · have z' := (if_neg h2).symm.trans z1
          cases z'
    · by_cases h1 : b = a
      · exact .inl h1
      · by_cases h2 : b ∈ ts
        · exact .inr h2
        · exact absurd ((if_neg h1).trans (if_neg h2)) z
end
theorem walk_ofX {l : PySem.W.OpenLaw} {n k : Nat} {q : Program} {loose : List Str} {XP : (Str → Option Value) → Heap → Prop} {YP : World → Heap → Prop} {d : DefRec} {K : Params → PySem.W.Frag} {CX : World → CXT} {sp : World → Sp} {x : Str} {pres : List Str}
    (hn : l.most = some n) (hn2 : n ≤ sizeLine) (hdf : d.params.defaults = []) (hr : Room k callerA) (nK : ∀ p, PySem.W.noTabs (K p) = true) (hrec : ∀ x ∈ pres, (((recsOf q).find? fun e => e.name == x).isSome) = true)
    (hY : ∀ (w : World) (h : Heap), YP w h → (K w.params).In h)
    (F : ∀ (w : World) (mg : Str → Option Value) (fa : Addr) (h : Heap), (K w.params).In h → h.Ns mainGlobals mg → mg d.name = some (.ref fa) →
      ∃ fd : FuncData, (∀ (s : Shared) (u : Value), BindsTo s fd ⟨[u], []⟩ [(x, u)]) ∧ (∀ x ∈ gdefs, x ∈ pres ∨ PySem.W.tabIn (K w.params) x = none) ∧
        ∀ base : Heap, (K w.params).In base → base.Ns mainGlobals mg → (∀ p ∈ tabsOf (K w.params) pres, GxR.TabB base mg p.1 p.2) → FnOk l.prog w (K w.params) mg base (CX w) k fa fd [x] (sp w))
    (hsp : ∀ (w : World) (H : Hp) (a : Addr) (ns : List Int) (ts : List Addr), ns.length ≤ n → (∀ z ∈ ns, Builtin.Int.intBits z ≤ 1048576) → Begin (K w.params) ts a ns H → (∀ b, GenTab (K w.params) b → b ∈ ts) → (∀ b ∈ ts, ∃ c x, PySem.W.tabIn (K w.params) x = some (c, b) ∧ x ∈ pres) →
      sp w [.ref a] H (fun v H' => v = .bl true ∧ ∀ b ∈ ts, H' b = some (.ext (G0.tabOk b))) fun _ _ _ => False)
    (hCX : ∀ (w : World) (H : Hp) (s : Shared) (e : Value) (s' : Shared), CX w [] H s (fun _ _ _ => False) e s' → False) :
    PySem.W.WalkO q loose XP YP l.row.toRowW d [] (fun f vs => PySem.call f vs) := by
  refine Att.attach_callB hn hdf fun w s₀ s1 mg mb fa o pm cd doc a vs ns G Y ho hd hcd hmg hobj hints hlen hbits hg => ?_
  have KX := hY w _ Y
  obtain ⟨fd, hb, hpr, hF⟩ := F w mg fa _ KX G.T.g hmg
  have hT : ∀ p ∈ tabsOf (K w.params) pres, PySem.W.CodeHd s1.heap p.1 p.2 ∧ s1.heap.get? p.2 = some (PySem.W.tabObj #[]) := fun p hp => by
    obtain ⟨x, hx, e⟩ := List.mem_filterMap.mp hp
    obtain ⟨d', hd'⟩ := Option.isSome_iff_exists.mp (hrec x hx)
    exact PySem.W.tab_of G.T KX hd' e
  refine law_run KX (nK _) G.T.g G.T.b G.T.builtins G.T.nolimit hg hT G.T.bmain hobj hints (Nat.le_trans hlen hn2) hr hF hb (fun H B => hsp w H a ns _ hlen hbits B (fun b hb => ?_) fun b hb => ?_) fun H e s' => hCX w H s1 e s'
  · obtain ⟨x, hx, c, e⟩ := hb
    rcases hpr x hx with z | z
    · exact List.mem_map.mpr ⟨(c, b), List.mem_filterMap.mpr ⟨x, z, e⟩, rfl⟩
    · rw [z] at e; cases e
  · obtain ⟨p, hp, e⟩ := List.mem_map.mp hb
    obtain ⟨x, hx, e2⟩ := List.mem_filterMap.mp hp
    exact ⟨p.1, x, by rw [e2, ← e], hx⟩
end Mi

noncomputable section
namespace Mi
open PySem PySem.Spec PyProof.Rows L2

/-! ### all, any of a generator expression -/
def genL (st : Bool) (J : MIt) (g : MG) (elt : M) (env : Env) : Nat → Nat → Sto → R PV
  | 0, _, _ => .bad
  | n + 1, i, s => match J i s with
    | none => .ok (.bl (!st)) s
    | some v => ((g v env s).noex).bind fun env1 s1 => ((elt env1 s1).noex).bind fun y s2 => match y with
      | .bl b => bif b == st then .ok (.bl st) s2 else genL st J g elt env n (i + 1) s2
      | _ => .bad
def mGen (st : Bool) (N : Nat) (mi : MI) (vs : List Nat) (g : MG) (elt : M) : M := fun env s => (mi env s).bind fun J s1 => genL st J g elt (wipeE env vs) N 0 s1
section
variable {mi : MI} {g : MG} {me : M} {sl : List Nat}
theorem gen_ok {K : PySem.W.Frag} {W : WK} {P : Addr} {vs : List Nat} {wi : TI} {gt : TG} {te : TE} (st : Bool) (N : Nat) (hi : SI K W wi mi) (hg : SG K WF gt g sl) (he : SE K WF te me) (hs : ∀ j ∈ sl, j ∈ vs) (hP : GenTab K P) : SE K W (G0.tGenP P st wi gt te vs) (mGen st N mi vs g me) := by
  intro σ H ρ env sto Q hE hS hP'
  refine hi σ H ρ env sto _ hE hS ((hP'.bind hS).imp fun J s1 H1 ρ1 x1 S1 P1 Jh hJ => ?_)
  refine ⟨(S1.tb P hP).1, fun i n H => ∃ ρ s, Ext ρ1 H1 ρ H ∧ RSt K H ρ s ∧ Post K (fun c d h => W c d σ h) H ρ (GV K Q) (genL st J g me (wipeE env vs) n i s), ⟨N, ρ1, s1, .refl, S1, P1⟩, ?_⟩
  rintro i n H2 ⟨ρ2, s2, x2, S2, P2⟩
  cases n with
  | zero => exact P2.elim
  | succ n =>
    have hj := hJ i H2 ρ2 s2 x2.toExtW S2
    unfold genL at P2
    cases e : J i s2 with
    | none =>
      rw [e] at hj P2
      exact .inl ⟨hj, P2 H2 ρ2 .refl S2 _ rfl⟩
    | some v =>
      rw [e] at hj P2
      refine .inr ⟨hj.1, fun H => ∃ ρ s, Ext ρ1 H1 ρ H ∧ RSt K H ρ s ∧ Post K (fun c d h => W c d σ h) H ρ (GV K Q) (genL st J g me (wipeE env vs) n (i + 1) s), fun H' h => ⟨n, Nat.lt_succ_self n, h⟩, fun x H' hy => ?_⟩
      obtain ⟨y1, y2, y3⟩ := hj.2 x H' hy
      have E2 : REnv K H' ρ2 (wipeE env vs) (wipe σ vs) := (wipeE_ok hE vs).mono ((x1.toExtW.trans x2.toExtW).trans y1.toExtW)
      refine hg v x (wipe σ vs) H' ρ2 (wipeE env vs) s2 _ E2 y2 y3 (Post.unex (((Post.shift y1 S2.hh P2).bind y2).imp fun env3 s3 H3 ρ3 x3 S3 P3 σ3 E3 O3 => ⟨wipe_only O3 hs, ?_⟩))
      refine he σ3 H3 ρ3 env3 s3 _ E3 S3 (Post.unex ((P3.bind S3).imp fun y s4 H4 ρ4 x4 S4 P4 z hz => ?_))
      cases y with
      | bl b =>
        cases hz
        refine ⟨b, rfl, ?_⟩
        have P4 : Post K (fun c d h => W c d σ h) H4 ρ4 (GV K Q) (bif b == st then .ok (.bl st) s4 else genL st J g me (wipeE env vs) n (i + 1) s4) := P4
        cases hb : (b == st) with
        | true => rw [hb] at P4; exact P4 H4 ρ4 .refl S4 _ rfl
        | false => rw [hb] at P4; exact ⟨ρ4, s4, ((x2.trans y1 S1.hh).trans x3 S1.hh).trans x4 S1.hh, S4, P4⟩
      | _ => exact P4.elim
end
/-- a def that holds a generator expression -/
structure GD (K : PySem.W.Frag) (mg : Str → Option Value) (base : Heap) (fd : FuncData) where
  c : Addr
  P : Addr
  code : fd.code = .ref c
  tb : GxR.TabB base mg c P
  isT : GenTab K P
/-- in every run of the generator's body -/
abbrev InGen (X : Cx) (k : Nat) (scope : Scope) (Pr : Cx → Prop) : Prop := ∀ (A' : Around) (s : Shared) (H : Hp) (C : Addr) (code : Value) (fp : List Addr), Room k A' → Pr (G0.gX X A' s H (G0.gEnv X scope C code) fp)
section
variable {X : Cx} {W : WK} {elt tg iter : Expr} {scope : Scope} {own : List (Str × Nat)} {p pos gpos : Pos} {mi : MI} {g : MG} {me : M} {sl : List Nat} {k : Nat} {fd : FuncData}
theorem gsc_of (ok : BlkOk X.N X.env.scope scope own) (co : scope.isCoroutine = false) (cell : (scope.names.all fun y => match y.2 with | .cell => false | _ => true) = true) (dot : scope.names.lookup (".0" : Str) = some NameKind.local) : G0.GSc X scope own :=
  ⟨ok, co, fun y hy e => (by
    have q := List.all_eq_true.mp cell y hy
    rw [e] at q; cases q), dot⟩
theorem e_allG (N : Nat) (vs : List Nat) (hr : Room (k + 1) X.A) (hgl : Gl X "all") (hm : X.mg "all" = none) (D : GD X.K X.mg X.base fd) (hcode : X.env.code = fd.code) (S : G0.GSc X scope own) (hN : X.N.Nodup) (hs : ∀ j ∈ sl, j ∈ vs) (hi : MIr X W tg iter mi)
    (hg : InGen X k scope fun Y => MGt Y WF tg g sl) (he : InGen X k scope fun Y => ME Y WF elt me) (hv : own.map (·.2) = vs := by rfl)
    (hf : ∀ v, genFold iter X.env v = pure v := by intro _; rfl)
    (hst : starEach [.GeneratorExp elt [⟨tg, iter, [], 0⟩] scope gpos] X.env = (false, eval (.GeneratorExp elt [⟨tg, iter, [], 0⟩] scope gpos) X.env) :: starEach [] X.env := by rfl) :
    ME X W (.Call (.Name "all" p) [.GeneratorExp elt [⟨tg, iter, [], 0⟩] scope gpos] [] pos) (mGen false N mi vs g me) := by
  subst hv
  obtain ⟨t, q, s⟩ := hi
  exact ⟨_, G0.pe_allG (g := cG X.K g sl) (te := cE X.K WF me) hr hgl hm (by decide +kernel) D.tb (hcode.trans D.code) S hN q (fun A s H C code fp r => (hg A s H C code fp r).can) (fun A s H C code fp r => (he A s H C code fp r).can) hf hst, gen_ok false N s sg_can se_can hs D.isT⟩
theorem e_anyG (N : Nat) (vs : List Nat) (hr : Room (k + 1) X.A) (hgl : Gl X "any") (hm : X.mg "any" = none) (D : GD X.K X.mg X.base fd) (hcode : X.env.code = fd.code) (S : G0.GSc X scope own) (hN : X.N.Nodup) (hs : ∀ j ∈ sl, j ∈ vs) (hi : MIr X W tg iter mi)
    (hg : InGen X k scope fun Y => MGt Y WF tg g sl) (he : InGen X k scope fun Y => ME Y WF elt me) (hv : own.map (·.2) = vs := by rfl)
    (hf : ∀ v, genFold iter X.env v = pure v := by intro _; rfl)
    (hst : starEach [.GeneratorExp elt [⟨tg, iter, [], 0⟩] scope gpos] X.env = (false, eval (.GeneratorExp elt [⟨tg, iter, [], 0⟩] scope gpos) X.env) :: starEach [] X.env := by rfl) :
    ME X W (.Call (.Name "any" p) [.GeneratorExp elt [⟨tg, iter, [], 0⟩] scope gpos] [] pos) (mGen true N mi vs g me) := by
  subst hv
  obtain ⟨t, q, s⟩ := hi
  exact ⟨_, G0.pe_anyG (g := cG X.K g sl) (te := cE X.K WF me) hr hgl hm (by decide +kernel) D.tb (hcode.trans D.code) S hN q (fun A s H C code fp r => (hg A s H C code fp r).can) (fun A s H C code fp r => (he A s H C code fp r).can) hf hst, gen_ok true N s sg_can se_can hs D.isT⟩
end
section
variable {P : Program} {w : World} {K : PySem.W.Frag} {mg : Str → Option Value} {base : Heap} {k : Nat} {f : Addr} {fd : FuncData} {ps N : List Str} {x qual : Str} {st : Stmt}
/-- fn_ok, the code object told -/
theorem fn_okC {body : MS} (m : Nat) (F : Fun K x qual st f fd) (S : FnScope N ps (defScope st)) (hm : N.length - ps.length = m)
    (hb : ∀ (cdv : Value) (A : Around) (outer : List PySem.Env) (s : Shared) (H : Hp) (E : XK), cdv = fd.code → Room k (A.deeper (envOfC qual (defScope st) s.heap.objs.size f cdv)) →
      MSs (cxOf (L2.CX P w) P w K mg base N qual (defScope st) f cdv A outer s H E) (fun cls d _ H => E cls d H) (defBody st) body) :
    FOk P w K mg base (k + 1) f fd ps (runB m body) := by
  obtain ⟨oc, od, kV, doc, pm, an, cdv, ct, osl, rfl, lk, hcd⟩ := F.ex
  refine fn_of lk hcd S (fun _ _ _ _ h => h.1) fun A outer s H vs Q E hr h => ?_
  obtain ⟨hl, args, ρ, sto, r, St, P⟩ := h
  obtain ⟨t, p, z⟩ := hb cdv A outer s H E rfl hr
  refine ⟨t, p, z _ (L2.start N vs) H ρ (start' m args) sto (start_ok r (by rw [hl]; exact hm)) St ?_⟩
  unfold runB at P
  cases q : body (start' m args) sto with
  | nx env s => rw [q] at P; exact fun σ' H' ρ' x S' _ => P H' ρ' x S' _ rfl
  | rt v s => rw [q] at P; exact fun y H' ρ' x S' hy => P H' ρ' x S' y hy
  | bk env s => rw [q] at P; exact P.elim
  | ct env s => rw [q] at P; exact P.elim
  | ex e env s => rw [q] at P; exact fun cls d σ' H' ρ' x S' _ hx => P cls d H' ρ' x S' hx
  | bad => rw [q] at P; exact P.elim
end

/-! ### defs as values -/
section
variable {X : Cx} {W : WK} {k i t : Nat} {f : Addr} {fd : FuncData} {ps : List Str} {run : GC} {x y : Str} {e : Expr} {es : List Expr} {ms : MA} {p pos : Pos}
/-- the def's name, handed on -/
theorem e_fn (hg : Gl X x) (hm : X.mg x = some (.ref f)) (hh : hofs[t]? = some x) (hn : PySem.W.nsIn X.K mainGlobals x = some (some (.ref f))) (hd : (x == ("__debug__" : Str)) = false := by decide) : ME X W (.Name x pos) (mC (.fn t)) :=
  ⟨_, pe_glob (v := .ref f) hg hm rfl hd, fun _ H ρ _ _ _ _ hS hP => hP H ρ .refl hS _ ⟨x, f, hh, hn, rfl⟩⟩
/-- a local that holds the t-th of them is called -/
def mCallL (i t : Nat) (run : GC) (ms : MA) : M := fun env s => match env[i]? with
  | some (some (.fn n)) => bif Nat.beq n t then (ms env s).bind run else .bad
  | _ => .bad
theorem e_callL (F : FOk X.prog X.w X.K X.mg X.base k f fd ps run) (hr : Room k X.A) (tk : Takes X W) (hh : hofs[t]? = some y) (hn : PySem.W.nsIn X.K mainGlobals y = some (some (.ref f))) (hk : PySem.W.keepIn X.K (.ref f) = true) (hb : Binds X.K fd ps [])
    (hN : X.N[i]? = some x) (hv : Vis X.env.scope x) (ha : MEs X W (e :: es) ms) {n : Nat} (hl : ps.length = n := by rfl)
    (hdb : (x == ("__debug__" : Str)) = false := by decide) (hcd : (x == ("__classdict__" : Str)) = false := by decide) (he : starEach (e :: es) X.env = (false, eval e X.env) :: starEach es X.env := by rfl) (hpl : (backTo pos (starEach es X.env)).any (·.1) = false := by rfl) :
    ME X W (.Call (.Name x p) (e :: es) [] pos) (mCallL i t (ar n run) ms) := by
  subst hl
  obtain ⟨tt, q, s⟩ := ha
  refine ⟨fun σ H Q => σ[i]? = some (some (.ref f)) ∧ tt σ H fun vs H1 => spF X.K ps.length run vs H1 Q (WE W σ), ⟨fun pins s σ H Q I h => ?_⟩, fun σ H ρ env sto Q hE hS hP => ?_⟩
  · obtain ⟨hs, ht⟩ := h
    refine wpAny_Call_Name_kw (thn ((pe_var (pos := p) hN hv hdb hcd).run pins s σ H (fun v H1 => v = .ref f ∧ H1 = H) I ⟨.ref f, hs, rfl, rfl⟩) fun u s1 ⟨v, H1, I1, r1, q1⟩ => ?_)
    obtain ⟨rfl, rfl⟩ := q1
    cases r1
    refine PySem.W.callWith_K (h₀ := X.base) I.ok.mod.kin hk (thn (q.run pos pins s1 σ _ _ I1 ht) fun us s2 ⟨vs, H2, I2, r, q2⟩ => ⟨I2.kIn, ?_⟩) he hpl
    exact run_fnS (E := WE W) F hr hb (passAt tk σ) I2 r q2
  · unfold mCallL at hP
    split at hP
    · rename_i n e1
      obtain ⟨hq, hP2⟩ := and_of (C := Post X.K (fun c d h => W c d σ h) H ρ (GV X.K Q)) hP (fun z => z)
      have hq : _ = t := Nat.eq_of_beq_eq_true hq
      subst hq
      obtain ⟨v, h1, x', f', h2, h3, rfl⟩ := hE.2 i _ e1
      rw [hh] at h2; cases h2
      rw [hn] at h3; cases h3
      refine ⟨h1, s σ H ρ env sto _ hE hS ((hP2.bind hS).imp fun v s1 H1 ρ1 x1 S1 P1 ys hys => ?_)⟩
      unfold ar at P1
      cases q : Nat.beq v.length ps.length with
      | false => rw [q] at P1; exact P1.elim
      | true =>
        rw [q] at P1
        exact ⟨by rw [← hys.length]; exact Nat.eq_of_beq_eq_true q, v, ρ1, s1, hys, S1, P1⟩
    · exact hP.elim
end

/-! ### constants of the module -/
/-- x holds the constant c -/
def Cst (K : PySem.W.Frag) (mg : Str → Option Value) (x : Str) (c : PV) : Prop := ∃ u v, mg x = some u ∧ RelV v u ∧ ∀ H ρ, RV K H ρ c v
theorem e_cst {X : Cx} {W : WK} {x : Str} {c : PV} {pos : Pos} (hg : Gl X x) (hc : Cst X.K X.mg x c) (hd : (x == ("__debug__" : Str)) = false := by decide) : ME X W (.Name x pos) (mC c) := by
  obtain ⟨u, v, hm, r, h⟩ := hc
  exact ⟨_, pe_glob (v := v) hg hm r hd, fun _ H ρ _ _ _ _ hS hP => hP H ρ .refl hS _ (h H ρ)⟩
/-- a written value -/
def CsV (K : PySem.W.Frag) (c : PV) (u : Value) : Prop := ∃ v, RelV v u ∧ ∀ H ρ, RV K H ρ c v
def CsVs (K : PySem.W.Frag) (cs : List PV) (us : List Value) : Prop := ∃ vs, Vals vs us ∧ ∀ H ρ, RVs K H ρ cs vs
section
variable {K : PySem.W.Frag} {mg : Str → Option Value} {x : Str} {c : PV} {cs : List PV} {u : Value} {us : List Value}
theorem cst_of {h : Heap} (X : K.In h) (G : h.Ns mainGlobals mg) (e : PySem.W.nsIn K mainGlobals x = some (some u)) (hc : CsV K c u) : Cst K mg x c := let ⟨v, r, q⟩ := hc; ⟨u, v, PySem.W.mg_of X G e, r, q⟩
theorem cv_int {i : Int} {t : Tok} : CsV K (.int i) (.int i t) := ⟨.int i, ⟨t, rfl⟩, fun _ _ => rfl⟩
theorem cv_str {i : Str} {t : Tok} : CsV K (.str i) (.str i t) := ⟨.str i, ⟨t, rfl⟩, fun _ _ => rfl⟩
theorem cv_bl {i : Bool} : CsV K (.bl i) (.bool i) := ⟨.bl i, rfl, fun _ _ => rfl⟩
theorem cv_non : CsV K .non .none := ⟨.non, rfl, fun _ _ => rfl⟩
theorem cv_nil : CsVs K [] [] := ⟨[], .nil, fun _ _ => rfl⟩
theorem cv_cons (h : CsV K c u) (t : CsVs K cs us) : CsVs K (c :: cs) (u :: us) := let ⟨v, r, q⟩ := h; let ⟨vs, rs, qs⟩ := t; ⟨v :: vs, .cons r rs, fun H ρ => .cons (q H ρ) (qs H ρ)⟩
theorem cv_tup {a : Addr} {d : Option Addr} {n : Nat} {sl : Array (Option Value)} {its : Array Value} (e : K.lookup a = some ⟨.type "tuple", d, .seq its n, sl⟩) (h : CsVs K cs its.toList) (hl : Nat.ble its.size sizeLine = true) : CsV K (.tup cs) (.ref a) :=
  let ⟨vs, rs, qs⟩ := h; ⟨.ref a, rfl, fun H ρ => ⟨a, vs, rfl, .inr (.inr ⟨_, its, n, e, rfl, rfl, Nat.le_of_ble_eq_true hl, rs⟩), qs H ρ⟩⟩
end
end Mi

/-! zip of any two, each a list or a tuple (true: a tuple) -/
namespace G1
open PySem PySem.Spec PyProof.Rows L2 RZ
def IsQ : Bool → Heap → Addr → Array Value → Prop
  | true, h, a, xs => h.IsTuple a xs
  | false, h, a, xs => h.IsList a xs
def IsQI : Bool → Heap → Addr → Addr → Nat → Prop
  | true, h, a, l, i => h.IsTupleIter a l i
  | false, h, a, l, i => h.IsListIter a l i
def itC : Bool → String
  | true => "tuple_iterator"
  | false => "list_iterator"
theorem IsQ.up {t : Bool} {h h' : Heap} {a : Addr} {xs : Array Value} (x : IsQ t h a xs) (e : ∀ o, h.get? a = some o → h'.get? a = some o) : IsQ t h' a xs := match t, x with
  | true, x => Heap.IsTuple.at x e
  | false, x => Heap.IsList.at x e
theorem IsQI.up {t : Bool} {h h' : Heap} {a l : Addr} {i : Nat} (x : IsQI t h a l i) (e : ∀ o, h.get? a = some o → h'.get? a = some o) : IsQI t h' a l i := match t, x with
  | true, x => Heap.IsTupleIter.at x e
  | false, x => Heap.IsListIter.at x e
theorem IsQI.hd {t : Bool} {h : Heap} {a l : Addr} {i : Nat} (x : IsQI t h a l i) : ∃ o f, h.get? a = some o ∧ o.data = .fields f := match t, x with
  | true, ⟨o, e, _, d⟩ => ⟨o, _, e, d⟩
  | false, ⟨o, e, _, d⟩ => ⟨o, _, e, d⟩
section
variable {prog : Program} {w : World} {A : Around} {E : Value → Shared → Prop} {s : Shared}
theorem nx_item {t : Bool} {j m : Addr} {i : Nat} {xs : Array Value} {x : Value} {Q : Value → Shared → Prop} (a1 : IsQI t s.heap j m i) (a2 : IsQ t s.heap m xs) (a3 : xs[i]? = some x)
    (q : ∀ h', IsQI t h' j m (i + 1) → Heap.SameBut j s.heap h' → Q x { s with heap := h' }) : wpAny (model prog w) A (Builtin.SmallTypes.nextOf (.ref j)) Q E s := match t, a1, a2, q with
  | true, a1, a2, q => nextOf_tuple_item a1 a2 a3 q
  | false, a1, a2, q => wpAny_nextOf_list_item a1 a2 a3 q
theorem nx_end {t : Bool} {j m : Addr} {i : Nat} {xs : Array Value} {Q : Value → Shared → Prop} (hh : A.handled = none) (a1 : IsQI t s.heap j m i) (a2 : IsQ t s.heap m xs) (a3 : xs[i]? = none)
    (q : ∀ h' e, Heap.ExtBut j s.heap h' → (∃ o, h'.get? e = some o ∧ o.cls = .type "StopIteration") → E (.ref e) { s with heap := h' }) : wpAny (model prog w) A (Builtin.SmallTypes.nextOf (.ref j)) Q E s := match t, a1, a2 with
  | true, a1, a2 => nextOf_tuple_end hh a1 a2 a3 q
  | false, a1, a2 => wpAny_nextOf_list_end hh a1 a2 a3 q
variable {z TI TO i1 i2 l1 l2 : Addr} {k1 k2 : Nat} {xs ys : Array Value} {t1 t2 : Bool}
/-- what a step may touch -/
abbrev Off (z TO i1 i2 : Addr) (h h' : Heap) : Prop := ∀ c o, c ≠ z ∧ c ≠ TO ∧ c ≠ i1 ∧ c ≠ i2 → h.get? c = some o → h'.get? c = some o
/-- zip's own step -/
theorem zq_item {x y a b : Value} {Q : Value → Shared → Prop} (D : ZipApart z TI TO i1 i2 l1 l2) (b0 : IsZip s.heap z TI TO .none) (b1 : IsPair s.heap TI (.ref i1) (.ref i2)) (b2 : IsPair s.heap TO a b)
    (b3 : IsQI t1 s.heap i1 l1 k1) (b4 : IsQI t2 s.heap i2 l2 k2) (b5 : IsQ t1 s.heap l1 xs) (b6 : IsQ t2 s.heap l2 ys) (b7 : xs[k1]? = some x) (b8 : ys[k2]? = some y)
    (q : ∀ h', IsZip h' z TI TO (rawInt s.heap.objs.size) → IsPair h' TO x y → IsQI t1 h' i1 l1 (k1 + 1) → IsQI t2 h' i2 l2 (k2 + 1) → IsPair h' s.heap.objs.size x y → Off z TO i1 i2 s.heap h' → Q (.ref s.heap.objs.size) { s with heap := h' }) :
    wpAny (model prog w) A (Builtin.«zip.__next__» ⟨[.ref z], []⟩) (fun fin s' => ∃ v, fin = .done (.ret v) ∧ Q v s') E s := by
  show wpAny (model prog w) A (field (.ref z) 2 >>= _) _ E s
  refine wpAny_bind (wpAny_field b0 rfl (x := .bool false) rfl (show wpAny (model prog w) A (field (.ref z) 3 >>= _) _ E s from ?_))
  refine wpAny_bind (wpAny_field b0 rfl (x := .ref TI) rfl (wpAny_bind (wpAny_seqItems b1 rfl ?_)))
  show wpAny (model prog w) A (Builtin.SmallTypes.ownedTupleIsFree (.ref z) >>= _) _ E s
  refine wpAny_bind (show wpAny (model prog w) A (Builtin.SmallTypes.ownedTupleIsFree (.ref z)) _ E s from ?_)
  unfold Builtin.SmallTypes.ownedTupleIsFree
  refine wpAny_bind (wpAny_field b0 rfl (x := .none) rfl (wpAny_pure (show wpAny (model prog w) A (if true = true then _ else _) _ E s from ?_)))
  rw [if_pos rfl]
  refine wpAny_bind (wpAny_rule (wpAny_bind (wpAny_field b0 rfl (x := .ref TO) rfl (wpAny_bind (wpAny_setField_rec b0 (by simp) fun g1 c0 e1 => ?_)))))
  replace c0 : IsZip g1 z TI TO .ellipsis := c0
  have n1 : ∀ {c o}, c ≠ z → s.heap.get? c = some o → g1.get? c = some o := fun {c o} n e => e1.extBut c o n e
  simp only [List.zipIdx_cons, List.zipIdx_nil, List.forIn_cons, List.forIn_nil]
  refine wpAny_bind (wpAny_bind (wpAny_bind (wpAny_onRaise (show wpAny (model prog w) _ (Builtin.SmallTypes.nextOf (.ref i1) >>= _) _ _ _ from wpAny_bind (nx_item (b3.up fun o => n1 D.i1z) (b5.up fun o => n1 D.l1z) b7 fun g2 c1 e2 => wpAny_pure ?_)))))
  have n2 : ∀ {c o}, c ≠ i1 → g1.get? c = some o → g2.get? c = some o := fun {c o} n e => e2.extBut c o n e
  have p2 : IsPair g2 TO a b := n2 D.TOi1 (n1 D.TOz b2)
  refine wpAny_bind (wpAny_seqItems p2 rfl (wpAny_bind (wpAny_updateSeq_pair p2 fun g3 p3 e3 => ?_)))
  replace p3 : IsPair g3 TO x b := p3
  have n3 : ∀ {c o}, c ≠ TO → g2.get? c = some o → g3.get? c = some o := fun {c o} n e => e3.extBut c o n e
  refine wpAny_bind (wpAny_letGo (wpAny_pure (wpAny_bind (wpAny_bind (wpAny_onRaise (show wpAny (model prog w) _ (Builtin.SmallTypes.nextOf (.ref i2) >>= _) _ _ _ from ?_))))))
  refine wpAny_bind (nx_item (b4.up fun o e => n3 D.TOi2.symm (n2 D.i12.symm (n1 D.i2z e))) (b6.up fun o e => n3 D.l2TO (n2 D.l2i1 (n1 D.l2z e))) b8 fun g4 c2 e4 => wpAny_pure ?_)
  have n4 : ∀ {c o}, c ≠ i2 → g3.get? c = some o → g4.get? c = some o := fun {c o} n e => e4.extBut c o n e
  have p4 : IsPair g4 TO x b := n4 D.TOi2 p3
  refine wpAny_bind (wpAny_seqItems p4 rfl (wpAny_bind (wpAny_updateSeq_pair p4 fun g5 p5 e5 => ?_)))
  replace p5 : IsPair g5 TO x y := p5
  have n5 : ∀ {c o}, c ≠ TO → g4.get? c = some o → g5.get? c = some o := fun {c o} n e => e5.extBut c o n e
  refine wpAny_bind (wpAny_letGo (wpAny_pure (wpAny_pure (wpAny_bind (wpAny_seqItems p5 rfl (wpAny_bind (wpAny_newTuple ?_)))))))
  have sz : g5.objs.size = s.heap.objs.size := by rw [e5.1, e4.1, e3.1, e2.1, e1.1]
  have c5 : IsZip g5 z TI TO .ellipsis := n5 D.TOz.symm (n4 D.i2z.symm (n3 D.TOz.symm (n2 D.i1z.symm c0)))
  have ix : IsQI t1 g5 i1 l1 (k1 + 1) := c1.up fun o e => n5 D.TOi1.symm (n4 D.i12 (n3 D.TOi1.symm e))
  have iy : IsQI t2 g5 i2 l2 (k2 + 1) := c2.up fun o e => n5 D.TOi2.symm e
  have zlt : z < g5.objs.size := Heap.lt_size c5
  show wpAny (model prog w) A (Builtin.SmallTypes.ownedTupleHandOut (.ref z) (.ref g5.objs.size) >>= _) _ E _
  refine wpAny_bind (show wpAny (model prog w) A (Builtin.SmallTypes.ownedTupleHandOut (.ref z) (.ref g5.objs.size)) _ E _ from ?_)
  unfold Builtin.SmallTypes.ownedTupleHandOut
  have c6 : IsZip (g5.push { cls := .type "tuple", data := .seq #[x, y] }) z TI TO .ellipsis := Heap.get?_push_of_some _ c5
  refine wpAny_bind (wpAny_setField_rec c6 (by simp) fun g7 c7 e7 => ?_)
  replace c7 : IsZip g7 z TI TO (rawInt g5.objs.size) := c7
  refine wpAny_setField_rec c7 (by simp) fun g8 c8 e8 => ?_
  replace c8 : IsZip g8 z TI TO (rawInt g5.objs.size) := c8
  have nw : ∀ {c o}, c ≠ z → (g5.push { cls := .type "tuple", data := .seq #[x, y] }).get? c = some o → g8.get? c = some o := fun {c o} n e => e8.extBut c o n (e7.extBut c o n e)
  have T8 : IsPair g8 g5.objs.size x y := nw (Nat.ne_of_gt zlt) (Heap.get?_push_size _ rfl)
  rw [sz] at c8 T8
  refine wpAny_pure ⟨_, rfl, ?_⟩
  show Q (.ref g5.objs.size) _
  rw [sz]
  exact q g8 c8 (nw D.TOz (Heap.get?_push_of_some _ p5)) (ix.up fun o e => nw D.i1z (Heap.get?_push_of_some _ e)) (iy.up fun o e => nw D.i2z (Heap.get?_push_of_some _ e)) T8 fun c o n e =>
    nw n.1 (Heap.get?_push_of_some _ (n5 n.2.1 (n4 n.2.2.2 (n3 n.2.1 (n2 n.2.2.1 (n1 n.1 e))))))
/-- zip's step behind the last pair -/
theorem zq_end {a b : Value} {Q : Fin → Shared → Prop} (hh : A.handled = none) (D : ZipApart z TI TO i1 i2 l1 l2) (b0 : IsZip s.heap z TI TO .none) (b1 : IsPair s.heap TI (.ref i1) (.ref i2)) (b2 : IsPair s.heap TO a b)
    (b3 : IsQI t1 s.heap i1 l1 k1) (b4 : IsQI t2 s.heap i2 l2 k2) (b5 : IsQ t1 s.heap l1 xs) (b6 : IsQ t2 s.heap l2 ys) (b7 : xs[k1]? = none ∨ ys[k2]? = none)
    (q : ∀ h' e, Off z TO i1 i2 s.heap h' → (∃ o, h'.get? e = some o ∧ o.cls = .type "StopIteration") → E (.ref e) { s with heap := h' }) :
    wpAny (model prog w) A (Builtin.«zip.__next__» ⟨[.ref z], []⟩) Q E s := by
  show wpAny (model prog w) A (field (.ref z) 2 >>= _) Q E s
  refine wpAny_bind (wpAny_field b0 rfl (x := .bool false) rfl (show wpAny (model prog w) A (field (.ref z) 3 >>= _) Q E s from ?_))
  refine wpAny_bind (wpAny_field b0 rfl (x := .ref TI) rfl (wpAny_bind (wpAny_seqItems b1 rfl ?_)))
  show wpAny (model prog w) A (Builtin.SmallTypes.ownedTupleIsFree (.ref z) >>= _) Q E s
  refine wpAny_bind (show wpAny (model prog w) A (Builtin.SmallTypes.ownedTupleIsFree (.ref z)) _ E s from ?_)
  unfold Builtin.SmallTypes.ownedTupleIsFree
  refine wpAny_bind (wpAny_field b0 rfl (x := .none) rfl (wpAny_pure (show wpAny (model prog w) A (if true = true then _ else _) Q E s from ?_)))
  rw [if_pos rfl]
  refine wpAny_bind (wpAny_rule (wpAny_bind (wpAny_field b0 rfl (x := .ref TO) rfl (wpAny_bind (wpAny_setField_rec b0 (by simp) fun g1 c0 e1 => ?_)))))
  replace c0 : IsZip g1 z TI TO .ellipsis := c0
  have n1 : ∀ {c o}, c ≠ z → s.heap.get? c = some o → g1.get? c = some o := fun {c o} n e => e1.extBut c o n e
  have other : ∀ {g : Heap} {e : Addr}, IsZip g z TI TO .ellipsis → (∃ o, g.get? e = some o ∧ o.cls = .type "StopIteration") → e ≠ z := fun {g e} c ⟨o, ho, hc⟩ n => by
    rw [n, c] at ho; cases ho; simp at hc
  simp only [List.zipIdx_cons, List.zipIdx_nil, List.forIn_cons, List.forIn_nil]
  refine wpAny_bind (wpAny_bind (wpAny_bind (wpAny_onRaise (show wpAny (model prog w) _ (Builtin.SmallTypes.nextOf (.ref i1) >>= _) _ _ _ from ?_))))
  cases hx : xs[k1]? with
  | none =>
    refine wpAny_bind (nx_end hh (b3.up fun o => n1 D.i1z) (b5.up fun o => n1 D.l1z) hx fun g2 e e2 he => ?_)
    have c2 : IsZip g2 z TI TO .ellipsis := e2 z _ D.i1z.symm c0
    have ne := other c2 he
    obtain ⟨o, ho, hc⟩ := he
    exact wpAny_setField_rec c2 (by simp) fun g3 _ e3 => q g3 e (fun c o n u => e3.extBut c o n.1 (e2 c o n.2.2.1 (n1 n.1 u))) ⟨o, e3.extBut e o ne ho, hc⟩
  | some x =>
    have hy : ys[k2]? = none := b7.resolve_left fun u => by rw [hx] at u; cases u
    refine wpAny_bind (nx_item (b3.up fun o => n1 D.i1z) (b5.up fun o => n1 D.l1z) hx fun g2 c1 e2 => wpAny_pure ?_)
    have n2 : ∀ {c o}, c ≠ i1 → g1.get? c = some o → g2.get? c = some o := fun {c o} n e => e2.extBut c o n e
    have p2 : IsPair g2 TO a b := n2 D.TOi1 (n1 D.TOz b2)
    refine wpAny_bind (wpAny_seqItems p2 rfl (wpAny_bind (wpAny_updateSeq_pair p2 fun g3 p3 e3 => ?_)))
    have n3 : ∀ {c o}, c ≠ TO → g2.get? c = some o → g3.get? c = some o := fun {c o} n e => e3.extBut c o n e
    refine wpAny_bind (wpAny_letGo (wpAny_pure (wpAny_bind (wpAny_bind (wpAny_onRaise (show wpAny (model prog w) _ (Builtin.SmallTypes.nextOf (.ref i2) >>= _) _ _ _ from ?_))))))
    refine wpAny_bind (nx_end hh (b4.up fun o e => n3 D.TOi2.symm (n2 D.i12.symm (n1 D.i2z e))) (b6.up fun o e => n3 D.l2TO (n2 D.l2i1 (n1 D.l2z e))) hy fun g4 e e4 he => ?_)
    have c4 : IsZip g4 z TI TO .ellipsis := e4 z _ D.i2z.symm (n3 D.TOz.symm (n2 D.i1z.symm c0))
    have ne := other c4 he
    obtain ⟨o, ho, hc⟩ := he
    exact wpAny_setField_rec c4 (by simp) fun g5 _ e5 => q g5 e (fun c o n u => e5.extBut c o n.1 (e4 c o n.2.2.2 (n3 n.2.1 (n2 n.2.2.1 (n1 n.1 u))))) ⟨o, e5.extBut e o ne ho, hc⟩
theorem pyNextQ {x y a b : Value} {Q : Option Value → Shared → Prop} (D : ZipApart z TI TO i1 i2 l1 l2) (b0 : IsZip s.heap z TI TO .none) (b1 : IsPair s.heap TI (.ref i1) (.ref i2)) (b2 : IsPair s.heap TO a b)
    (b3 : IsQI t1 s.heap i1 l1 k1) (b4 : IsQI t2 s.heap i2 l2 k2) (b5 : IsQ t1 s.heap l1 xs) (b6 : IsQ t2 s.heap l2 ys) (b7 : xs[k1]? = some x) (b8 : ys[k2]? = some y)
    (q : ∀ h', IsZip h' z TI TO (rawInt s.heap.objs.size) → IsPair h' TO x y → IsQI t1 h' i1 l1 (k1 + 1) → IsQI t2 h' i2 l2 (k2 + 1) → IsPair h' s.heap.objs.size x y → Off z TO i1 i2 s.heap h' → Q (some (.ref s.heap.objs.size)) { s with heap := h' }) :
    wpAny (model prog w) A (pyNext (.ref z)) Q E s := by
  have ht : s.TypeIs (.ref z) "zip" := ⟨_, b0, rfl⟩
  unfold pyNext
  refine wpAny_bind (wpAny_attempt (wpAny_callSpecial?_slot (name := Str.ofString "__next__") ht F.slot_zip_next (wpAny_call_entry F.slot_zip_next ht F.entry_zip_next (zq_item D b0 b1 b2 b3 b4 b5 b6 b7 b8 ?_) (F.args_zip_next_1 _))))
  exact fun h' u1 u2 u3 u4 u5 u6 => wpAny_pure (q h' u1 u2 u3 u4 u5 u6)
theorem pyEndQ {a b : Value} {Q : Option Value → Shared → Prop} (hh : A.handled = none) (D : ZipApart z TI TO i1 i2 l1 l2) (b0 : IsZip s.heap z TI TO .none) (b1 : IsPair s.heap TI (.ref i1) (.ref i2)) (b2 : IsPair s.heap TO a b)
    (b3 : IsQI t1 s.heap i1 l1 k1) (b4 : IsQI t2 s.heap i2 l2 k2) (b5 : IsQ t1 s.heap l1 xs) (b6 : IsQ t2 s.heap l2 ys) (b7 : xs[k1]? = none ∨ ys[k2]? = none) (q : ∀ h', Off z TO i1 i2 s.heap h' → Q none { s with heap := h' }) :
    wpAny (model prog w) A (pyNext (.ref z)) Q E s := by
  have ht : s.TypeIs (.ref z) "zip" := ⟨_, b0, rfl⟩
  unfold pyNext
  refine wpAny_bind (wpAny_attempt (wpAny_callSpecial?_slot (name := Str.ofString "__next__") ht F.slot_zip_next (wpAny_call_entry F.slot_zip_next ht F.entry_zip_next (zq_end hh D b0 b1 b2 b3 b4 b5 b6 b7 ?_) (F.args_zip_next_1 _))))
  exact fun h' e hk ⟨o, ho, hc⟩ => wpAny_bind (wpAny_isInstance (T := "StopIteration") (b := true) ⟨o, ho, hc⟩ isSubtype_stop (wpAny_pure (q h' hk)))
end
abbrev f1 (t : Bool) (h : Heap) (a : Addr) : Heap := h.push { cls := .type (itC t), data := .fields #[.ref a, .int 0 0] }
abbrev f3 (t1 t2 : Bool) (h : Heap) (a b : Addr) : Heap := (f1 t2 (f1 t1 h a) b).push { cls := .type "tuple", data := .seq #[.ref h.objs.size, .ref (f1 t1 h a).objs.size] }
abbrev f4 (t1 t2 : Bool) (h : Heap) (a b : Addr) : Heap := (f3 t1 t2 h a b).push { cls := .type "tuple", data := .seq #[.none, .none] }
abbrev f5 (t1 t2 : Bool) (h : Heap) (a b : Addr) : Heap := (f4 t1 t2 h a b).push { cls := .type "zip", data := .fields #[.none, .bool false, .bool false, .ref (f1 t2 (f1 t1 h a) b).objs.size, .ref (f3 t1 t2 h a b).objs.size] }
theorem meetsTL (a b : Addr) (xs ys : Array Value) : Meets (Builtin.«zip.__new__» ⟨[.type "zip", .ref a, .ref b], []⟩) (fun _ R s => s.heap.IsTuple a xs ∧ s.heap.IsList b ys ∧ R (.ok (.ret (.ref (f4 true false s.heap a b).objs.size))) { s with heap := f5 true false s.heap a b }) :=
  .of_wp fun prog w A R s h => by
    obtain ⟨hp, g, d, tk, os⟩ := s; obtain ⟨h1, h2, h⟩ := h
    have hsub := sub_zip
    have q1 : Heap.IsTuple (Shared.heap ⟨hp, g, d, tk, os⟩) a xs := h1
    have q2 : Heap.IsList (Shared.heap ⟨hp.push { cls := .type "tuple_iterator", data := .fields #[.ref a, .int 0 0] }, g, d, tk, os⟩) b ys := Heap.IsList.push h2 _
    wp_walk using wpAny_pyIter_tuple q1, wpAny_pyIter_list q2
    exact ⟨_, rfl, h⟩
theorem meetsLT (a b : Addr) (xs ys : Array Value) : Meets (Builtin.«zip.__new__» ⟨[.type "zip", .ref a, .ref b], []⟩) (fun _ R s => s.heap.IsList a xs ∧ s.heap.IsTuple b ys ∧ R (.ok (.ret (.ref (f4 false true s.heap a b).objs.size))) { s with heap := f5 false true s.heap a b }) :=
  .of_wp fun prog w A R s h => by
    obtain ⟨hp, g, d, tk, os⟩ := s; obtain ⟨h1, h2, h⟩ := h
    have hsub := sub_zip
    have q1 : Heap.IsList (Shared.heap ⟨hp, g, d, tk, os⟩) a xs := h1
    have q2 : Heap.IsTuple (Shared.heap ⟨hp.push { cls := .type "list_iterator", data := .fields #[.ref a, .int 0 0] }, g, d, tk, os⟩) b ys := Heap.IsTuple.push h2 _
    wp_walk using wpAny_pyIter_list q1, wpAny_pyIter_tuple q2
    exact ⟨_, rfl, h⟩
theorem new_it (t : Bool) {h : Heap} {a l : Addr} (e : h.get? a = some { cls := .type (itC t), data := .fields #[.ref l, .int 0 0] }) : IsQI t h a l 0 := match t, e with
  | true, e => ⟨_, e, rfl, rfl⟩
  | false, e => ⟨_, e, rfl, rfl⟩
section
variable {prog : Program} {w : World} {A : Around} {E : Value → Shared → Prop} {s : Shared}
theorem made {t1 t2 : Bool} {a b : Addr} {Q : Value → Shared → Prop}
    (q : ∀ h' n, n = s.heap.objs.size → IsZip h' (n + 4) (n + 2) (n + 3) .none → IsPair h' (n + 2) (.ref n) (.ref (n + 1)) → IsPair h' (n + 3) .none .none → IsQI t1 h' n a 0 → IsQI t2 h' (n + 1) b 0 → (∀ c o, s.heap.get? c = some o → h'.get? c = some o) → Q (.ref (n + 4)) { s with heap := h' }) :
    Q (.ref (f4 t1 t2 s.heap a b).objs.size) { s with heap := f5 t1 t2 s.heap a b } := by
  have z1 : (f1 t1 s.heap a).objs.size = s.heap.objs.size + 1 := Heap.size_push ..
  have z2 : (f1 t2 (f1 t1 s.heap a) b).objs.size = s.heap.objs.size + 2 := by rw [Heap.size_push, z1]
  have z3 : (f3 t1 t2 s.heap a b).objs.size = s.heap.objs.size + 3 := by rw [Heap.size_push, z2]
  have z4 : (f4 t1 t2 s.heap a b).objs.size = s.heap.objs.size + 4 := by rw [Heap.size_push, z3]
  have u5 : (f5 t1 t2 s.heap a b).get? (f4 t1 t2 s.heap a b).objs.size = some _ := Heap.get?_push_size _ rfl
  have u4 : (f5 t1 t2 s.heap a b).get? (f3 t1 t2 s.heap a b).objs.size = some _ := Heap.get?_push_of_some _ (Heap.get?_push_size _ rfl)
  have u3 : (f5 t1 t2 s.heap a b).get? (f1 t2 (f1 t1 s.heap a) b).objs.size = some _ := Heap.get?_push_of_some _ (Heap.get?_push_of_some _ (Heap.get?_push_size _ rfl))
  have u2 : (f5 t1 t2 s.heap a b).get? (f1 t1 s.heap a).objs.size = some _ := Heap.get?_push_of_some _ (Heap.get?_push_of_some _ (Heap.get?_push_of_some _ (Heap.get?_push_size _ rfl)))
  have u1 : (f5 t1 t2 s.heap a b).get? s.heap.objs.size = some _ := Heap.get?_push_of_some _ (Heap.get?_push_of_some _ (Heap.get?_push_of_some _ (Heap.get?_push_of_some _ (Heap.get?_push_size _ rfl))))
  rw [z2, z3, z4] at u5
  rw [z1, z2] at u3
  rw [z3] at u4
  rw [z1] at u2
  rw [z4]
  exact q _ _ rfl u5 u3 u4 (new_it t1 u1) (new_it t2 u2) fun c o x => Heap.get?_push_of_some _ (Heap.get?_push_of_some _ (Heap.get?_push_of_some _ (Heap.get?_push_of_some _ (Heap.get?_push_of_some _ x))))
theorem callQ {t1 t2 : Bool} (mixed : t1 = !t2) {a b : Addr} {xs ys : Array Value} {Q : Value → Shared → Prop} (h1 : IsQ t1 s.heap a xs) (h2 : IsQ t2 s.heap b ys)
    (q : ∀ h' n, n = s.heap.objs.size → IsZip h' (n + 4) (n + 2) (n + 3) .none → IsPair h' (n + 2) (.ref n) (.ref (n + 1)) → IsPair h' (n + 3) .none .none → IsQI t1 h' n a 0 → IsQI t2 h' (n + 1) b 0 → (∀ c o, s.heap.get? c = some o → h'.get? c = some o) → Q (.ref (n + 4)) { s with heap := h' }) :
    wpAny (model prog w) A (call (.type "zip") [.ref a, .ref b]) Q E s := by
  have m := made (s := s) (Q := Q) q
  cases t2 with
  | false =>
    subst mixed
    refine callType_new F.called_zip (by decide) (F.typeCall_zip_2 _ _) (F.newCall_zip_2 _ _) (fun obj => F.args_object_init_3 obj _ _) F.entry_zip_new (meetsTL a b xs ys) ⟨h1, h2, ?_⟩
    have e : (f5 true false s.heap a b).get? (f4 true false s.heap a b).objs.size = some _ := Heap.get?_push_size _ rfl
    exact ⟨⟨_, e, rfl⟩, m⟩
  | true =>
    subst mixed
    refine callType_new F.called_zip (by decide) (F.typeCall_zip_2 _ _) (F.newCall_zip_2 _ _) (fun obj => F.args_object_init_3 obj _ _) F.entry_zip_new (meetsLT a b xs ys) ⟨h1, h2, ?_⟩
    have e : (f5 false true s.heap a b).get? (f4 false true s.heap a b).objs.size = some _ := Heap.get?_push_size _ rfl
    exact ⟨⟨_, e, rfl⟩, m⟩
end
/-! the loop over it -/
def SqQ (K : PySem.W.Frag) (t : Bool) (H : Hp) (a : Addr) (xs : List V) : Prop := match t with
  | true => SqT K H a xs
  | false => SqL K H a xs
theorem inv_sq {X : Cx} {pins : List (Addr × Obj)} {σ : L2.St} {H : Hp} {s : Shared} {t : Bool} {a : Addr} {xs : List V} (I : Inv X pins σ H s) (h : SqQ X.K t H a xs) : ∃ its : List Value, Vals xs its ∧ IsQ t s.heap a its.toArray ∧ a < s.heap.objs.size := by
  cases t with
  | true =>
    obtain ⟨its, rv, p, _⟩ := I.tuple h
    have p' : s.heap.IsTuple a its.toArray := p
    obtain ⟨o, ho, _⟩ := id p'
    exact ⟨its, rv, p', Heap.lt_size ho⟩
  | false =>
    obtain ⟨its, rv, p, _⟩ := I.list h
    exact ⟨its, rv, p.isList, p.lt⟩
theorem inv_inj {X : Cx} {pins : List (Addr × Obj)} {σ : L2.St} {H : Hp} {s : Shared} {t : Bool} {a : Addr} {xs ys : List V} (I : Inv X pins σ H s) (h : SqQ X.K t H a xs) (h' : SqQ X.K t H a ys) : xs = ys := match t, h, h' with
  | true, h, h' => I.tuple_inj h h'
  | false, h, h' => I.list_inj h h'
/-- both as they stand at each turn, their items in new pairs -/
def ItzQ (K : PySem.W.Frag) (t1 t2 : Bool) (a b : Addr) : It :=
  ⟨fun i H => ∃ (xs ys : List V) (x y : V), (SqQ K t1 H a xs ∧ xs[i]? = some x) ∧ SqQ K t2 H b ys ∧ ys[i]? = some y,
    fun i H v H' => ∃ T x y, (v = .ref T ∧ H T = none ∧ H' = upd H T (.tup [x, y])) ∧ (∀ xs, SqQ K t1 H a xs → xs[i]? = some x) ∧ ∀ ys, SqQ K t2 H b ys → ys[i]? = some y,
    fun i H => ∃ xs ys : List V, (SqQ K t1 H a xs ∧ SqQ K t2 H b ys) ∧ (xs.length ≤ i ∨ ys.length ≤ i)⟩
abbrev ZSt (t1 t2 : Bool) (a b z TI TO i1 i2 : Addr) (i : Nat) (h : Heap) : Prop := (IsZip h z TI TO .none ∧ IsPair h TI (.ref i1) (.ref i2) ∧ ∃ x y, IsPair h TO x y) ∧ IsQI t1 h i1 a i ∧ IsQI t2 h i2 b i
theorem five {c z TI TO i1 i2 : Addr} (h : c ∈ [z, TI, TO, i1, i2]) : c = z ∨ c = TI ∨ c = TO ∨ c = i1 ∨ c = i2 := by simpa using h
theorem turnQ {P : Program} {w : World} {K : PySem.W.Frag} {elts : List Expr} {kk : Nat} {tpos : Pos} {t1 t2 : Bool} {a b z TI TO i1 i2 : Addr} (D : ZipApart z TI TO i1 i2 a b) :
    Turn P w K (.Tuple elts kk tpos) (ItzQ K t1 t2 a b) [z, TI, TO, i1, i2] z (ZSt t1 t2 a b z TI TO i1 i2) where
  mem := .head _
  obj := fun i h ⟨⟨b0, b1, x, y, b2⟩, b3, b4⟩ c hc => by
    rcases five hc with rfl | rfl | rfl | rfl | rfl
    · exact ⟨_, b0, fun _ e => nomatch e⟩
    · exact ⟨_, b1, fun _ e => nomatch e⟩
    · exact ⟨_, b2, fun _ e => nomatch e⟩
    · obtain ⟨o, f, e, d⟩ := b3.hd; exact ⟨o, e, fun v q => by rw [d] at q; cases q⟩
    · obtain ⟨o, f, e, d⟩ := b4.hd; exact ⟨o, e, fun v q => by rw [d] at q; cases q⟩
  keep := fun i h h' ⟨⟨b0, b1, x, y, b2⟩, b3, b4⟩ k => ⟨⟨k z (by simp) _ b0, k TI (by simp) _ b1, x, y, k TO (by simp) _ b2⟩, b3.up fun o e => k i1 (by simp) o e, b4.up fun o e => k i2 (by simp) o e⟩
  item := by
    rintro X rfl rfl rfl hc i pins s σ H E I hf ⟨⟨b0, b1, x0, y0, b2⟩, b3, b4⟩ ⟨xs, ys, x, y, ⟨hqx, hx⟩, hqy, hy⟩
    obtain ⟨us, ru, pu, _⟩ := inv_sq I hqx
    obtain ⟨vs, rv, pv, _⟩ := inv_sq I hqy
    obtain ⟨u, hu, wu⟩ := ru.get hx
    obtain ⟨v, hv, wv⟩ := rv.get hy
    have zl : z < s.heap.objs.size := Heap.lt_size b0
    refine pyNextQ D b0 b1 b2 b3 b4 pu pv (x := u) (y := v) (by simpa using hu) (by simpa using hv) fun g c0 c2 c3 c4 cT off => ⟨_, rfl, wpAny_letOwnedTupleGo_zip (s := { s with heap := g }) c0 fun g' d0 sb => ?_⟩
    have up : ∀ {c o}, c ≠ z → g.get? c = some o → g'.get? c = some o := fun {c o} n e => (sb.2 c n).trans e
    have new : ObjOk X.prog X.w (upd H s.heap.objs.size (.tup [x, y])) g' s.heap.objs.size (.tup [x, y]) := ⟨(show 2 ≤ sizeLine by decide), [u, v], .cons wu (.cons wv .nil), ⟨_, up (Nat.ne_of_gt zl) cT, rfl, _, rfl⟩⟩
    have kept : ∀ c o, c ∉ [z, TI, TO, i1, i2] → s.heap.get? c = some o → g'.get? c = some o := fun c o n e => by
      have n' : c ≠ z ∧ c ≠ TO ∧ c ≠ i1 ∧ c ≠ i2 := ⟨fun q => n (by simp [q]), fun q => n (by simp [q]), fun q => n (by simp [q]), fun q => n (by simp [q])⟩
      exact up n'.1 (off c o n' e)
    have J : Inv X pins σ (upd H s.heap.objs.size (.tup [x, y])) { s with heap := g' } := I.turnedNew (t' := s.toks) (ch := [z, TI, TO, i1, i2]) kept hf (Nat.le_refl _) new
    refine ⟨.ref s.heap.objs.size, _, J, rfl, ⟨_, x, y, ⟨rfl, I.hok.fresh (Nat.le_refl _), rfl⟩, fun l hl => inv_inj I hl hqx ▸ hx, fun l hl => inv_inj I hl hqy ▸ hy⟩, ⟨⟨d0, up D.TIz (off _ _ ⟨D.TIz, D.TITO, D.TIi1, D.TIi2⟩ b1), u, v, up D.TOz c2⟩, c3.up fun o e => up D.i1z e, c4.up fun o e => up D.i2z e⟩, fun c hcm => ?_⟩
    have lt : c < s.heap.objs.size := by
      rcases five hcm with rfl | rfl | rfl | rfl | rfl
      · exact zl
      · exact Heap.lt_size b1
      · exact Heap.lt_size b2
      · obtain ⟨o, f, e, _⟩ := b3.hd; exact Heap.lt_size e
      · obtain ⟨o, f, e, _⟩ := b4.hd; exact Heap.lt_size e
    rw [upd_ne (Nat.ne_of_lt lt)]
    exact (hf c hcm).1
  done := by
    rintro X rfl rfl rfl hc i pins s σ H E I hf ⟨⟨b0, b1, x0, y0, b2⟩, b3, b4⟩ ⟨xs, ys, ⟨hqx, hqy⟩, hend⟩
    obtain ⟨us, ru, pu, _⟩ := inv_sq I hqx
    obtain ⟨vs, rv, pv, _⟩ := inv_sq I hqy
    have e1 := ru.length
    have e2 := rv.length
    refine pyEndQ (I.ok.hd hc) D b0 b1 b2 b3 b4 pu pv (hend.imp (fun q => by simp; omega) fun q => by simp; omega) fun g off => ⟨rfl, I.turnedL (t' := s.toks) (ch := [z, TI, TO, i1, i2]) (fun c o n e => off c o ?_ e) hf⟩
    exact ⟨fun q => n (by simp [q]), fun q => n (by simp [q]), fun q => n (by simp [q]), fun q => n (by simp [q])⟩
  self := fun A i s Q E st h => wpAny_pyIter_zip st.1.1 h
end G1

noncomputable section
namespace Mi
open PySem PySem.Spec PyProof.Rows L2

/-! ### dicts with keys that are ints and texts -/
section
variable {κ : Type} [DecidableEq κ]
def valP : List (κ × PV) → κ → Option PV
  | [], _ => none
  | p :: r, k => bif decide (p.1 = k) then some p.2 else valP r k
def setP : List (κ × PV) → κ → PV → List (κ × PV)
  | [], _, _ => []
  | p :: r, k, v => bif decide (p.1 = k) then (p.1, v) :: setP r k v else p :: setP r k v
def putP (kvs : List (κ × PV)) (k : κ) (v : PV) : List (κ × PV) := match valP kvs k with
  | some _ => setP kvs k v
  | none => kvs ++ [(k, v)]
def dropP : List (κ × PV) → κ → List (κ × PV)
  | [], _ => []
  | p :: r, k => bif decide (p.1 = k) then dropP r k else p :: dropP r k
/-- one and the same table -/
def RKs (K : PySem.W.Frag) (H : Hp) (ρ : Rh) (kvs : List (κ × PV)) (yvs : List (κ × V)) : Prop := kvs.map (·.1) = yvs.map (·.1) ∧ RVs K H ρ (kvs.map (·.2)) (yvs.map (·.2))
variable {K : PySem.W.Frag} {H H1 : Hp} {ρ ρ1 : Rh}
theorem RKs.mono {kvs : List (κ × PV)} {yvs : List (κ × V)} (e : ExtW ρ H ρ1 H1) (r : RKs K H ρ kvs yvs) : RKs K H1 ρ1 kvs yvs := ⟨r.1, r.2.mono e⟩
theorem RKs.nil : RKs K H ρ ([] : List (κ × PV)) [] := ⟨rfl, rfl⟩
theorem RKs.length {kvs : List (κ × PV)} {yvs : List (κ × V)} (r : RKs K H ρ kvs yvs) : kvs.length = yvs.length := by
  have := congrArg List.length r.1
  simpa using this
theorem RKs.un {p : κ × PV} {kvs : List (κ × PV)} {yvs : List (κ × V)} (r : RKs K H ρ (p :: kvs) yvs) : ∃ y yr, yvs = (p.1, y) :: yr ∧ RV K H ρ p.2 y ∧ RKs K H ρ kvs yr := by
  cases yvs with
  | nil => cases r.1
  | cons q yr =>
    obtain ⟨h1, h2⟩ := r
    simp only [List.map_cons, List.cons.injEq] at h1
    obtain ⟨v, ws, e, h3, h4⟩ := h2
    simp only [List.map_cons, List.cons.injEq] at e
    exact ⟨q.2, yr, by rw [h1.1], e.1 ▸ h3, h1.2, e.2 ▸ h4⟩
theorem RKs.cons {p : κ × PV} {y : V} {kvs : List (κ × PV)} {yvs : List (κ × V)} (h : RV K H ρ p.2 y) (r : RKs K H ρ kvs yvs) : RKs K H ρ (p :: kvs) ((p.1, y) :: yvs) :=
  ⟨by simp [r.1], .cons h r.2⟩
theorem RKs.val (k : κ) : ∀ {kvs : List (κ × PV)} {yvs : List (κ × V)}, RKs K H ρ kvs yvs → match valP kvs k with
    | some x => ∃ y, valV yvs k = some y ∧ RV K H ρ x y
    | none => valV yvs k = none
  | [], yvs, r => by
    cases yvs with
    | nil => rfl
    | cons _ _ => cases r.1
  | p :: kvs, yvs, r => by
    obtain ⟨y, yr, rfl, h, t⟩ := r.un
    unfold valP
    by_cases e : p.1 = k
    · rw [decide_eq_true e]
      exact ⟨y, valV_pos (p := (p.1, y)) e, h⟩
    · rw [decide_eq_false e]
      have ih := RKs.val k t
      show match valP kvs k with
        | some x => _
        | none => _
      rw [valV_neg (p := (p.1, y)) e]
      exact ih
theorem RKs.set (k : κ) {x : PV} {y : V} (hx : RV K H ρ x y) : ∀ {kvs : List (κ × PV)} {yvs : List (κ × V)}, RKs K H ρ kvs yvs → RKs K H ρ (setP kvs k x) (yvs.map fun kv => if kv.1 = k then (kv.1, y) else kv)
  | [], yvs, r => by
    cases yvs with
    | nil => exact .nil
    | cons _ _ => cases r.1
  | p :: kvs, yvs, r => by
    obtain ⟨z, yr, rfl, h, t⟩ := r.un
    have ih := RKs.set k hx t
    unfold setP
    rw [List.map_cons]
    by_cases e : p.1 = k
    · rw [decide_eq_true e, if_pos e]
      exact RKs.cons (p := (p.1, x)) hx ih
    · rw [decide_eq_false e, if_neg e]
      exact RKs.cons h ih
theorem RKs.snoc {x : PV} {y : V} (hx : RV K H ρ x y) (k : κ) : ∀ {kvs : List (κ × PV)} {yvs : List (κ × V)}, RKs K H ρ kvs yvs → RKs K H ρ (kvs ++ [(k, x)]) (yvs ++ [(k, y)])
  | [], yvs, r => by
    cases yvs with
    | nil => exact RKs.cons (p := (k, x)) hx .nil
    | cons _ _ => cases r.1
  | p :: kvs, yvs, r => by
    obtain ⟨z, yr, rfl, h, t⟩ := r.un
    exact RKs.cons h (RKs.snoc hx k t)
theorem RKs.put (k : κ) {x : PV} {y : V} (hx : RV K H ρ x y) {kvs : List (κ × PV)} {yvs : List (κ × V)} (r : RKs K H ρ kvs yvs) : RKs K H ρ (putP kvs k x) (putK yvs k y) := by
  have q := r.val k
  unfold putP putK
  rw [valV_any]
  cases e : valP kvs k with
  | some z =>
    rw [e] at q
    obtain ⟨u, h1, _⟩ := q
    rw [h1]
    exact r.set k hx
  | none =>
    rw [e] at q
    have q : valV yvs k = none := q
    rw [q]
    exact r.snoc hx k
theorem RKs.drop (k : κ) : ∀ {kvs : List (κ × PV)} {yvs : List (κ × V)}, RKs K H ρ kvs yvs → RKs K H ρ (dropP kvs k) (dropK yvs k)
  | [], yvs, r => by
    cases yvs with
    | nil => exact .nil
    | cons _ _ => cases r.1
  | p :: kvs, yvs, r => by
    obtain ⟨z, yr, rfl, h, t⟩ := r.un
    have ih := RKs.drop k t
    unfold dropP dropK
    rw [List.filter_cons]
    by_cases e : p.1 = k
    · rw [decide_eq_true e]
      simp only [e, ne_eq, not_true_eq_false, decide_false]
      exact ih
    · rw [decide_eq_false e]
      simp only [e, ne_eq, not_false_eq_true, decide_true]
      exact RKs.cons h ih
end
def keyP : PV → Option Key
  | .int i => some (.inl i)
  | .str x => some (.inr x)
  | _ => none
theorem keyP_ok {K : PySem.W.Frag} {H : Hp} {ρ : Rh} : ∀ {x : PV} {v : V} {k : Key}, RV K H ρ x v → keyP x = some k → v = kV k
  | .int _, _, _, r, h => by cases r; cases h; rfl
  | .str _, _, _, r, h => by cases r; cases h; rfl
  | .non, _, _, _, h => by cases h
  | .bl _, _, _, _, h => by cases h
  | .tup _, _, _, _, h => by cases h
  | .lst _, _, _, _, h => by cases h
  | .fro _, _, _, _, h => by cases h
  | .box _, _, _, _, h => by cases h
  | .ty _, _, _, _, h => by cases h
  | .obj _, _, _, _, h => by cases h
  | .fn _, _, _, _, h => by cases h
  | .cat _ _ _ _, _, _, _, h => by cases h
  | .exc _ _ _, _, _, _, h => by cases h
  | .rg _ _, _, _, _, h => by cases h
/-- the dict that the handle holds -/
def dOf (s : Sto) : PV → Option (Nat × List (Key × PV))
  | .box n => match s[n]? with
    | some (.d kvs) => some (n, kvs)
    | _ => none
  | _ => none
theorem dOf_ok {K : PySem.W.Frag} {H : Hp} {ρ : Rh} {sto : Sto} (S : RSt K H ρ sto) {x : PV} {v : V} {n : Nat} {kvs : List (Key × PV)} (r : RV K H ρ x v) (h : dOf sto x = some (n, kvs)) :
    ∃ a yvs, x = .box n ∧ v = .ref a ∧ ρ.bx[n]? = some a ∧ H a = some (.dK yvs) ∧ RKs K H ρ kvs yvs := by
  cases x with
  | box m =>
    obtain ⟨a, rfl, ha⟩ := r
    have h : (match sto[m]? with
      | some (.d kvs) => some (m, kvs)
      | _ => none) = some (n, kvs) := h
    split at h
    · rename_i kvs' e
      cases h
      obtain ⟨yvs, h1, h2, h3⟩ := S.at_ n a _ ha e
      exact ⟨a, yvs, rfl, rfl, ha, h1, h2, h3⟩
    · cases h
  | _ => cases h
/-- .. or a locked one, to be read -/
def dOfR (s : Sto) : PV → Option (List (Key × PV))
  | .box n => match s[n]? with
    | some (.d kvs) => some kvs
    | some (.z kvs) => some kvs
    | _ => none
  | _ => none
theorem dOfR_ok {K : PySem.W.Frag} {H : Hp} {ρ : Rh} {sto : Sto} (S : RSt K H ρ sto) {x : PV} {v : V} {kvs : List (Key × PV)} (r : RV K H ρ x v) (h : dOfR sto x = some kvs) :
    ∃ a yvs, v = .ref a ∧ Rd H a (.dK yvs) ∧ RKs K H ρ kvs yvs := by
  cases x with
  | box m =>
    obtain ⟨a, rfl, ha⟩ := r
    have h : (match sto[m]? with
      | some (.d kvs) => some kvs
      | some (.z kvs) => some kvs
      | _ => none) = some kvs := h
    split at h
    · rename_i kvs' e
      cases h
      obtain ⟨yvs, h1, h2, h3⟩ := S.at_ m a _ ha e
      exact ⟨a, yvs, rfl, .inl h1, h2, h3⟩
    · rename_i kvs' e
      cases h
      obtain ⟨od, yvs, h1, h2, h3⟩ := S.at_ m a _ ha e
      exact ⟨a, yvs, rfl, .inr ⟨od, h1⟩, h2, h3⟩
    · cases h
  | _ => cases h
theorem DGet.r {H : Hp} {a : Addr} {kvs : List (Key × V)} {k : Key} (e : Rd H a (.dK kvs)) : DGet H a (kV k) (valV kvs k) := .inl ⟨kvs, k, e, rfl, rfl⟩
/-- the handle goes on to hold the same -/
theorem bx_keep {ρ ρ1 : Rh} {H H1 : Hp} (x : ExtW ρ H ρ1 H1) {n : Nat} {a : Addr} (h : ρ.bx[n]? = some a) : ρ1.bx[n]? = some a := by
  obtain ⟨r, hr, _⟩ := x.pre
  rw [hr, List.getElem?_append_left (List.getElem?_eq_some_iff.mp h).1]
  exact h
def mDNew : M := fun _ s => .ok (.box s.length) (s ++ [.d []])
def gDGet : G2 := fun o i s => match dOfR s o with
  | some kvs => match keyP i with
    | some k => match valP kvs k with
      | some v => .ok v s
      | none => .bad
    | none => .bad
  | none => .bad
/-- key first, then the dict -/
def gDIn (f : Bool → Bool) : G2 := fun i o s => match dOfR s o with
  | some kvs => match keyP i with
    | some k => .ok (.bl (f (valP kvs k).isSome)) s
    | none => .bad
  | none => .bad
def sDPut (mo mi mv : M) : MS := fun env s => (mv env s).fl env fun v s1 => (mo env s1).fl env fun o s2 => (mi env s2).fl env fun i s3 => match dOf s3 o with
  | some (n, kvs) => match keyP i with
    | some k => bif Nat.blt kvs.length sizeLine then .nx env (s3.set n (.d (putP kvs k v))) else .bad
    | none => .bad
  | none => .bad
section
variable {K : PySem.W.Frag} {H : Hp} {ρ : Rh} {sto : Sto}
theorem RSt.putD' {n : Nat} {a : Addr} {kvs : List (Key × PV)} {yvs zvs : List (Key × V)} (S : RSt K H ρ sto) (ha : ρ.bx[n]? = some a) (h : H a = some (.dK zvs)) (r : RKs K H ρ kvs yvs) : Ext ρ H ρ (upd H a (.dK yvs)) ∧ RSt K (upd H a (.dK yvs)) ρ (sto.set n (.d kvs)) :=
  S.putB ha (S.lt ha) (fun u e => by rw [h] at e; cases e; exact ⟨yvs, rfl⟩) fun H1 x e => ⟨yvs, e, r.1, r.2.mono x⟩
end
section
variable {X : Cx} {W : WK} {o i value e f : Expr} {mo mi mv : M} {pos pos' p apos cpos : Pos}
theorem e_dnew : ME X W (.Dict [] [] pos) mDNew :=
  ⟨_, pe_dnewK, fun σ H ρ env sto Q hE hS hP p hp => by
    obtain ⟨x, S⟩ := hS.newBx (b := .d []) (o := .dK []) hp fun H1 _ e => ⟨[], e, rfl, rfl⟩
    exact hP _ _ x S _ ⟨p, rfl, by rw [← hS.len]; simp⟩⟩
theorem e_dget (hu : X.A.units + 1 < cLine) (ho : ME X W o mo) (hi : ME X W i mi) (hs : NoSl i := by exact fun _ _ => rfl) : ME X W (.Subscript o i pos) (mBin gDGet mo mi) := by
  obtain ⟨t, q, s⟩ := ho
  obtain ⟨u, r, z⟩ := hi
  refine ⟨_, pe_dget hu q r hs, fun σ H ρ env sto Q hE hS hP => ?_⟩
  refine s σ H ρ env sto _ hE hS ((hP.bind hS).imp fun ov s1 H1 ρ1 x1 S1 P1 x hx => ?_)
  refine z σ H1 ρ1 env s1 _ (hE.mono x1.toExtW) S1 ((P1.bind S1).imp fun iv s2 H2 ρ2 x2 S2 P2 y hy => ?_)
  unfold gDGet at P2
  split at P2
  · rename_i kvs e1
    split at P2
    · rename_i k e2
      obtain ⟨a, yvs, rfl, h1, h2⟩ := dOfR_ok S2 (hx.mono x2.toExtW) e1
      obtain rfl := keyP_ok hy e2
      have hv := h2.val k
      split at P2
      · rename_i v e3
        rw [e3] at hv
        obtain ⟨w, hw, rw'⟩ := hv
        exact ⟨a, w, rfl, hw ▸ DGet.r h1, now S2 P2 rw'⟩
      · exact P2.elim
    · exact P2.elim
  · exact P2.elim
theorem se_din (f : Bool → Bool) {tk td : TE} (s : SE X.K W tk mi) (z : SE X.K W td mo) : SE X.K W (fun σ H Q => tk σ H fun y H1 => td σ H1 fun x H2 => ∃ a o, x = .ref a ∧ DGet H2 a y o ∧ Q (.bl (f o.isSome)) H2) (mBin (gDIn f) mi mo) := by
  intro σ H ρ env sto Q hE hS hP
  refine s σ H ρ env sto _ hE hS ((hP.bind hS).imp fun iv s1 H1 ρ1 x1 S1 P1 y hy => ?_)
  refine z σ H1 ρ1 env s1 _ (hE.mono x1.toExtW) S1 ((P1.bind S1).imp fun ov s2 H2 ρ2 x2 S2 P2 x hx => ?_)
  unfold gDIn at P2
  split at P2
  · rename_i kvs e1
    split at P2
    · rename_i k e2
      obtain ⟨a, yvs, rfl, h1, h2⟩ := dOfR_ok S2 hx e1
      obtain rfl := keyP_ok (hy.mono x2.toExtW) e2
      refine ⟨a, valV yvs k, rfl, DGet.r h1, ?_⟩
      have hv := h2.val k
      cases e3 : valP kvs k with
      | some v =>
        rw [e3] at hv P2
        obtain ⟨w, hw, _⟩ := hv
        rw [hw]
        exact now S2 P2 rfl
      | none =>
        rw [e3] at hv P2
        have hv : valV yvs k = none := hv
        rw [hv]
        exact now S2 P2 rfl
    · exact P2.elim
  · exact P2.elim
theorem e_din (hu : X.A.units + 1 < cLine) (hi : ME X W i mi) (ho : ME X W o mo) (hm : behindInMarks CmpOp.In o = false := by rfl) : ME X W (.Compare i [.In] [o] pos) (mBin (gDIn id) mi mo) := by
  obtain ⟨t, q, s⟩ := hi
  obtain ⟨u, r, z⟩ := ho
  exact ⟨_, pe_cmp (pc_din hu q r) hm, se_din id s z⟩
theorem e_dnotin (hu : X.A.units + 1 < cLine) (hi : ME X W i mi) (ho : ME X W o mo) (hm : behindInMarks CmpOp.NotIn o = false := by rfl) : ME X W (.Compare i [.NotIn] [o] pos) (mBin (gDIn not) mi mo) := by
  obtain ⟨t, q, s⟩ := hi
  obtain ⟨u, r, z⟩ := ho
  exact ⟨_, pe_cmp (pc_dnotin hu q r) hm, se_din not s z⟩
theorem t_din (hu : X.A.units + 1 < cLine) (hi : ME X W i mi) (ho : ME X W o mo) (hm : behindInMarks CmpOp.In o = false := by rfl) : MTe X W (.Compare i [.In] [o] pos) (mT (mBin (gDIn id) mi mo)) := by
  obtain ⟨t, q, s⟩ := hi
  obtain ⟨u, r, z⟩ := ho
  exact ⟨_, pt_cmp (pc_din hu q r) hm, st_test (se_din id s z)⟩
theorem t_dnotin (hu : X.A.units + 1 < cLine) (hi : ME X W i mi) (ho : ME X W o mo) (hm : behindInMarks CmpOp.NotIn o = false := by rfl) : MTe X W (.Compare i [.NotIn] [o] pos) (mT (mBin (gDIn not) mi mo)) := by
  obtain ⟨t, q, s⟩ := hi
  obtain ⟨u, r, z⟩ := ho
  exact ⟨_, pt_cmp (pc_dnotin hu q r) hm, st_test (se_din not s z)⟩
/-- d[k] = v -/
theorem s_dput (hu : X.A.units + 1 < cLine) (ho : ME X W o mo) (hi : ME X W i mi) (hv : ME X W value mv) (hs : swapsWith value (some (.Subscript o i pos')) pos.line X.env = pure false := by rfl) : MSt X W (.Assign [.Subscript o i pos'] value pos) (sDPut mo mi mv) := by
  obtain ⟨t, q, s⟩ := ho
  obtain ⟨u, r, z⟩ := hi
  obtain ⟨tv, qv, sv⟩ := hv
  refine ⟨_, ps_dput hu q r qv hs, fun D σ H ρ env sto h1 h2 h3 => ?_⟩
  refine sv σ H ρ env sto _ h1 h2 ((FPost.bind h1 h2 h3).imp fun v s1 H1 ρ1 x1 S1 P1 y hy => ?_)
  have E1 := h1.mono x1.toExtW
  refine s σ H1 ρ1 env s1 _ E1 S1 ((FPost.bind E1 S1 P1).imp fun ov s2 H2 ρ2 x2 S2 P2 x hx => ?_)
  have E2 := E1.mono x2.toExtW
  refine z σ H2 ρ2 env s2 _ E2 S2 ((FPost.bind E2 S2 P2).imp fun iv s3 H3 ρ3 x3 S3 P3 w hw => ?_)
  have E3 := E2.mono x3.toExtW
  split at P3
  · rename_i n kvs e1
    split at P3
    · rename_i k e2
      obtain ⟨hz, P3⟩ := and_of (C := FPost X.K W D H3 ρ3) P3 (fun z => z)
      obtain ⟨a, yvs, _, rfl, ha, k1, k2⟩ := dOf_ok S3 (hx.mono x3.toExtW) e1
      obtain rfl := keyP_ok hw e2
      have hz : kvs.length < sizeLine := Nat.le_of_ble_eq_true hz
      obtain ⟨x4, S4⟩ := S3.putD' ha k1 (k2.put k ((hy.mono x2.toExtW).mono x3.toExtW))
      exact ⟨a, _, rfl, DPut.k k1 (by rw [← k2.length]; exact hz), P3 σ _ ρ3 x4 S4 (E3.mono x4.toExtW)⟩
    · exact P3.elim
  · exact P3.elim
/-- d.setdefault(k, x) -/
def mSetd (mo mi mv : M) : M := fun env s => (mo env s).bind fun o s1 => match dOf s1 o with
  | some _ => (mi env s1).bind fun i s2 => (mv env s2).bind fun v s3 => match dOf s3 o with
    | some (n, kvs) => match keyP i with
      | some k => match valP kvs k with
        | some w => bif Nat.blt kvs.length sizeLine then .ok w s3 else .bad
        | none => bif Nat.blt kvs.length sizeLine then .ok v (s3.set n (.d (putP kvs k v))) else .bad
      | none => .bad
    | none => .bad
  | none => .bad
theorem e_setd (ho : ME X W o mo) (hi : ME X W e mi) (hv : ME X W f mv) (m : M2 X o "setdefault" apos e f cpos := by exact ⟨rfl, rfl, rfl, rfl⟩) : ME X W (.Call (.Attribute o "setdefault" apos) [e, f] [] cpos) (mSetd mo mi mv) := by
  obtain ⟨t, q, s⟩ := ho
  obtain ⟨u, r, z⟩ := hi
  obtain ⟨tv, qv, sv⟩ := hv
  refine ⟨_, pe_dsetd q r qv m, fun σ H ρ env sto Q hE hS hP => ?_⟩
  refine s σ H ρ env sto _ hE hS ((hP.bind hS).imp fun ov s1 H1 ρ1 x1 S1 P1 x hx => ?_)
  have E1 := hE.mono x1.toExtW
  split at P1
  · rename_i pr e0
    obtain ⟨a, yvs0, hb, rfl, _, k10, _⟩ := dOf_ok S1 hx (n := pr.1) (kvs := pr.2) e0
    refine ⟨a, rfl, .inl ⟨_, .of k10⟩, z σ H1 ρ1 env s1 _ E1 S1 ((P1.bind S1).imp fun iv s2 H2 ρ2 x2 S2 P2 y hy => ?_)⟩
    have E2 := E1.mono x2.toExtW
    refine sv σ H2 ρ2 env s2 _ E2 S2 ((P2.bind S2).imp fun v s3 H3 ρ3 x3 S3 P3 w hw => ?_)
    split at P3
    · rename_i n kvs e1
      split at P3
      · rename_i k e2
        obtain ⟨a', yvs, _, ea, ha, k1, k2⟩ := dOf_ok S3 ((hx.mono x2.toExtW).mono x3.toExtW) e1
        cases ea
        obtain rfl := keyP_ok (hy.mono x3.toExtW) e2
        have hvk := k2.val k
        split at P3
        · rename_i w' e3
          obtain ⟨hz, P3⟩ := and_of (C := Post X.K (fun c d h => W c d σ h) H3 ρ3 (GV X.K Q)) P3 (fun z => z)
          have hz : kvs.length < sizeLine := Nat.le_of_ble_eq_true hz
          rw [e3] at hvk
          obtain ⟨u', hu', ru'⟩ := hvk
          exact ⟨yvs, k, k1, rfl, by rw [← k2.length]; exact hz, ⟨fun v' hv' => (by rw [hu'] at hv'; cases hv'; exact now S3 P3 ru'), fun hn => (by rw [hu'] at hn; cases hn)⟩⟩
        · rename_i e3
          obtain ⟨hz, P3⟩ := and_of (C := Post X.K (fun c d h => W c d σ h) H3 ρ3 (GV X.K Q)) P3 (fun z => z)
          have hz : kvs.length < sizeLine := Nat.le_of_ble_eq_true hz
          rw [e3] at hvk
          have hvk : valV yvs k = none := hvk
          obtain ⟨x4, S4⟩ := S3.putD' ha k1 (k2.put k hw)
          exact ⟨yvs, k, k1, rfl, by rw [← k2.length]; exact hz, ⟨fun v' hv' => (by rw [hvk] at hv'; cases hv'), fun _ => P3 _ ρ3 x4 S4 _ (hw.mono x4.toExtW)⟩⟩
      · exact P3.elim
    · exact P3.elim
  · exact P1.elim
end
end Mi

namespace G1
open PySem PySem.Spec PyProof.Rows L2 RZ
/-- of any two -/
def iZipQ (K : PySem.W.Frag) (ta : TA) : TI := fun σ H R => ta σ H fun vs H1 => ∃ a b xs ys, vs = [.ref a, .ref b] ∧
  ((SqL K H1 a xs ∧ SqL K H1 b ys ∧ R (Itz K a b) H1) ∨ (SqT K H1 a xs ∧ SqT K H1 b ys ∧ R (ItzT K a b) H1) ∨ ∃ t, (SqQ K (!t) H1 a xs ∧ SqQ K t H1 b ys) ∧ R (ItzQ K (!t) t a b) H1)
theorem pi_zipQ {X : Cx} {e e2 : Expr} {ta : TA} {p pos tpos : Pos} {elts : List Expr} {kk : Nat} (hg : Gl X "zip") (hm : X.mg "zip" = none) (ha : PA X [e, e2] ta)
    (hs : starEach [e, e2] X.env = (false, eval e X.env) :: starEach [e2] X.env := by rfl) (hpl : (backTo pos (starEach [e2] X.env)).any (·.1) = false := by rfl) :
    PI X (.Tuple elts kk tpos) (.Call (.Name "zip" p) [e, e2] [] pos) (iZipQ X.K ta) := by
  refine ⟨fun pins s σ H R I h => ?_⟩
  refine Call_ (ld_blt I hg hm PyProof.Rows.boot_zip ?_)
  refine PyProof.Rows.callWith_type1 (thn (ha.run pos pins s σ H _ I h) ?_) hs hpl
  intro us s1 hq
  obtain ⟨vs, H1, I1, r1, q1⟩ := hq
  obtain ⟨a, b, xs, ys, ex, q1⟩ := q1
  subst ex
  cases r1 with
  | cons ra rr =>
  cases rr with
  | cons rb rr =>
  cases rr
  cases ra
  cases rb
  have fr : ∀ n, n = s1.heap.objs.size → ∀ c, c ∈ [n + 4, n + 2, n + 3, n, n + 1] → FpOk X pins H1 c := fun n hn c hc => by
    have le : s1.heap.objs.size ≤ c := by rcases five hc with z | z | z | z | z <;> rw [z, hn] <;> first | exact Nat.le_refl _ | exact Nat.le_add_right _ _
    exact I1.fpOk le (I1.hok.fresh le)
  rcases q1 with ⟨hx, hy, q⟩ | ⟨hx, hy, q⟩ | ⟨t, ⟨hx, hy⟩, q⟩
  · obtain ⟨as, _, pa, _⟩ := I1.list hx
    obtain ⟨bs, _, pb, _⟩ := I1.list hy
    refine call_zip_2 pa.isList pb.isList fun g z0 z1 z2 z3 z4 _ hk => wpAny_pyIter_zip z0 ?_
    have J : Inv X pins σ H1 { s1 with heap := g } := I1.kept (t' := s1.toks) hk
    exact ⟨s1.heap.objs.size + 4, [s1.heap.objs.size + 4, s1.heap.objs.size + 2, s1.heap.objs.size + 3, s1.heap.objs.size, s1.heap.objs.size + 1], _, Itz X.K a b, H1, rfl, J, turn_zip (PySem.W.ktu_apart s1.heap.objs.size a b pa.lt pb.lt), ⟨z0, z1, ⟨_, _, z2⟩, z3, z4⟩, fr _ rfl, q⟩
  · obtain ⟨as, _, pa, la⟩ := inv_sq (t := true) I1 hx
    obtain ⟨bs, _, pb, lb⟩ := inv_sq (t := true) I1 hy
    refine call_zipT pa pb fun g z0 z1 z2 z3 z4 _ hk => wpAny_pyIter_zip z0 ?_
    have J : Inv X pins σ H1 { s1 with heap := g } := I1.kept (t' := s1.toks) hk
    exact ⟨s1.heap.objs.size + 4, [s1.heap.objs.size + 4, s1.heap.objs.size + 2, s1.heap.objs.size + 3, s1.heap.objs.size, s1.heap.objs.size + 1], _, ItzT X.K a b, H1, rfl, J, turn_zipT (PySem.W.ktu_apart s1.heap.objs.size a b la lb), ⟨z0, z1, ⟨_, _, z2⟩, z3, z4⟩, fr _ rfl, q⟩
  · obtain ⟨as, _, pa, la⟩ := inv_sq I1 hx
    obtain ⟨bs, _, pb, lb⟩ := inv_sq I1 hy
    refine callQ rfl pa pb fun g n hn z0 z1 z2 z3 z4 hk => wpAny_pyIter_zip z0 ?_
    have J : Inv X pins σ H1 { s1 with heap := g } := I1.kept (t' := s1.toks) hk
    have D : ZipApart (n + 4) (n + 2) (n + 3) n (n + 1) a b := hn ▸ PySem.W.ktu_apart s1.heap.objs.size a b la lb
    exact ⟨n + 4, [n + 4, n + 2, n + 3, n, n + 1], _, ItzQ X.K (!t) t a b, H1, rfl, J, turnQ D, ⟨⟨z0, z1, _, _, z2⟩, z3, z4⟩, fr n hn, q⟩
end G1

/-! t[::-1] of a tuple -/
namespace G3
open PySem PySem.Spec PyProof.Rows L2
theorem back_bounds (n : Nat) : Builtin.Slice.sliceAdjust none none (-1) (n : Int) = ((n : Int) - 1, -1) := by
  unfold Builtin.Slice.sliceAdjust
  rfl
theorem back_places (n : Nat) : Builtin.Slice.slicePlaces ((n : Int) - 1) (-1) (-1) = n := by
  unfold Builtin.Slice.slicePlaces
  have h1 : ¬ ((-1 : Int) > 0) := by omega
  simp only [h1, if_false, show (- -1 : Int) = 1 from rfl, Int.ediv_one]
  split <;> omega
theorem fm_same {α β : Type} {f g : α → Option β} : ∀ {l : List α}, (∀ x ∈ l, f x = g x) → l.filterMap f = l.filterMap g
  | [], _ => rfl
  | x :: l, h => by rw [List.filterMap_cons, List.filterMap_cons, h x List.mem_cons_self, fm_same fun y hy => h y (List.mem_cons_of_mem _ hy)]
theorem back_pick (xs : Array Value) : ((List.range xs.size).filterMap fun (k : Nat) => xs[((xs.size : Int) - 1 + (k : Int) * (-1)).toNat]?).toArray = xs.toList.reverse.toArray := by
  have q := pick_run xs.toList.reverse.toArray 0 xs.size
  rw [List.filterMap_map] at q
  have e : List.filterMap (fun (k : Nat) => xs[((xs.size : Int) - 1 + (k : Int) * (-1)).toNat]?) (List.range xs.size) = List.filterMap ((fun x => xs.toList.reverse.toArray[x]?) ∘ fun x => 0 + x) (List.range xs.size) := by
    refine fm_same fun k hk => ?_
    have hk : k < xs.size := List.mem_range.mp hk
    have e1 : ((xs.size : Int) - 1 + (k : Int) * (-1)).toNat = xs.size - 1 - k := by omega
    rw [e1]
    show xs[xs.size - 1 - k]? = xs.toList.reverse.toArray[0 + k]?
    have e2 : xs.toList.reverse.toArray[k]? = xs.toList.reverse[k]? := by simp
    rw [Nat.zero_add, e2, List.getElem?_reverse (by rw [Array.length_toList]; exact hk), Array.length_toList, Array.getElem?_toList]
  rw [e, q]
  congr 1
  rw [List.take_of_length_le (by simp)]
  rfl
section
variable {prog : Program} {w : World} {A : Around} {E : Value → Shared → Prop} {s : Shared}
theorem back_item {t sl : Addr} {items : Array Value} {u : Tok} {Q : Value → Shared → Prop} (ht : IsTup s.heap t items) (hs : s.heap.IsSliceOf sl .none .none (.int (-1) u)) (hz : items.size ≤ sizeLine)
    (q : Q (.ref s.heap.objs.size) { s with heap := s.heap.push { cls := .type "tuple", data := .seq items.toList.reverse.toArray } }) : wpAny (model prog w) A (getItem (.ref t) (.ref sl)) Q E s := by
  have fits : sizeOk (.seq items.toList.reverse.toArray) := show items.toList.reverse.toArray.size ≤ sizeLine by simpa using hz
  obtain ⟨os, f1, f2, f3⟩ := id hs
  have hTs : s.TypeIs (.ref sl) "slice" := ⟨os, f1, f2⟩
  unfold getItem
  try with_reducible refine wpAny_holding ?_
  first | refine wpAny_bind (wpAny_pure ?_) | skip
  refine wpAny_bind (wpAny_sequenceKey ht.typeIs (by decide) (wpAny_bind (wpAny_callSpecial?_slot (name := Str.ofString "__getitem__") ht.typeIs slot_tuple_getitem (wpAny_call_entry slot_tuple_getitem ht.typeIs entry_tuple_getitem ?_ (args_tuple_getitem _ _)))))
  show wpAny _ _ (Builtin.Tuple.tupleItemsOf (.ref t) >>= _) _ _ s
  refine wpAny_bind (tupleItemsOf_ ht (wpAny_bind (wpAny_typeOf hTs ?_)))
  rw [if_pos (by decide)]
  refine wpAny_bind (show wpAny (model prog w) _ (Builtin.Slice.sliceApplied (.ref sl) (pure (items.size : Int))) _ E s from ?_)
  unfold Builtin.Slice.sliceApplied Builtin.Slice.sliceFields
  refine wpAny_bind (wpAny_bind (wpAny_field f1 f3 (x := .none) rfl (wpAny_bind (wpAny_field f1 f3 (x := .none) rfl (wpAny_bind (wpAny_field f1 f3 (x := .int (-1) u) rfl (wpAny_pure (wpAny_bind (slicePart_int ?_)))))))))
  show wpAny _ _ (if ((-1 : Int) == 0) = true then _ else _) _ _ s
  rw [if_neg (by decide)]
  refine wpAny_bind (slicePart_none (wpAny_bind (slicePart_none (wpAny_bind (wpAny_pure ?_)))))
  show wpAny _ _ (match Builtin.Slice.sliceAdjust none none (-1) (items.size : Int) with | (lo, hi) => pure (lo, (-1 : Int), Builtin.Slice.slicePlaces lo hi (-1))) _ _ s
  rw [back_bounds]
  show wpAny _ _ (pure ((items.size : Int) - 1, (-1 : Int), Builtin.Slice.slicePlaces ((items.size : Int) - 1) (-1) (-1))) _ _ s
  rw [back_places]
  refine wpAny_pure ?_
  show wpAny _ _ (if ((items.size : Int) - 1 == 0 && (-1 : Int) == 1 && items.size == items.size) = true then _ else _) _ _ s
  rw [if_neg (show ¬ ((items.size : Int) - 1 == 0 && (-1 : Int) == 1 && items.size == items.size) = true by simp), back_pick]
  first
    | exact wpAny_bind (m := Builtin.Tuple.tupleExact _) (wpAny_newObj_type (wpAny_pure ⟨_, rfl, wpAny_pure q⟩) fits)
    | exact wpAny_bind (wpAny_bind (m := Builtin.Tuple.tupleExact _) (wpAny_newObj_type (wpAny_pure ⟨_, rfl, wpAny_pure q⟩) fits))
end
section
variable {X : Cx}
def tBackT (K : PySem.W.Frag) (te : TE) : TE := fun σ H Q => te σ H fun x H1 => ∃ a xs, x = .ref a ∧ SqT K H1 a xs ∧ ∀ p, H1 p = none → Q (.ref p) (upd H1 p (.tup xs.reverse))
theorem pe_backT {e : Expr} {te : TE} {k : Nat} {p1 p2 p3 pos : Pos} (he : PE X e te) : PE X (.Subscript e (.Slice none none (some (.UnaryOp .USub (.Constant (.int 1) k p1) p2)) p3) pos) (tBackT X.K te) := by
  refine ⟨fun pins s σ H Q I h => Subscript_ (thn (he.run pins s σ H _ I h) ?_)⟩
  intro v s1 hq
  obtain ⟨x, H1, I1, r1, a, xs, ex, hx, q⟩ := hq
  subst ex
  cases r1
  have st : PO X (some (.UnaryOp .USub (.Constant (.int 1) k p1) p2)) (tPart (tUn (rU fun i => .int (-i)) (tC (.int 1)))) := po_some (pe_un un_neg pe_int)
  refine wpAny_Slice (thn (po_none.run pins s1 σ H1 (fun o H2 => o = none ∧ H2 = H1) I1 ⟨rfl, rfl⟩) ?_)
  intro vl s2 hq
  obtain ⟨l, H2, I2, pl, el, e2⟩ := hq
  subst el e2
  refine thn (po_none.run pins s2 σ H2 (fun o H3 => o = none ∧ H3 = H2) I2 ⟨rfl, rfl⟩) ?_
  intro vu s3 hq
  obtain ⟨l, H3, I3, pu, el, e3⟩ := hq
  subst el e3
  refine thn (st.run pins s3 σ H3 (fun o H4 => o = some (-1) ∧ H4 = H3) I3 ⟨1, rfl, -1, rfl, rfl, rfl⟩) ?_
  intro vs s4 hq
  obtain ⟨o, H4, I4, ps, eo, e4⟩ := hq
  subst eo e4
  cases pl
  cases pu
  obtain ⟨u, rfl⟩ : ∃ u, vs = .int (-1) u := match ps with | .int _ u => ⟨u, rfl⟩
  have I5 : Inv X pins σ H4 { s4 with heap := s4.heap.push { cls := .type "slice", data := .fields #[.none, .none, .int (-1) u] } } := I4.kept (t' := s4.toks) fun b ob q => Heap.get?_push_of_some _ q
  obtain ⟨its, r, ht, hz⟩ := I5.tuple hx
  have hlen := r.length
  show wpAny (model X.prog X.w) X.A (subscriptTail e (.Slice none none (some (.UnaryOp .USub (.Constant (.int 1) k p1) p2)) p3) (.ref a) (.ref s4.heap.objs.size)) (EP X pins σ Q) X.xe { s4 with heap := s4.heap.push { cls := .type "slice", data := .fields #[.none, .none, .int (-1) u] } }
  refine tail_any (ops := [.ref a, .ref s4.heap.objs.size]) ht.typeIs (PyProof.Rows.slot_tuple_getitem.lookup) (back_item ht (Heap.IsSliceOf.new _ .none .none (.int (-1) u)) (by rw [List.size_toArray]; omega) ?_) (by with_unfolding_all rfl)
  refine ⟨.ref _, _, I5.laid (t' := s4.toks) (o := .tup xs.reverse) (fun b ob q => Heap.get?_push_of_some _ q) (Nat.le_refl _) ?_, rfl, q _ (I5.hok.fresh (Nat.le_refl _))⟩
  exact ⟨by rw [List.length_reverse]; exact hz, _, r.reverse, ⟨_, Heap.get?_push_size _ rfl, rfl, _, rfl⟩⟩
end
end G3

noncomputable section
namespace Mi
open PySem PySem.Spec PyProof.Rows L2

/-! ### x += e of ints -/
def sAug (i : Nat) (f : Int → Int → Int) (m : M) : MS := fun env s => match env[i]? with
  | some (some (.int a)) => (m env s).fl env fun v s1 => match v with
    | .int b => .nx (env.set i (some (.int (f a b)))) s1
    | _ => .bad
  | _ => .bad
section
variable {X : Cx} {W : WK} {e : Expr} {m : M} {pos pos' : Pos}
theorem s_augI {i : Nat} {x : Str} {op : Operator} {f : Int → Int → Int} (ho : PIp X op (ipI f)) (hN : X.N.Nodup) (hi : X.N[i]? = some x) (hx : Loc X.env.scope x) (hf : X.fn x = true ∨ X.env.scope.names.lookup x = some .local) (he : ME X W e m) : MSt X W (.AugAssign (.Name x pos') op e pos) (sAug i f m) := by
  obtain ⟨t, q, s⟩ := he
  refine ⟨_, ps_aug hN hi hx q ho hf, fun D σ H ρ env sto h1 h2 h3 => ?_⟩
  unfold sAug at h3
  split at h3
  · rename_i a ea
    obtain ⟨v, ev, rv⟩ := h1.2 i _ ea
    cases rv
    refine ⟨_, ev, s σ H ρ env sto _ h1 h2 ((FPost.bind h1 h2 h3).imp fun v s1 H1 ρ1 x1 S1 P1 y hy => ?_)⟩
    split at P1
    · cases hy
      exact ⟨_, _, rfl, rfl, P1 _ H1 ρ1 .refl S1 ((h1.mono x1.toExtW).set i rfl)⟩
    · exact P1.elim
  · exact h3.elim
end

/-! ### sorted, of ints -/
def insI (a : Int) : List Int → List Int
  | [] => [a]
  | b :: r => bif decide (a ≤ b) then a :: b :: r else b :: insI a r
def srtI : List Int → List Int
  | [] => []
  | a :: r => insI a (srtI r)
theorem insI_perm (a : Int) : ∀ l : List Int, (insI a l).Perm (a :: l)
  | [] => .refl _
  | b :: r => by
    unfold insI
    cases decide (a ≤ b) with
    | true => exact .refl _
    | false => exact ((insI_perm a r).cons b).trans (.swap a b r)
theorem srtI_perm : ∀ l : List Int, (srtI l).Perm l
  | [] => .refl _
  | a :: r => (insI_perm a (srtI r)).trans ((srtI_perm r).cons a)
theorem insI_up (a : Int) : ∀ l : List Int, l.Pairwise (· ≤ ·) → (insI a l).Pairwise (· ≤ ·)
  | [], _ => List.pairwise_singleton _ _
  | b :: r, h => by
    unfold insI
    obtain ⟨h1, h2⟩ := List.pairwise_cons.mp h
    by_cases e : a ≤ b
    · rw [decide_eq_true e]
      refine List.pairwise_cons.mpr ⟨fun z hz => ?_, h⟩
      rcases List.mem_cons.mp hz with rfl | hz
      · exact e
      · have := h1 z hz; omega
    · rw [decide_eq_false e]
      refine List.pairwise_cons.mpr ⟨fun z hz => ?_, insI_up a r h2⟩
      rcases List.mem_cons.mp ((insI_perm a r).mem_iff.mp hz) with rfl | hz
      · omega
      · exact h1 z hz
theorem srtI_up : ∀ l : List Int, (srtI l).Pairwise (· ≤ ·)
  | [] => .nil
  | a :: r => insI_up a _ (srtI_up r)
theorem srtI_only {l ys : List Int} (p : ys.Perm l) (u : ys.Pairwise (· ≤ ·)) : ys = srtI l := PySem.W.ksm_same (p.trans (srtI_perm l).symm) u (srtI_up l)
def inlsOf : List (Key × PV) → Option (List Int)
  | [] => some []
  | (.inl i, _) :: r => match inlsOf r with
    | some is => some (i :: is)
    | none => none
  | _ :: _ => none
theorem inlsOf_ok : ∀ {kvs : List (Key × PV)} {is : List Int}, inlsOf kvs = some is → kvs.map (·.1) = is.map Sum.inl
  | [], _, h => by cases h; rfl
  | (.inl i, v) :: r, is, h => by
    unfold inlsOf at h
    split at h
    · rename_i js e
      cases h
      rw [List.map_cons, List.map_cons, inlsOf_ok e]
    · cases h
  | (.inr x, v) :: r, is, h => by cases h
def gSorted (fr : Bool) : GC := fun xs s => match xs with
  | [x] => match dOf s x with
    | some (_, kvs) => match inlsOf kvs with
      | some is => bif Nat.blt is.length 64 then fresh fr ((srtI is).map .int) s else .bad
      | none => .bad
    | none => match getF s x with
      | some ys => match intsOf ys with
        | some is => fresh fr ((srtI is).map .int) s
        | none => .bad
      | none => .bad
  | _ => .bad
section
variable {K : PySem.W.Frag} {H : Hp} {ρ : Rh}
theorem rvs_ints : ∀ is : List Int, RVs K H ρ (is.map PV.int) (is.map V.int)
  | [] => rfl
  | _ :: is => .cons rfl (rvs_ints is)
end
theorem g_sorted {K : PySem.W.Frag} {fr : Bool} : SRc K (fun xs H Q => (∃ (a : Addr) (kvs : List (Key × V)) (ks : List Int), xs = [.ref a] ∧ Rd H a (.dK kvs) ∧ kvs.map (·.1) = ks.map Sum.inl ∧ ks.length < 64 ∧
    ∀ (ys : List Int) (p : Addr), ys.Perm ks → ys.Pairwise (· ≤ ·) → H p = none → Q (.ref p) (upd H p (.lst (ys.map V.int)))) ∨ rSortedI K xs H Q) (gSorted fr) := by
  intro WP H ρ sto xs vs Q S r P
  unfold gSorted at P
  split at P
  · obtain ⟨v, rfl, rv⟩ := r.one
    split at P
    · rename_i n kvs e
      split at P
      · rename_i is e2
        obtain ⟨hz, P⟩ := and_of (C := Post K WP H ρ (GV K Q)) P (fun z => z)
        have hz : is.length < 64 := Nat.le_of_ble_eq_true hz
        obtain ⟨a, yvs, _, rfl, _, h1, h2⟩ := dOf_ok S rv e
        refine .inl ⟨a, yvs, is, rfl, .inl h1, h2.1.symm.trans (inlsOf_ok e2), hz, fun ys p hp hu hn => ?_⟩
        rw [srtI_only hp hu]
        exact fresh_ok S (rvs_ints _) P hn
      · exact P.elim
    · split at P
      · rename_i ys e
        obtain ⟨a, zs, rfl, h1, h2⟩ := getF_ok S rv e
        split at P
        · rename_i is e2
          refine .inr ⟨a, is, rfl, by rw [← intsOf_ok _ h2 e2]; exact h1, fun ys p hp hu hn => ?_⟩
          rw [srtI_only hp hu]
          exact fresh_ok S (rvs_ints _) P hn
        · exact P.elim
      · exact P.elim
  · exact P.elim
/-- len, of dicts too -/
def gLenD : GC := fun xs s => match xs with
  | [x] => match dOf s x with
    | some (_, kvs) => .ok (.int kvs.length) s
    | none => gLen [x] s
  | _ => .bad
section
variable {X : Cx} {W : WK} {e e2 : Expr} {p pos tpos : Pos} {es elts : List Expr} {ms : MA} {kk : Nat} {m : M}
theorem e_sorted {fr : Bool} (hc : X.calm = true) (gl : Gl X "sorted") (hm : X.mg "sorted" = none) (ha : MEs X W (e :: es) ms) (he : starEach (e :: es) X.env = (false, eval e X.env) :: starEach es X.env := by rfl) (hpl : (backTo pos (starEach es X.env)).any (·.1) = false := by rfl) :
    ME X W (.Call (.Name "sorted" p) (e :: es) [] pos) (mCall (gSorted fr) ms) := e_callB (.or (call_sortedDI hc) cr_sortedI) g_sorted gl hm (by decide +kernel) ha (by decide) (by decide) he hpl

/-! ### zip of any two -/
def seqOf (s : Sto) (x : PV) : Option (Bool × MIt) := match x with
  | .tup xs => some (true, fun i _ => nthC xs i)
  | x => match itOf s x with
    | some J => some (false, J)
    | none => none
def iZq (ms : MA) : MI := fun env s => (ms env s).bind fun vs s1 => match vs with
  | [v, w] => match seqOf s1 v, seqOf s1 w with
    | some (_, J), some (_, L) => .ok (zipI J L) s1
    | _, _ => .bad
  | _ => .bad
section
variable {K : PySem.W.Frag} {H0 : Hp} {ρ0 : Rh} {s0 : Sto}
def SeqIt (K : PySem.W.Frag) (H0 : Hp) (ρ0 : Rh) (t : Bool) (a : Addr) (J : MIt) : Prop := ∀ (i : Nat) (H : Hp) (ρ : Rh) (sto : Sto), ExtW ρ0 H0 ρ H → RSt K H ρ sto → ∃ ys : List V, G1.SqQ K t H a ys ∧ match J i sto with
  | some v => ∃ y, ys[i]? = some y ∧ RV K H ρ v y
  | none => ys.length ≤ i
theorem seqOf_ok (S0 : RSt K H0 ρ0 s0) {v : PV} {x : V} {t : Bool} {J : MIt} (r : RV K H0 ρ0 v x) (h : seqOf s0 v = some (t, J)) : ∃ a ys, x = .ref a ∧ G1.SqQ K t H0 a ys ∧ SeqIt K H0 ρ0 t a J := by
  unfold seqOf at h
  split at h
  · cases h
    obtain ⟨a, ys, rfl, h1, h2⟩ := r
    exact ⟨a, ys, rfl, h1.sq, fun i H ρ sto x S => ⟨ys, (h1.mono x).sq, by dsimp only; rw [nthC_eq]; exact get_none (h2.mono x) i⟩⟩
  · split at h
    · rename_i J' e
      cases h
      obtain ⟨a, ys, rfl, h1, h2⟩ := itOf_ok S0 r e
      exact ⟨a, ys, rfl, h1, h2⟩
    · cases h
theorem itzq_ok {a b : Addr} {t1 t2 : Bool} {J L : MIt} (h : SeqIt K H0 ρ0 t1 a J) (h' : SeqIt K H0 ρ0 t2 b L) : ItOk K H0 ρ0 (G1.ItzQ K t1 t2 a b) (zipI J L) := by
  intro i H ρ sto x S
  obtain ⟨ys, h1, h2⟩ := h i H ρ sto x S
  obtain ⟨zs, h3, h4⟩ := h' i H ρ sto x S
  unfold zipI
  cases e : J i sto with
  | none =>
    rw [e] at h2
    exact ⟨ys, zs, ⟨h1, h3⟩, .inl h2⟩
  | some v =>
    rw [e] at h2
    obtain ⟨y, k1, k2⟩ := h2
    cases e' : L i sto with
    | none =>
      rw [e'] at h4
      exact ⟨ys, zs, ⟨h1, h3⟩, .inr h4⟩
    | some w =>
      rw [e'] at h4
      obtain ⟨u, k3, k4⟩ := h4
      refine ⟨⟨ys, zs, y, u, ⟨h1, k1⟩, h3, k3⟩, fun z H' hz => ?_⟩
      obtain ⟨T, p, q, ⟨rfl, hT, rfl⟩, hp, hq⟩ := hz
      have : some p = some y := (hp ys h1).symm.trans k1
      cases this
      have : some q = some u := (hq zs h3).symm.trans k3
      cases this
      exact newPair S hT k2 k4
theorem itz_same {a b : Addr} {J L : MIt} (h : ItOk K H0 ρ0 (G1.ItzQ K false false a b) (zipI J L)) : ItOk K H0 ρ0 (Itz K a b) (zipI J L) := by
  intro i H ρ sto x S
  have q := h i H ρ sto x S
  split at q
  · obtain ⟨⟨xs, ys, u, v, ⟨h1, h2⟩, h3, h4⟩, k⟩ := q
    exact ⟨⟨xs, ys, u, v, h1, h3, h2, h4⟩, fun z H' ⟨T, p, r, e1, e2, e3, f1, f2⟩ => k z H' ⟨T, p, r, ⟨e1, e2, e3⟩, f1, f2⟩⟩
  · obtain ⟨xs, ys, ⟨h1, h2⟩, h3⟩ := q
    exact ⟨xs, ys, h1, h2, h3⟩
theorem itzT_same {a b : Addr} {J L : MIt} (h : ItOk K H0 ρ0 (G1.ItzQ K true true a b) (zipI J L)) : ItOk K H0 ρ0 (RZ.ItzT K a b) (zipI J L) := by
  intro i H ρ sto x S
  have q := h i H ρ sto x S
  split at q
  · obtain ⟨⟨xs, ys, u, v, ⟨h1, h2⟩, h3, h4⟩, k⟩ := q
    exact ⟨⟨xs, ys, u, v, h1, h3, h2, h4⟩, fun z H' ⟨T, p, r, e1, e2, e3, f1, f2⟩ => k z H' ⟨T, p, r, ⟨e1, e2, e3⟩, f1, f2⟩⟩
  · obtain ⟨xs, ys, ⟨h1, h2⟩, h3⟩ := q
    exact ⟨xs, ys, h1, h2, h3⟩
end
theorem i_zq (hg : Gl X "zip") (hm : X.mg "zip" = none) (ha : MEs X W [e, e2] ms) (hs : starEach [e, e2] X.env = (false, eval e X.env) :: starEach [e2] X.env := by rfl) (hpl : (backTo pos (starEach [e2] X.env)).any (·.1) = false := by rfl) :
    MIr X W (.Tuple elts kk tpos) (.Call (.Name "zip" p) [e, e2] [] pos) (iZq ms) := by
  obtain ⟨t, q, s⟩ := ha
  refine ⟨_, G1.pi_zipQ hg hm q hs hpl, fun σ H ρ env sto Rk hE hS hP => ?_⟩
  refine s σ H ρ env sto _ hE hS ((hP.bind hS).imp fun vs s1 H1 ρ1 x1 S1 P1 ys hys => ?_)
  split at P1
  · obtain ⟨v, u, rfl, hv, hu⟩ := hys.two
    split at P1
    · rename_i t1 J t2 L k1 k2
      obtain ⟨a, as, rfl, h1, h2⟩ := seqOf_ok S1 hv k1
      obtain ⟨b, bs, rfl, h3, h4⟩ := seqOf_ok S1 hu k2
      have it := itzq_ok h2 h4
      refine ⟨a, b, as, bs, rfl, ?_⟩
      match t1, t2, h1, h3, it with
      | false, false, h1, h3, it => exact .inl ⟨h1, h3, P1 H1 ρ1 .refl S1 _ (itz_same it)⟩
      | true, true, h1, h3, it => exact .inr (.inl ⟨h1, h3, P1 H1 ρ1 .refl S1 _ (itzT_same it)⟩)
      | true, false, h1, h3, it => exact .inr (.inr ⟨false, ⟨h1, h3⟩, P1 H1 ρ1 .refl S1 _ it⟩)
      | false, true, h1, h3, it => exact .inr (.inr ⟨true, ⟨h1, h3⟩, P1 H1 ρ1 .refl S1 _ it⟩)
    · exact P1.elim
  · exact P1.elim

/-! ### t[::-1] -/
theorem RVs.reverse {K : PySem.W.Frag} {H : Hp} {ρ : Rh} : ∀ {p : List PV} {v : List V}, RVs K H ρ p v → RVs K H ρ p.reverse v.reverse
  | [], _, r => by cases r; exact .nil
  | a :: p, _, r => by
    obtain ⟨y, ys, rfl, h, t⟩ := r
    rw [List.reverse_cons, List.reverse_cons]
    exact (RVs.reverse t).append (.cons h .nil)
def mBackT (m : M) : M := fun env s => (m env s).bind fun x s1 => match x with
  | .tup xs => .ok (.tup xs.reverse) s1
  | _ => .bad
def mBackL (fr : Bool) (m : M) : M := fun env s => (m env s).bind fun x s1 => match getF s1 x with
  | some xs => fresh fr xs.reverse s1
  | none => .bad
theorem e_backT {k : Nat} {p1 p2 p3 : Pos} (he : ME X W e m) : ME X W (.Subscript e (.Slice none none (some (.UnaryOp .USub (.Constant (.int 1) k p1) p2)) p3) pos) (mBackT m) := by
  obtain ⟨t, q, s⟩ := he
  refine ⟨_, G3.pe_backT q, fun σ H ρ env sto Q hE hS hP => ?_⟩
  refine s σ H ρ env sto _ hE hS ((hP.bind hS).imp fun v s1 H1 ρ1 x1 S1 P1 y hy => ?_)
  split at P1
  · obtain ⟨a, ys, rfl, h1, h2⟩ := hy
    exact ⟨a, ys, rfl, h1.sq, fun p hp => tup_ok S1 (RVs.reverse h2) P1 hp⟩
  · exact P1.elim
end
end Mi
namespace Mi
open PySem PySem.Spec PyProof.Rows L2
theorem tabIn_mk {K : PySem.W.Frag} {x : Str} {f c P : Addr} {oc o1 : Value} {od d1 : Option Addr} {fd : FuncData} {osl s1 : Array (Option Value)} {vs : Array Value} (n : PySem.W.nsIn K mainGlobals x = some (some (.ref f))) (l : K.lookup f = some ⟨oc, od, .func fd, osl⟩)
    (hc : fd.code = .ref c) (lc : K.lookup c = some ⟨o1, d1, .fields vs, s1⟩) (hv : vs[11]? = some (.ref P)) : PySem.W.tabIn K x = some (c, P) := by
  unfold PySem.W.tabIn
  rw [n]
  simp only [l, hc, lc, hv]
theorem tabIn_no {K : PySem.W.Frag} {x : Str} (n : PySem.W.nsIn K mainGlobals x = some none) : PySem.W.tabIn K x = none := by
  unfold PySem.W.tabIn
  rw [n]
end Mi

/-! try: body, several except clauses, each with a name or without -/
namespace G4
open PySem PySem.Spec PyProof.Rows L2
/-- a clause: its class, the slot of its name, what its suite does -/
structure Cl where
  c : Value
  slot : Option Nat
  ts : Addr → Value → Option Addr → TS
def offS (i : Nat) (D : Ends) : Ends := { nx := fun σ H => D.nx (σ.set i none) H, rt := D.rt, bk := fun σ H => D.bk (σ.set i none) H, ct := fun σ H => D.ct (σ.set i none) H }
def Cl.does (k : Cl) (a : Addr) (cls : Value) (d : Option Addr) (D : Ends) (σ : L2.St) (H : Hp) : Prop := match k.slot with
  | none => k.ts a cls d D σ H
  | some i => k.ts a cls d (offS i D) (σ.set i (some (.ref a))) H
def wEach (K : PySem.W.Frag) (Wout : WX) (D : Ends) : List Cl → WX
  | [] => Wout
  | k :: r => fun cls d σ H => ∃ b, PySem.W.exmOne K cls k.c = some b ∧ (b = true → ∀ a, H a = none → k.does a cls d D σ H) ∧ (b = false → wEach K Wout D r cls d σ H)
inductive Each (X : Cx) : List ExceptHandler → List Cl → Prop
  | nil : Each X [] []
  | cons {x : Str} {nm : Option Str} {c : Value} {slot : Option Nat} {ts : Addr → Value → Option Addr → TS} {b₀ : Stmt} {suite : List Stmt} {np pos' : Pos} {hds : List ExceptHandler} {l : List Cl} (hc : Names X x c)
      (hn : (nm = none ∧ slot = none) ∨ ∃ n i, nm = some n ∧ slot = some i ∧ X.N.Nodup ∧ X.N[i]? = some n ∧ X.env.kindOf n = some .local)
      (hsu : ∀ (a : Addr) (oe : Obj) (cls : Value) (d : Option Addr) (pn : List (Addr × Obj)), Zc cls d oe → (∃ vs, oe.data = .fields vs) → PSs (X.suite a ((a, oe) :: pn)) (b₀ :: suite) (ts a cls d)) (r : Each X hds l) :
      Each X (.ExceptHandler (some (.Name x np)) nm (b₀ :: suite) pos' :: hds) (⟨c, slot, ts⟩ :: l)
section
variable {X : Cx} {body : List Stmt} {h₀ : ExceptHandler} {hds : List ExceptHandler} {l : List Cl} {pos : Pos} {tb : WX → TS} {Wout : WX}
theorem ps_try_each (hs : X.stack = X.env :: X.outer) (hf : X.env.frame = some X.env.locals) (tk : Takes X Wout)
    (hb : ∀ (W : WX) (pn : List (Addr × Obj)) (xe : Value → Shared → Prop), Takes (X.tr pn xe) W → PassesOwn (model X.prog X.w) X.A X.env xe → PSs (X.tr pn xe) body (tb W)) (hh : Each X (h₀ :: hds) l) : PS X (.Try body (h₀ :: hds) [] [] pos) (fun D σ H => tb (wEach X.K Wout D l) D σ H) := by
  refine ⟨fun pins s σ H D I h => wpAny_Try_except ?_⟩
  have ok := I.ok
  have fr : X.A.frames = some (X.env :: X.outer) := ok.frames.trans (by rw [hs])
  let cat : Value → Shared → Prop := fun e s₁ => wpAny (model X.prog X.w) X.A (noteFrame e X.env) (fun _ s₂ => wpAny (model X.prog X.w) X.A (setFlight e none) (fun _ s₃ => wpAny (model X.prog X.w) X.A (handleBy e X.env (h₀ :: hds)) (SP X pins D) X.xe s₃) X.xe s₂) X.xe s₁
  have takes : Takes (X.tr (X.pn ++ pins) cat) (wEach X.K Wout D l) := by
    intro u s' xx
    obtain ⟨a, B, sI, pins', σ', H', cls, d, rfl, J0, nb, up, sky, na, os, ag, w⟩ := xx
    have J : Inv X pins σ' H' sI := J0.ofTry ok
    have sk : Sky B (X.env :: X.outer) a (Zc cls d) X.env.locals s'.heap := hs ▸ sky
    show wpAny (model X.prog X.w) X.A (noteFrame (.ref a) X.env) _ _ _
    refine Sky.land Zc.steady fr hf sk fun g fl up1 => ?_
    have J1 : Inv X pins σ' H' { s' with heap := g } := J.landed nb fl.1 (up.trans up1) os ag
    obtain ⟨oe, us, ge, gz, gd⟩ := fl.there
    have out : a ∉ frs (X.env :: X.outer) := fun hm => by
      obtain ⟨_, o', e', hnf⟩ := fl.2.2.1.mem hm
      rw [ge] at e'; cases e'
      exact hnf _ gd
    have nL : a ≠ X.env.locals := fun z => out (List.mem_filterMap.mpr ⟨X.env, List.mem_cons_self, hf.trans (by rw [z])⟩)
    have nF : a ∉ X.fs := fun hm => let ⟨e, he, q⟩ := List.mem_filterMap.mp hm; out (List.mem_filterMap.mpr ⟨e, List.mem_cons_of_mem _ he, q⟩)
    have S1 := J1.suite ge gd na nL nF
    have LT : PySem.W.Looks (model X.prog X.w) g (typeOf (.ref a)) cls := fun A Q E s k q => wpAny_typeOf_ref (k _ _ ge) (by rw [gz.1]; exact q)
    have pass : Wout cls d σ' H' → wpAny (model X.prog X.w) X.A (handleBy (.ref a) X.env []) (SP X pins D) X.xe { s' with heap := g } := fun w0 => by
      refine wpAny_handleBy_nil ?_
      obtain ⟨k1, k2, k3, o1, v1, T, oT, ts', he, hz, hd, h1, hr⟩ := id fl
      have fin : wpAny (model X.prog X.w) X.A (setFlight (.ref a) X.env.frame) (fun _ s4 => wpAny (model X.prog X.w) X.A (throw (.ref a) : Sem Flow) (SP X pins D) X.xe s4) X.xe { s' with heap := g } := by
        rw [hf]
        exact HandSPX.setFlight_upZ fl fun g4 hh4 up4 => wpAny_throw (tk _ _ ⟨a, B, sI, pins, σ', H', cls, d, rfl, J, nb, (up.trans up1).trans up4, .inr (.inr (by rw [hs]; exact hh4)), na, os, ag, w0⟩)
      unfold PySem.passOn
      refine wpAny_bind (wpAny_field he hd h1 ?_)
      rw [if_neg (show ¬ (Value.ref T == Value.none) = true by simp)]
      first
        | exact wpAny_bind fin
        | exact wpAny_bind (wpAny_pure (wpAny_bind fin))
    have each : ∀ {hs' : List ExceptHandler} {ls : List Cl}, Each X hs' ls → wEach X.K Wout D ls cls d σ' H' → wpAny (model X.prog X.w) X.A (handleBy (.ref a) X.env hs') (SP X pins D) X.xe { s' with heap := g } := by
      intro hs' ls k
      induction k with
      | nil => exact pass
      | @cons x nm c slot ts b₀ suite np pos' hs2 l2 hc hn hsu r ih =>
        rintro ⟨b, hb1, hyes, hno⟩
        have test : ∀ {Q E : Value → Shared → Prop}, Q c { s' with heap := g } → wpAny (model X.prog X.w) (X.A.mark (some (.ref a))) (eval (.Name x np) X.env) Q E { s' with heap := g } := fun {Q E} q => by
          obtain ⟨c1, c2, c3⟩ := hc
          rcases c3 with c3 | ⟨c3, c4, c5⟩
          · exact ld_glob (X := X.suite a ((a, oe) :: (X.pn ++ pins))) S1 c1 c3 q c2
          · exact ld_blt (X := X.suite a ((a, oe) :: (X.pn ++ pins))) S1 c1 c3 c4 q c5 c2
        refine wpAny_handleBy_cons (codeAny_handlers_test (test ((PySem.W.exm_one (M := model X.prog X.w) J1.kIn LT hb1).here ?_))) (by intro q; cases q)
        cases b with
        | false => exact ih (hno rfl)
        | true =>
          have act := hyes rfl a na
          rcases hn with ⟨rfl, rfl⟩ | ⟨n, i, rfl, rfl, hN, hi, hl⟩
          · refine codeAny_handlers_suite (HandSPX.lands_againZ fl fun g4 fl4 up4 => ?_)
            have J4 : Inv X pins σ' H' { s' with heap := g4 } := J.landed nb fl4.1 ((up.trans up1).trans up4) os ag
            obtain ⟨o4, v4, he4, hz4, hd4⟩ := fl4.there
            refine wpAny_mono ((hsu a o4 cls d (X.pn ++ pins) hz4 ⟨_, hd4⟩).run [] _ _ H' _ (J4.suite he4 hd4 na nL nF) act) (fun f s6 z => ?_) fun _ _ z => z.elim
            match f, z with
            | .next, ⟨σ6, H6, S6, q⟩ => exact ⟨σ6, H6, S6.unsuite ok, q⟩
            | .brk, ⟨σ6, H6, S6, q⟩ => exact ⟨σ6, H6, S6.unsuite ok, q⟩
            | .cont, ⟨σ6, H6, S6, q⟩ => exact ⟨σ6, H6, S6.unsuite ok, q⟩
            | .ret u, ⟨v6, σ6, H6, S6, r6, q⟩ => exact ⟨v6, σ6, H6, S6.unsuite ok, r6, q⟩
          · refine codeAny_handlers_suite_as (HandSPX.lands_againZ fl fun g4 fl4 up4 => ?_)
            have J4 : Inv X pins σ' H' { s' with heap := g4 } := J.landed nb fl4.1 ((up.trans up1).trans up4) os ag
            obtain ⟨o4, v4, he4, hz4, hd4⟩ := fl4.there
            refine store_ok (X := X.suite a ((a, o4) :: (X.pn ++ pins))) (v := .ref a) (J4.suite he4 hd4 na nL nF) hN hi (.inl hl) rfl (fun s5 S5 => ?_) (.inr hl)
            have bye : ∀ {s6 : Shared} {σ6 : L2.St} {H6 : Hp} {Q : Shared → Prop}, Inv (X.suite a ((a, o4) :: (X.pn ++ pins))) [] σ6 H6 s6 → (∀ s7, Inv X pins (σ6.set i none) H6 s7 → Q s7) → wpAny (model X.prog X.w) X.A (do bindName X.env n .none; unbindBehindTheSuite X.env n pos') (fun _ s7 => Q s7) X.xe s6 := fun S6 q => gone_ok (S6.unsuite ok) hN hi hl q
            refine wpAny_mono ((hsu a o4 cls d (X.pn ++ pins) hz4 ⟨_, hd4⟩).run [] s5 _ H' _ S5 act) (fun f s6 z => ?_) fun _ _ z => z.elim
            match f, z with
            | .next, ⟨σ6, H6, S6, q⟩ => exact bye S6 fun s7 J7 => ⟨_, _, J7, q⟩
            | .brk, ⟨σ6, H6, S6, q⟩ => exact bye S6 fun s7 J7 => ⟨_, _, J7, q⟩
            | .cont, ⟨σ6, H6, S6, q⟩ => exact bye S6 fun s7 J7 => ⟨_, _, J7, q⟩
            | .ret u, ⟨v6, σ6, H6, S6, r6, q⟩ => exact bye S6 fun s7 J7 => ⟨_, _, _, J7, r6, q⟩
    exact each hh w
  refine wpAny_mono ((hb (wEach X.K Wout D l) (X.pn ++ pins) cat takes PassesOwn.looking).run [] s σ H D (I.toTry _) h) (fun f s1 z => ?_) fun e s1 z => z
  match f, z with
  | .next, ⟨σ1, H1, S1, q⟩ => exact wpAny_execs_nil ⟨σ1, H1, S1.ofTry ok, q⟩
  | .brk, ⟨σ1, H1, S1, q⟩ => exact ⟨σ1, H1, S1.ofTry ok, q⟩
  | .cont, ⟨σ1, H1, S1, q⟩ => exact ⟨σ1, H1, S1.ofTry ok, q⟩
  | .ret u, ⟨v, σ1, H1, S1, r, q⟩ => exact ⟨v, σ1, H1, S1.ofTry ok, r, q⟩
end
end G4

noncomputable section
namespace Mi
open PySem PySem.Spec PyProof.Rows L2

/-! ### raise C(e) -/
section
variable {X : Cx} {pins : List (Addr × Obj)} {σ : L2.St} {H : Hp} {s : Shared} {C : Addr} {B newId initId : String} {bm : List Value} {f : Str}
theorem bmk1 {W : WK} {fI : Addr} {k : Nat} {fd : FuncData} (FB : ExcBaseFacts B newId initId bm) (T : OxC X.K newId bm C) (iC : PySem.W.findIn X.K (.ref C) "__init__" = some (some (.ref fI))) (tI : PySem.W.typeIn X.K (.ref fI) = some (.type "function"))
    (F : FnOk X.prog X.w X.K X.mg X.base (L2.CX X.prog X.w) k fI fd ["self", f] (sp1 C f)) (hr : Room (k + 1) X.A) (hb : Binds X.K fd ["self", f] []) (tk : Takes X W) {Q : XK} {u : Value} {y : V} (ry : RelV y u) (I : Inv X pins σ H s)
    (h : ∀ dx, H dx = none → Q (.ref C) (some dx) (upd H dx (.xd [(f, y)]))) : wpAny (model X.prog X.w) X.A (call (.ref C) [u]) (MkP X pins σ Q) X.xe s := by
  obtain ⟨nm, N, qn, bs, bc, hdct, sn, sub, ab, col, dd, k0, k1, k2, k3, k5, hC, hT⟩ := PySem.W.excInit_of I.kIn T.ini
  obtain ⟨hp, g, dr, t, os⟩ := s
  have up : hp.objs.size ≤ hp.objs.size + 1 := Nat.le_succ _
  have hn : H (hp.objs.size + 1) = none := I.hok.fresh up
  have old : ∀ b o, hp.get? b = some o → ((hp.push (PySem.W.kdv_tup [u])).push (PySem.HandSPX.excO C hp.objs.size)).get? b = some o := fun b o z => Heap.get?_push_of_some _ (Heap.get?_push_of_some _ z)
  have new : ((hp.push (PySem.W.kdv_tup [u])).push (PySem.HandSPX.excO C hp.objs.size)).get? (hp.objs.size + 1) = some (PySem.HandSPX.excO C hp.objs.size) := by heap_get
  have J : Inv X pins σ (upd H (hp.objs.size + 1) (exo (hp.objs.size + 1) C none)) ⟨(hp.push (PySem.W.kdv_tup [u])).push (PySem.HandSPX.excO C hp.objs.size), g, dr, t, os⟩ := I.laid (t' := t) (a := hp.objs.size + 1) old up (exo_ok new)
  have b := hb _ [Value.ref (hp.objs.size + 1), u] J.kIn (by rfl)
  rw [List.append_nil] at b
  refine wpAny_call (PySem.HandSPX.call_own FB hT hC (PySem.W.looks_findIn I.kIn iC) (fun v => PySem.W.bind_fn I.kIn v tI) (by rw [sizeLine_eq]; simp) (codeAny_mono (F.run _ X.stack _ _ ⟨[Value.ref (hp.objs.size + 1), u], []⟩ _ [.ref (hp.objs.size + 1), y]
    (fun v H2 => v = .non ∧ ∃ dx, H dx = none ∧ dx ≠ hp.objs.size + 1 ∧ H2 = upd (upd (upd H (hp.objs.size + 1) (exo (hp.objs.size + 1) C none)) dx (exd dx [(f, y)])) (hp.objs.size + 1) (exo (hp.objs.size + 1) C (some dx)))
    (WE W σ) (hr.make C [u] []) (J.env0.make C [u] []) b (.cons rfl (.cons ry .nil)) ⟨_, y, rfl, upd_same, fun dx z ne => ⟨rfl, dx, by rw [upd_ne ne] at z; exact z, ne, rfl⟩⟩) fun r' s' z => ?_))
  match r', z with
  | .error er, z => exact passAt tk σ pins _ _ er s' J z
  | .ok (.ret w), z =>
    obtain ⟨v, H2, os2, bare2, un2, hok2, rv, hv, dx, hd, ne, e2⟩ := z
    subst hv
    obtain ⟨h2, g2, d2, t2, os'⟩ := s'
    have ea : H2 (hp.objs.size + 1) = some (exo (hp.objs.size + 1) C (some dx)) := by rw [e2]; exact upd_same
    have ed : H2 dx = some (exd dx [(f, y)]) := by rw [e2, upd_ne ne]; exact upd_same
    have same : upd (del H2 (hp.objs.size + 1)) dx (.xd [(f, y)]) = upd H dx (.xd [(f, y)]) := by
      funext c
      by_cases c1 : c = dx
      · rw [c1, upd_same, upd_same]
      · rw [upd_ne c1, upd_ne c1]
        by_cases c2 : c = hp.objs.size + 1
        · rw [c2, del_same, hn]
        · rw [del_ne c2, e2, upd_ne c2, upd_ne c1, upd_ne c2]
    exact ⟨rv, mk_end (d2 := d2) (t2 := t2) (raises_own T.A.exC T.A.ty) I up old un2 hok2 os2 bare2 ea ed hd (same ▸ h dx hd)⟩
  | .ok .next, z => exact z.elim
  | .ok .brk, z => exact z.elim
  | .ok .cont, z => exact z.elim
end
def sRaise1 (n f : Str) (ms : MA) : MS := fun env s => (ms env s).fl env fun vs s1 => match vs with
  | [v] => .ex ⟨n, [(f, v)]⟩ env s1
  | _ => .bad
section
variable {X : Cx} {W : WK} {C : Addr} {B newId initId : String} {bm : List Value} {p pos pos2 : Pos} {e : Expr} {ms : MA}
theorem s_raise1 {n f : Str} {fI : Addr} {k : Nat} {fd : FuncData} (FB : ExcBaseFacts B newId initId bm) (T : OxC X.K newId bm C) (hC : PySem.W.nsIn X.K mainGlobals n = some (some (.ref C))) (iC : PySem.W.findIn X.K (.ref C) "__init__" = some (some (.ref fI))) (tI : PySem.W.typeIn X.K (.ref fI) = some (.type "function"))
    (F : FnOk X.prog X.w X.K X.mg X.base (L2.CX X.prog X.w) k fI fd ["self", f] (sp1 C f)) (hr : Room (k + 1) X.A) (hb : Binds X.K fd ["self", f] []) (hc : X.calm = true) (tk : Takes X W) (hg : Gl X n) (hm : X.mg n = some (.ref C)) (ha : MEs X W [e] ms)
    (hdb : (n == ("__debug__" : Str)) = false := by decide) (he : starEach [e] X.env = (false, eval e X.env) :: starEach [] X.env := by rfl) (hpl : (backTo pos (starEach [] X.env)).any (·.1) = false := by rfl) :
    MSt X W (.Raise (some (.Call (.Name n p) [e] [] pos)) none pos2) (sRaise1 n f ms) := by
  obtain ⟨t, q, s⟩ := ha
  have pm : PMk X (.Call (.Name n p) [e] [] pos) (fun σ H Q => t σ H fun vs H1 => ∃ y, vs = [y] ∧ ∀ dx, H1 dx = none → Q (.ref C) (some dx) (upd H1 dx (.xd [(f, y)]))) := fun pins st σ H Q I h => by
    refine wpAny_Call_Name_kw (ld_glob I hg hm ?_ hdb)
    refine PySem.W.callWith_K (h₀ := X.base) I.ok.mod.kin T.kC (thn (q.run pos pins st σ H _ I h) ?_) he hpl
    intro us s1 z
    obtain ⟨vs, H1, I1, r, y, ev, q1⟩ := z
    subst ev
    obtain ⟨u, eu, ru⟩ := vals1 r
    subst eu
    exact ⟨I1.kIn, bmk1 FB T iC tI F hr hb tk ru I1 q1⟩
  refine ⟨_, ps_raise hc tk pm, fun D σ H ρ env sto h1 h2 h3 => ?_⟩
  refine s σ H ρ env sto _ h1 h2 ((FPost.bind h1 h2 h3).imp fun v s1 H1 ρ1 x1 S1 P1 ys hys => ?_)
  split at P1
  · rename_i v0
    obtain ⟨y, rfl, hy⟩ := hys.one
    refine ⟨y, rfl, fun dx hd => ?_⟩
    have x2 := S1.ext (o := .xd [(f, y)]) hd
    exact P1 (.ref C) (some dx) σ _ ρ1 x2 (S1.new hd) ((h1.mono x1.toExtW).mono x2.toExtW) ⟨⟨C, hC, rfl⟩, by simp, [(f, y)], upd_same, S1.fresh hd, S1.freshR hd, rfl, .cons (hy.mono x2.toExtW) .nil⟩
  · exact P1.elim
end

/-! ### several except clauses -/
/-- what the caught exception's name holds -/
def caughtV (a : Addr) (d : Option Addr) (e : Exn) : PV := match d with
  | none => .obj a
  | some dx => .cat a dx (e.flds.map (·.1)) (e.flds.map (·.2))
def sane (d : Option Addr) (e : Exn) : Prop := d = none → e.flds = []
theorem zip_un {α β : Type} : ∀ l : List (α × β), (l.map (·.1)).zip (l.map (·.2)) = l
  | [] => rfl
  | _ :: l => congrArg (_ :: ·) (zip_un l)
theorem caught_ok {K : PySem.W.Frag} {H : Hp} {ρ : Rh} {e : Exn} {cls : Value} {d : Option Addr} (a : Addr) (R : RX K H ρ e cls d) : RV K H ρ (caughtV a d e) (.ref a) ∧ sane d e := by
  obtain ⟨_, R⟩ := R
  cases d with
  | none => exact ⟨rfl, fun _ => R⟩
  | some dx =>
    obtain ⟨_, fs, h1, h2, h3, h4, h5⟩ := R
    refine ⟨⟨fs.map (·.2), rfl, ⟨?_, h2, h3⟩, h5⟩, fun z => by cases z⟩
    rw [h4, zip_un]; exact h1
abbrev Clause := List (Str × Bool) × Option Nat × (Exn → MS)
def catchN : List Clause → Exn → MS
  | [], e => fun env s => .ex e env s
  | (tab, sl, u) :: r, e => fun env s => match tab.lookup e.cls with
    | some true => match sl with
      | none => (u e env s).noex
      | some i => bif Nat.blt i env.length then putF i none (u e (env.set i none) s).noex else .bad
    | some false => catchN r e env s
    | none => .bad
def sTryN (l : List Clause) (b : MS) : MS := fun env s => match b env s with
  | .ex e env1 s1 => catchN l e env1 s1
  | r => r
inductive EachM (X : Cx) : List ExceptHandler → List Clause → Prop
  | nil : EachM X [] []
  | bare {x : Str} {c : Value} {tab : List (Str × Bool)} {u : Exn → MS} {b₀ : Stmt} {suite : List Stmt} {np pos' : Pos} {hds : List ExceptHandler} {l : List Clause} (hc : Names X x c) (T : XmTab X.K c tab)
      (hu : ∀ (e : Exn) (a : Addr) (oe : Obj) (pn : List (Addr × Obj)), MSs (X.suite a ((a, oe) :: pn)) WF (b₀ :: suite) (u e)) (r : EachM X hds l) : EachM X (.ExceptHandler (some (.Name x np)) none (b₀ :: suite) pos' :: hds) ((tab, none, u) :: l)
  | as {x n : Str} {i : Nat} {c : Value} {tab : List (Str × Bool)} {u : Exn → MS} {mu : Addr → Option Addr → Exn → MS} {b₀ : Stmt} {suite : List Stmt} {np pos' : Pos} {hds : List ExceptHandler} {l : List Clause} (hc : Names X x c) (T : XmTab X.K c tab)
      (hN : X.N.Nodup) (hi : X.N[i]? = some n) (hl : X.env.kindOf n = some .local)
      (hu : ∀ (e : Exn) (C a : Addr) (oe : Obj) (d : Option Addr) (pn : List (Addr × Obj)), PySem.W.nsIn X.K mainGlobals e.cls = some (some (.ref C)) → Zc (.ref C) d oe → (∃ vs, oe.data = .fields vs) → MSs (X.suite a ((a, oe) :: pn)) WF (b₀ :: suite) (mu a d e))
      (hp : ∀ (a : Addr) (d : Option Addr) (e : Exn) (env : Env) (s : Sto), i < env.length → sane d e → mu a d e (env.set i (some (caughtV a d e))) s = putF i (some (caughtV a d e)) (u e (env.set i none) s)) (r : EachM X hds l) :
      EachM X (.ExceptHandler (some (.Name x np)) (some n) (b₀ :: suite) pos' :: hds) ((tab, some i, u) :: l)
theorem eachM_cl {X : Cx} {W : WK} : ∀ {hds : List ExceptHandler} {l : List Clause}, EachM X hds l → ∃ cl : List G4.Cl, G4.Each X hds cl ∧ ∀ (D : Ends) (e : Exn) (env : Env) (s : Sto) (cls : Value) (d : Option Addr) (σ : L2.St) (H : Hp) (ρ : Rh),
    REnv X.K H ρ env σ → RSt X.K H ρ s → RX X.K H ρ e cls d → FPost X.K W D H ρ (catchN l e env s) → G4.wEach X.K W D cl cls d σ H := by
  intro hds l h
  induction h with
  | nil => exact ⟨[], .nil, fun D e env s cls d σ H ρ E S R P => P cls d σ H ρ .refl S E R⟩
  | @bare x c tab u b₀ suite np pos' hds l hc T hu r ih =>
    obtain ⟨cl, h1, h2⟩ := ih
    refine ⟨⟨c, none, fun _ _ _ D σ H => ∃ e, cS X.K WF (u e) D σ H⟩ :: cl, .cons hc (.inl ⟨rfl, rfl⟩) (fun a oe cls d pn _ _ => ⟨fun pins st σ H D I ⟨e, q⟩ => (hu e a oe pn).can.run pins st σ H D I q⟩) h1, fun D e env s cls d σ H ρ E S R P => ?_⟩
    obtain ⟨⟨C, hC, rfl⟩, _⟩ := id R
    unfold catchN at P
    cases k : tab.lookup e.cls with
    | none => rw [k] at P; exact P.elim
    | some b =>
      rw [k] at P
      refine ⟨b, T _ _ k C hC, fun hb a _ => ?_, fun hb => ?_⟩
      · subst hb
        exact ⟨e, ρ, env, s, E, S, FPost.unex P⟩
      · subst hb
        exact h2 D e env s _ d σ H ρ E S R P
  | @as x n i c tab u mu b₀ suite np pos' hds l hc T hN hi hl hu hp r ih =>
    obtain ⟨cl, h1, h2⟩ := ih
    refine ⟨⟨c, some i, fun a cls d D σ H => ∃ e C, PySem.W.nsIn X.K mainGlobals e.cls = some (some (.ref C)) ∧ cls = .ref C ∧ cS X.K WF (mu a d e) D σ H⟩ :: cl,
      .cons hc (.inr ⟨n, i, rfl, rfl, hN, hi, hl⟩) (fun a oe cls d pn hz hv => ⟨fun pins st σ H D I ⟨e, C, hC, ec, q⟩ => (hu e C a oe d pn hC (ec ▸ hz) hv).can.run pins st σ H D I q⟩) h1, fun D e env s cls d σ H ρ E S R P => ?_⟩
    obtain ⟨⟨C, hC, rfl⟩, _⟩ := id R
    unfold catchN at P
    cases k : tab.lookup e.cls with
    | none => rw [k] at P; exact P.elim
    | some b =>
      rw [k] at P
      refine ⟨b, T _ _ k C hC, fun hb a _ => ?_, fun hb => ?_⟩
      · subst hb
        obtain ⟨hlen, P⟩ := and_of (C := FPost X.K W D H ρ) P (fun z => z)
        have hlen : i < env.length := Nat.le_of_ble_eq_true hlen
        obtain ⟨rc, sn⟩ := caught_ok a R
        refine ⟨e, C, hC, rfl, ρ, env.set i (some (caughtV a d e)), s, E.set i rc, S, ?_⟩
        rw [hp a d e env s hlen sn]
        have z : FPost X.K WF D H ρ (putF i none (u e (env.set i none) s)).noex := by
          cases q : u e (env.set i none) s <;> rw [q] at P <;> exact P
        exact putF_post z
      · subst hb
        exact h2 D e env s _ d σ H ρ E S R P
section
variable {X : Cx} {W : WK} {body : List Stmt} {h₀ : ExceptHandler} {hds : List ExceptHandler} {l : List Clause} {pos : Pos} {mb : MS}
theorem s_tryN (hs : X.stack = X.env :: X.outer) (hf : X.env.frame = some X.env.locals) (tk : Takes X W)
    (hb : ∀ (W' : WK) (pn : List (Addr × Obj)) (xe : Value → Shared → Prop), Takes (X.tr pn xe) W' → PassesOwn (model X.prog X.w) X.A X.env xe → MSs (X.tr pn xe) W' body mb) (hh : EachM X (h₀ :: hds) l) : MSt X W (.Try body (h₀ :: hds) [] [] pos) (sTryN l mb) := by
  obtain ⟨cl, h1, h2⟩ := eachM_cl (W := W) hh
  refine ⟨_, G4.ps_try_each (tb := fun W' => cS X.K W' mb) hs hf tk (fun W' pn xe q1 q2 => (hb W' pn xe q1 q2).can) h1, fun D σ H ρ env sto E S P => ⟨ρ, env, sto, E, S, ?_⟩⟩
  unfold sTryN at P
  cases q : mb env sto with
  | ex e env1 s1 =>
    rw [q] at P
    dsimp only at P
    intro cls d σ' H' ρ' xx S' E' R
    exact h2 D e env1 s1 cls d σ' H' ρ' E' S' R (FPost.shift xx S.hh P)
  | nx e s => rw [q] at P; exact P
  | rt v s => rw [q] at P; exact P
  | bk e s => rw [q] at P; exact P
  | ct e s => rw [q] at P; exact P
  | bad => rw [q] at P; exact P
end
/-- the caught exception's field -/
def mCatR (tab : List Str) (k : Str) (a : Addr) (d : Option Addr) (i : Nat) (f : Str) : M := fun env s => match env[i]?, d with
  | some (some (.cat a' d' ns xs)), some dd => bif tab.elem k then (if a' = a ∧ d' = dd then (match lookP f ns xs with
    | some v => .ok v s
    | none => .bad) else .bad) else .bad
  | _, _ => .bad
/-- the same, by the exception -/
def mCatF (tab : List Str) (e : Exn) (f : Str) : M := fun _ s => bif tab.elem e.cls then (match lookP f (e.flds.map (·.1)) (e.flds.map (·.2)) with
  | some v => .ok v s
  | none => .bad) else .bad
theorem catR_put {tab : List Str} {a : Addr} {d : Option Addr} {e : Exn} {i : Nat} {f : Str} {env : Env} {s : Sto} (hl : i < env.length) (hd : sane d e) : mCatR tab e.cls a d i f (env.set i (some (caughtV a d e))) s = mCatF tab e f (env.set i none) s := by
  unfold mCatR mCatF
  rw [List.getElem?_set_self hl]
  cases d with
  | none =>
    have q := hd rfl
    rw [q]
    show R.bad = bif tab.elem e.cls then R.bad else R.bad
    cases tab.elem e.cls <;> rfl
  | some dx =>
    dsimp only [caughtV]
    cases tab.elem e.cls with
    | false => rfl
    | true => simp
section
variable {X : Cx} {W : WK} {a C : Addr} {d : Option Addr} {oe : Obj} {pn : List (Addr × Obj)} {p2 pos : Pos}
theorem e_catF {tab : List Str} {k x f : Str} {i : Nat} (hk : PySem.W.nsIn X.K mainGlobals k = some (some (.ref C))) (T : FdTab X.K f tab) (hz : Zc (.ref C) d oe) (hf : ∃ vs, oe.data = .fields vs) (hN : X.N[i]? = some x) (hv : Vis X.env.scope x)
    (hd : (x == ("__debug__" : Str)) = false := by decide) (hcd : (x == ("__classdict__" : Str)) = false := by decide) (hb : attributeBase (.Name x p2) f X.env (eval (.Name x p2) X.env) = eval (.Name x p2) X.env := by rfl) :
    ME (X.suite a ((a, oe) :: pn)) W (.Attribute (.Name x p2) f pos) (mCatR tab k a d i f) := by
  cases hn : tab.elem k with
  | false =>
    refine ⟨fun _ _ _ => False, ⟨fun _ _ _ _ _ _ h => h.elim⟩, fun σ H ρ env sto Q hE hS hP => ?_⟩
    unfold mCatR at hP
    split at hP
    · rw [hn] at hP; exact hP.elim
    · exact hP.elim
  | true =>
    obtain ⟨A, hno⟩ := T k (by simpa using hn) C hk
    refine ⟨_, pe_xf (d := d) ⟨A.ga, A.gg, A.exC, A.hd⟩ hno hz hf (pe_var (X := X.suite a ((a, oe) :: pn)) (i := i) hN hv hd hcd) hb, fun σ H ρ env sto Q hE hS hP => ?_⟩
    unfold mCatR at hP
    split at hP
    · rename_i a' d' ns xs dd e0
      rw [hn] at hP
      replace hP : Post X.K (fun c d h => W c d σ h) H ρ (GV X.K Q) (if a' = a ∧ d' = dd then (match lookP f ns xs with
        | some v => .ok v sto
        | none => .bad) else .bad) := hP
      split at hP
      · rename_i e2
        obtain ⟨rfl, rfl⟩ := e2
        split at hP
        · rename_i v e3
          obtain ⟨w, h1, ys, rfl, ⟨k1, _, _⟩, k4⟩ := hE.2 i _ e0
          obtain ⟨y, h4, h5⟩ := lookP_ok k4 e3
          exact ⟨_, h1, rfl, rfl, d', ns.zip ys, y, rfl, k1, h4, now hS hP h5⟩
        · exact hP.elim
      · exact hP.elim
    · exact hP.elim
end
end Mi

noncomputable section
namespace Mi
open PySem PySem.Spec PyProof.Rows L2

/-! ### a < b < c -/
def mChain (g g' : G2) (ma mb mc : M) : M := fun env s => (ma env s).bind fun x s1 => (mb env s1).bind fun y s2 => (g x y s2).bind fun z s3 => match z with
  | .bl true => (mc env s3).bind fun w s4 => g' y w s4
  | .bl false => .ok (.bl false) s3
  | _ => .bad
section
variable {X : Cx} {W : WK} {a b c : Expr} {ma mb mc : M} {pos : Pos} {g g' : G2} {r r' : R2}
theorem se_chain {ta tb tc : TE} (sa : SE X.K W ta ma) (sb : SE X.K W tb mb) (sc : SE X.K W tc mc) (hg : SR2 X.K r g) (hg' : SR2 X.K r' g') : SE X.K W (tChain r r' ta tb tc) (mChain g g' ma mb mc) := by
  intro σ H ρ env sto Q hE hS hP
  refine sa σ H ρ env sto _ hE hS ((hP.bind hS).imp fun x s1 H1 ρ1 x1 S1 P1 v hv => ?_)
  have E1 := hE.mono x1.toExtW
  refine sb σ H1 ρ1 env s1 _ E1 S1 ((P1.bind S1).imp fun y s2 H2 ρ2 x2 S2 P2 u hu => ?_)
  have E2 := E1.mono x2.toExtW
  refine hg _ H2 ρ2 s2 x y v u _ S2 (hv.mono x2.toExtW) hu ((P2.bind S2).imp fun z s3 H3 ρ3 x3 S3 P3 w hw => ?_)
  split at P3
  · cases hw
    refine ⟨true, rfl, ?_⟩
    rw [if_pos rfl]
    exact sc σ H3 ρ3 env s3 _ (E2.mono x3.toExtW) S3 ((P3.bind S3).imp fun q s4 H4 ρ4 x4 S4 P4 t ht => hg' _ H4 ρ4 s4 y q u t Q S4 ((hu.mono x3.toExtW).mono x4.toExtW) ht P4)
  · cases hw
    refine ⟨false, rfl, ?_⟩
    rw [if_neg Bool.false_ne_true]
    exact now S3 P3 rfl
  · exact P3.elim
theorem e_chain {op op' : CmpOp} (ho : OpR X (compareOp op) r) (hg : SR2 X.K r g) (ho' : OpR X (compareOp op') r') (hg' : SR2 X.K r' g') (ha : ME X W a ma) (hb : ME X W b mb) (hc : ME X W c mc) (hm : lastMarks [op, op'] [b, c] = false := by with_unfolding_all rfl) :
    ME X W (.Compare a [op, op'] [b, c] pos) (mChain g g' ma mb mc) := by
  obtain ⟨ta, pa, sa⟩ := ha
  obtain ⟨tb, pb, sb⟩ := hb
  obtain ⟨tc, pc, sc⟩ := hc
  exact ⟨_, pe_chain ho ho' pa pb pc hm, se_chain sa sb sc hg hg'⟩
theorem t_chain {op op' : CmpOp} (ho : OpR X (compareOp op) r) (hg : SR2 X.K r g) (ho' : OpR X (compareOp op') r') (hg' : SR2 X.K r' g') (ha : ME X W a ma) (hb : ME X W b mb) (hc : ME X W c mc) (hm : lastMarks [op, op'] [b, c] = false := by with_unfolding_all rfl) :
    MTe X W (.Compare a [op, op'] [b, c] pos) (mT (mChain g g' ma mb mc)) := by
  obtain ⟨ta, pa, sa⟩ := ha
  obtain ⟨tb, pb, sb⟩ := hb
  obtain ⟨tc, pc, sc⟩ := hc
  exact ⟨_, pt_chain ho ho' pa pb pc hm, st_test (se_chain sa sb sc hg hg')⟩
end
/-! ### xs.reverse() -/
def mRev (mo : M) : M := fun env s => (mo env s).bind fun o s1 => match o with
  | .box n => match s1[n]? with
    | some (.l xs) => .ok .non (s1.set n (.l xs.reverse))
    | _ => .bad
  | _ => .bad
section
variable {X : Cx} {W : WK} {o : Expr} {mo : M} {p pos : Pos}
theorem e_rev (ho : ME X W o mo) (hbase : attributeBase o "reverse" X.env (eval o X.env) = eval o X.env := by rfl) (hline : (p.endLine == pos.line) = true := by rfl) : ME X W (.Call (.Attribute o "reverse" p) [] [] pos) (mRev mo) := by
  obtain ⟨t, q, s⟩ := ho
  refine ⟨_, pe_bm0 PySem.F.plainAttrs_list PySem.F.slot_list_reverse PySem.F.type_list_reverse mt_reverse q hbase hline, fun σ H ρ env sto Q hE hS hP => ?_⟩
  refine s σ H ρ env sto _ hE hS ((hP.bind hS).imp fun v s1 H1 ρ1 x1 S1 P1 y hy => ?_)
  split at P1
  · rename_i n
    obtain ⟨a, rfl, ha⟩ := hy
    split at P1
    · rename_i xs e1
      obtain ⟨ys, h3, h4⟩ := S1.at_ n a _ ha e1
      obtain ⟨x3, S3⟩ := S1.put ha (S1.lt ha) ⟨_, h3⟩ h4.reverse
      exact ⟨.inl ⟨rfl, ys, .of h3⟩, a, ys, rfl, rfl, h3, P1 _ ρ1 x3 S3 _ rfl⟩
    · exact P1.elim
  · exact P1.elim
end

/-! ### a, b, c = e1, e2, e3 (three plain locals) -/
def sPar3 (i j l : Nat) (ms : MA) : MS := fun env s => (ms env s).fl env fun vs s1 => match vs with
  | [u, v, w] => .nx (((env.set i (some u)).set j (some v)).set l (some w)) s1
  | _ => .bad
theorem s_par3 {X : Cx} {W : WK} {i j l : Nat} {x y z : Str} {a b c : Expr} {ms : MA} {px py pz pt pos : Pos} {kt k2 pt2} (hc : X.calm = true) (hN : X.N.Nodup) (hi : X.N[i]? = some x) (hj : X.N[j]? = some y) (hl : X.N[l]? = some z) (hij : i ≠ j) (hil : i ≠ l) (hjl : j ≠ l)
    (hx : X.env.scope.names.lookup x = some .local) (hy : X.env.scope.names.lookup y = some .local) (hz : X.env.scope.names.lookup z = some .local) (ha : MEs X W [a, b, c] ms) (hw : swappedStores [.Tuple [.Name x px, .Name y py, .Name z pz] kt pt] (.Tuple [a, b, c] k2 pt2) X.env = pure (some [x, y, z]))
    (hs : swapsWithSole [.Tuple [.Name x px, .Name y py, .Name z pz] kt pt] (.Tuple [a, b, c] k2 pt2) pos.line X.env = pure false := by rfl) : MSt X W (.Assign [.Tuple [.Name x px, .Name y py, .Name z pz] kt pt] (.Tuple [a, b, c] k2 pt2) pos) (sPar3 i j l ms) := by
  obtain ⟨t, p, s⟩ := ha
  refine ⟨_, ps_par3 hc hN hi hj hl hij hil hjl hx hy hz p hw hs, fun D σ H ρ env sto h1 h2 h3 => ?_⟩
  refine s σ H ρ env sto _ h1 h2 ((FPost.bind h1 h2 h3).imp fun vs s1 H1 ρ1 x1 S1 P1 ys hys => ?_)
  split at P1
  · obtain ⟨u, _, rfl, r1, hys⟩ := hys
    obtain ⟨v, w, rfl, r2, r3⟩ := hys.two
    exact ⟨u, v, w, rfl, P1 _ H1 ρ1 .refl S1 ((((h1.mono x1.toExtW).set i r1).set j r2).set l r3)⟩
  · exact P1.elim
end Mi

noncomputable section
namespace Mi
open PySem PySem.Spec PyProof.Rows L2

/-! ### in, of tuples and lists of data -/
def rInAny (K : PySem.W.Frag) (f : Bool → Bool) : R2 := fun x y H Q => ∃ d ds, Dp K H x d ∧ (Dp K H y (.list ds) ∨ Dp K H y (.tuple ds)) ∧ SeqAt.shaped d = true ∧ SeqAt.shaped (.list ds) = true ∧ Q (.bl (f (ds.any fun z => PyData.eqv z d))) H
theorem op_inAny {X : Cx} (hu : X.A.units + 65 < cLine) : OpR X (compareOp .In) (rInAny X.K id) := by
  intro pins s σ H x y v u Q I rx ry h
  obtain ⟨d, ds, hd, he, sd, se, q⟩ := h
  obtain ⟨as, r1⟩ := Dp.reads I d x v hd rx
  rcases he with he | he
  · obtain ⟨bs, r2⟩ := Dp.reads I (.list ds) y u he ry
    exact SeqAt.in_list_reads r2 r1 (SeqAt.canLay_of_shaped se) (SeqAt.canLay_of_shaped sd) (room_in_shaped sd hu) ⟨.bl _, H, I, rfl, q⟩
  · obtain ⟨bs, r2⟩ := Dp.reads I (.tuple ds) y u he ry
    exact SeqAt.in_tuple_reads r2 r1 (SeqAt.canLay_of_shaped se) (SeqAt.canLay_of_shaped sd) (room_in_shaped sd hu) ⟨.bl _, H, I, rfl, q⟩
theorem op_notInAny {X : Cx} (hu : X.A.units + 65 < cLine) : OpR X (compareOp .NotIn) (rInAny X.K not) := by
  intro pins s σ H x y v u Q I rx ry h
  obtain ⟨d, ds, hd, he, sd, se, q⟩ := h
  obtain ⟨as, r1⟩ := Dp.reads I d x v hd rx
  rcases he with he | he
  · obtain ⟨bs, r2⟩ := Dp.reads I (.list ds) y u he ry
    exact SeqAt.notIn_list_reads r2 r1 (SeqAt.canLay_of_shaped se) (SeqAt.canLay_of_shaped sd) (room_in_shaped sd hu) ⟨.bl _, H, I, rfl, q⟩
  · obtain ⟨bs, r2⟩ := Dp.reads I (.tuple ds) y u he ry
    exact SeqAt.notIn_tuple_reads r2 r1 (SeqAt.canLay_of_shaped se) (SeqAt.canLay_of_shaped sd) (room_in_shaped sd hu) ⟨.bl _, H, I, rfl, q⟩
def itemsD : PyData → Option (List PyData)
  | .list ds => some ds
  | .tuple ds => some ds
  | _ => none
def gIn (f : Bool → Bool) : G2 := fun x y s => match toD s x, toD s y with
  | some d, some e => match itemsD e with
    | some ds => bif SeqAt.shaped d && SeqAt.shaped (.list ds) then .ok (.bl (f (ds.any fun z => PyData.eqv z d))) s else .bad
    | none => .bad
  | _, _ => .bad
theorem g_in {K : PySem.W.Frag} {f : Bool → Bool} : SR2 K (rInAny K f) (gIn f) := by
  intro WP H ρ sto x y v u Q S rx ry P
  unfold gIn at P
  split at P
  · rename_i d e h1 h2
    split at P
    · rename_i ds h3
      obtain ⟨hc, P⟩ := and_of (C := Post K WP H ρ (GV K Q)) P (fun z => z)
      rw [Bool.and_eq_true] at hc
      refine ⟨d, ds, toD_ok rx h1, ?_, hc.1, hc.2, now S P rfl⟩
      have q := toD_ok ry h2
      cases e <;> first | (cases h3; exact .inl q) | (cases h3; exact .inr q) | cases h3
    · exact P.elim
  · exact P.elim
section
variable {X : Cx} {W : WK} {a b : Expr} {ma mb : M} {pos : Pos}
theorem e_in (hu : X.A.units + 65 < cLine) (ha : ME X W a ma) (hb : ME X W b mb) (hm : behindInMarks .In b = false := by rfl) : ME X W (.Compare a [.In] [b] pos) (mBin (gIn id) ma mb) := e_cmp (op_inAny hu) g_in ha hb hm
theorem e_notin (hu : X.A.units + 65 < cLine) (ha : ME X W a ma) (hb : ME X W b mb) (hm : behindInMarks .NotIn b = false := by rfl) : ME X W (.Compare a [.NotIn] [b] pos) (mBin (gIn not) ma mb) := e_cmp (op_notInAny hu) g_in ha hb hm
theorem t_in (hu : X.A.units + 65 < cLine) (ha : ME X W a ma) (hb : ME X W b mb) (hm : behindInMarks .In b = false := by rfl) : MTe X W (.Compare a [.In] [b] pos) (mT (mBin (gIn id) ma mb)) := t_cmp (op_inAny hu) g_in ha hb hm
theorem t_notin (hu : X.A.units + 65 < cLine) (ha : ME X W a ma) (hb : ME X W b mb) (hm : behindInMarks .NotIn b = false := by rfl) : MTe X W (.Compare a [.NotIn] [b] pos) (mT (mBin (gIn not) ma mb)) := t_cmp (op_notInAny hu) g_in ha hb hm
end

/-! ### xs.extend(ys) -/
def mExt (mo m : M) : M := fun env s => (mo env s).bind fun o s1 => match o with
  | .box n => match lsO s1[n]? with
    | some _ => (m env s1).bind fun v s2 => match s2[n]?, getL s2 v with
      | some (.l xs), some zs => bif Nat.ble (xs.length + zs.length) sizeLine then .ok .non (s2.set n (.l (xs ++ zs))) else .bad
      | _, _ => .bad
    | none => .bad
  | _ => .bad
section
variable {X : Cx} {W : WK} {o e : Expr} {m mo : M} {pos p p2 p3 : Pos}
theorem e_ext (ho : ME X W o mo) (he : ME X W e m) (hbase : attributeBase o "extend" X.env (eval o X.env) = eval o X.env := by rfl)
    (hfew : ((backTo pos (starEach [e] X.env)).all (fun x => !x.1) && (backToKw pos (keywordEach [] X.env)).all (fun x => x.1.isSome) && decide (([e] : List Expr).length + ([] : List Keyword).length + (if ([] : List Keyword).isEmpty then 0 else 1) < 30)) = true := by rfl)
    (hline : (p.endLine == pos.line) = true := by rfl) (hs : starEach [e] X.env = (false, eval e X.env) :: starEach [] X.env := by rfl) (hplain : (backTo pos (starEach [] X.env)).any (·.1) = false := by rfl) : ME X W (.Call (.Attribute o "extend" p) [e] [] pos) (mExt mo m) := by
  obtain ⟨t, q, s⟩ := ho
  obtain ⟨u, r, z⟩ := he
  refine ⟨_, pe_bm PySem.F.plainAttrs_list PySem.F.slot_list_extend PySem.F.type_list_extend mt_extend q (pa_cons r pa_nil hs) hbase hfew hline hs hplain, fun σ H ρ env sto Q hE hS hP => ?_⟩
  refine s σ H ρ env sto _ hE hS ((hP.bind hS).imp fun v s1 H1 ρ1 x1 S1 P1 y hy => ?_)
  split at P1
  · rename_i n
    obtain ⟨a, rfl, ha⟩ := hy
    cases e0 : lsO s1[n]? with
    | none => rw [e0] at P1; exact P1.elim
    | some zs0 =>
    rw [e0] at P1
    obtain ⟨ys0, h30, _⟩ := S1.at_ n a _ ha (lsO_ok e0)
    refine ⟨.inl ⟨rfl, ys0, .of h30⟩, z σ H1 ρ1 env s1 _ (hE.mono x1.toExtW) S1 ((P1.bind S1).imp fun w s2 H2 ρ2 x2 S2 P2 y2 hy2 => ?_)⟩
    split at P2
    · rename_i xs zs e1 e2
      obtain ⟨hz, P2⟩ := ble_of (C := Post X.K _ H2 ρ2 (GV X.K Q)) P2 (fun z => z)
      have ha2 := bx_keep x2.toExtW ha
      obtain ⟨ys, h3, h4⟩ := S2.at_ n a _ ha2 e1
      obtain ⟨b, us, rfl, h5, h6⟩ := getL_ok S2 hy2 e2
      obtain ⟨x3, S3⟩ := S2.put ha2 (S2.lt ha2) ⟨_, h3⟩ (h4.append h6)
      exact ⟨a, b, ys, us, rfl, rfl, h3, h5, by rw [← h4.length, ← h6.length]; exact hz, P2 _ ρ2 x3 S3 _ rfl⟩
    · exact P2.elim
  · exact P1.elim
end

/-! ### f(b=.., a=..): by name, in any order -/
def pick {α : Type} (ix : List Nat) (l : List α) : List α := ix.filterMap (l[·]?)
theorem RVs.pick {K : PySem.W.Frag} {H : Hp} {ρ : Rh} {vs : List PV} {us : List V} (r : RVs K H ρ vs us) : ∀ ix : List Nat, RVs K H ρ (Mi.pick ix vs) (Mi.pick ix us)
  | [] => .nil
  | i :: ix => by
    unfold Mi.pick
    rw [List.filterMap_cons, List.filterMap_cons]
    cases e : vs[i]? with
    | some x =>
      obtain ⟨y, h1, h2⟩ := r.get e
      rw [h1]
      exact .cons h2 (RVs.pick r ix)
    | none =>
      have q : us[i]? = none := by rw [List.getElem?_eq_none_iff, ← r.length]; exact List.getElem?_eq_none_iff.mp e
      rw [q]
      exact RVs.pick r ix
theorem vals_at {vs : List V} {us : List Value} (r : Vals vs us) (i : Nat) : (∃ v u, vs[i]? = some v ∧ us[i]? = some u ∧ RelV v u) ∨ (vs[i]? = none ∧ us[i]? = none) := by
  cases e : vs[i]? with
  | some v =>
    obtain ⟨u, h1, h2⟩ := r.get e
    exact .inl ⟨v, u, rfl, h1, h2⟩
  | none => exact .inr ⟨rfl, by rw [List.getElem?_eq_none_iff, ← r.length]; exact List.getElem?_eq_none_iff.mp e⟩
theorem vals_pick {vs : List V} {us : List Value} (r : Vals vs us) : ∀ ix : List Nat, Vals (pick ix vs) (pick ix us)
  | [] => .nil
  | i :: ix => by
    unfold pick
    rw [List.filterMap_cons, List.filterMap_cons]
    rcases vals_at r i with ⟨v, u, h1, h2, h3⟩ | ⟨h1, h2⟩
    · rw [h1, h2]; exact .cons h3 (vals_pick r ix)
    · rw [h1, h2]; exact vals_pick r ix
def mCallP (ix : List Nat) (n : Nat) (run : GC) (mk : MA) : M := fun env s => (mk env s).bind fun vs s1 => bif Nat.beq vs.length ix.length then ar n run (pick ix vs) s1 else .bad
section
variable {X : Cx} {W : WK} {k : Nat} {f : Addr} {fd : FuncData} {ps ks : List Str} {run : GC} {x : Str} {mk : MA} {p pos : Pos} {kws : List Keyword}
theorem e_callP (ix : List Nat) (F : FOk X.prog X.w X.K X.mg X.base k f fd ps run) (hr : Room k X.A) (tk : Takes X W) (hg : Gl X x) (hm : X.mg x = some (.ref f)) (hk : PySem.W.keepIn X.K (.ref f) = true)
    (hb : ∀ (s : Shared) (ws : List Value), ws.length = ix.length → BindsTo s fd ⟨[], ks.zip ws⟩ (ps.zip (pick ix ws))) (ha : MKs X W kws mk) {n : Nat} (hn : ps.length = n := by rfl)
    (hall : (backToKw pos (keywordEach kws X.env)).all (·.1.isSome) = true := by rfl) (hks : (backToKw pos (keywordEach kws X.env)).filterMap (·.1) = ks := by rfl) (hdb : (x == ("__debug__" : Str)) = false := by decide)
    (hpl : ((backTo pos (starEach [] X.env)).any (·.1) || (backToKw pos (keywordEach kws X.env)).any (·.1.isNone)) = false := by rfl) : ME X W (.Call (.Name x p) [] kws pos) (mCallP ix n run mk) := by
  subst hn
  obtain ⟨t, q, s⟩ := ha
  refine ⟨fun σ H Q => t σ H fun vs H1 => vs.length = ix.length ∧ spF X.K ps.length run (pick ix vs) H1 Q (WE W σ), ⟨fun pins st σ H Q I h => ?_⟩, fun σ H ρ env sto Q hE hS hP => ?_⟩
  · refine wpAny_Call_Name_kw (ld_glob I hg hm ?_ hdb)
    refine PySem.W.callWith_KW0 (h₀ := X.base) I.ok.mod.kin hk hall (thn (q.run pos pins st σ H _ I h) ?_) hpl
    intro us s1 z
    obtain ⟨vs, H1, I1, r, hz, q1⟩ := z
    refine ⟨I1.kIn, ?_⟩
    rw [hks]
    have r2 := vals_pick r ix
    have hl : us.length = ix.length := r.length.symm.trans hz
    refine wpAny_call (codeAny_mono (F.run X.A X.stack s1 H1 ⟨[], ks.zip us⟩ (pick ix us) (pick ix vs) Q (WE W σ) hr I1.env0 (hb s1 us hl) r2 q1) fun r' s' z => ?_)
    match r', z with
    | .error er, z => exact passAt tk σ pins _ _ er s' I1 z
    | .ok (.ret u), z => exact I1.after z
    | .ok .next, z => exact z.elim
    | .ok .brk, z => exact z.elim
    | .ok .cont, z => exact z.elim
  · refine s σ H ρ env sto _ hE hS ((hP.bind hS).imp fun v s1 H1 ρ1 x1 S1 P1 ys hys => ?_)
    obtain ⟨hz, P1⟩ := and_of (C := Post X.K _ H1 ρ1 (GV X.K Q)) P1 (fun z => z)
    have hz : v.length = ix.length := Nat.eq_of_beq_eq_true hz
    unfold ar at P1
    cases q : Nat.beq (pick ix v).length ps.length with
    | false => rw [q] at P1; exact P1.elim
    | true =>
      rw [q] at P1
      have r2 := hys.pick ix
      exact ⟨hys.length.symm.trans hz, by rw [← r2.length]; exact Nat.eq_of_beq_eq_true q, _, ρ1, s1, r2, S1, P1⟩
end

/-! ### a value that is a def, called without arguments -/
inductive FnTab (X : Cx) (k : Nat) : List (Nat × GC) → Prop
  | nil : FnTab X k []
  | cons {t : Nat} {run : GC} {f : Addr} {fd : FuncData} {y : Str} {l : List (Nat × GC)} (F : FOk X.prog X.w X.K X.mg X.base k f fd [] run) (hh : hofs[t]? = some y) (hn : PySem.W.nsIn X.K mainGlobals y = some (some (.ref f))) (hk : PySem.W.keepIn X.K (.ref f) = true) (hb : Binds X.K fd [] []) (r : FnTab X k l) : FnTab X k ((t, run) :: l)
theorem FnTab.find {X : Cx} {k : Nat} {t : Nat} {run : GC} : ∀ {l : List (Nat × GC)}, FnTab X k l → l.lookup t = some run → ∃ (f : Addr) (fd : FuncData) (y : Str), FOk X.prog X.w X.K X.mg X.base k f fd [] run ∧ hofs[t]? = some y ∧ PySem.W.nsIn X.K mainGlobals y = some (some (.ref f)) ∧ PySem.W.keepIn X.K (.ref f) = true ∧ Binds X.K fd [] []
  | _, .nil, h => by cases h
  | _, .cons (t := t') (run := run') (l := l) F hh hn hk hb r, h => by
    by_cases e : t = t'
    · subst e
      rw [List.lookup_cons_self] at h
      cases h
      exact ⟨_, _, _, F, hh, hn, hk, hb⟩
    · have e' : (t == t') = false := by simpa using e
      simp only [List.lookup, e'] at h
      exact r.find h
def mCallT (tab : List (Nat × GC)) (m : M) : M := fun env s => (m env s).bind fun v s1 => match v with
  | .fn t => match tab.lookup t with
    | some run => run [] s1
    | none => .bad
  | _ => .bad
section
variable {X : Cx} {W : WK} {k : Nat} {fe : Expr} {m : M} {pos : Pos}
theorem e_callT {tab : List (Nat × GC)} (T : FnTab X k tab) (hr : Room k X.A) (tk : Takes X W) (h : ME X W fe m) (hc : eval (.Call fe [] [] pos) X.env = (do callWith pos (← eval fe X.env) [] (backTo pos (starEach [] X.env)) (backToKw pos (keywordEach [] X.env))) := by rfl) : ME X W (.Call fe [] [] pos) (mCallT tab m) := by
  obtain ⟨t, q, s⟩ := h
  refine ⟨fun σ H Q => t σ H fun v H1 => ∃ f fd run, v = .ref f ∧ FOk X.prog X.w X.K X.mg X.base k f fd [] run ∧ PySem.W.keepIn X.K (.ref f) = true ∧ Binds X.K fd [] [] ∧ spF X.K 0 run [] H1 Q (WE W σ), ⟨fun pins st σ H Q I h => ?_⟩, fun σ H ρ env sto Q hE hS hP => ?_⟩
  · rw [hc]
    refine wpAny_bind (thn (q.run pins st σ H _ I h) ?_)
    intro u s1 z
    obtain ⟨v, H1, I1, r, f, fd, run, ev, F, hk, hb, q1⟩ := z
    subst ev
    cases r
    exact PySem.W.callWith_K0 I1.kIn hk (run_fnS (E := WE W) (us := []) (vs := []) F hr hb (passAt tk σ) I1 .nil q1)
  · refine s σ H ρ env sto _ hE hS ((hP.bind hS).imp fun v s1 H1 ρ1 x1 S1 P1 y hy => ?_)
    split at P1
    · rename_i t
      split at P1
      · rename_i run e
        obtain ⟨f, fd, z, F, h1, h2, h3, h4⟩ := T.find e
        obtain ⟨z', f', k1, k2, rfl⟩ := hy
        rw [h1] at k1; cases k1
        rw [h2] at k2; cases k2
        exact ⟨f, fd, run, rfl, F, h3, h4, rfl, [], ρ1, s1, rfl, S1, P1⟩
      · exact P1.elim
    · exact P1.elim
end

/-! ### isinstance of the caught one, with fields or without -/
theorem hu65 {A : Around} {k : Nat} (hr : Room k A) : A.units + 65 < cLine := by
  have := hr.un
  omega
section
variable {X : Cx} {W : WK} {a C : Addr} {oe : Obj} {d : Option Addr} {pn : List (Addr × Obj)} {c : Expr} {p p2 pos : Pos}
theorem cr_isR {cV : V} {cv : Value} {b : Bool} (Kk : OxK X.K) (A : OxA X.K C) (hz : Zc (.ref C) d oe) (hf : ∃ vs, oe.data = .fields vs) (hcv : ∀ u, RelV cV u → u = cv) (k : PySem.W.kitOne X.K (.ref C) cv = some b) :
    CallR (X.suite a ((a, oe) :: pn)) (.builtin "isinstance") (fun vs H Q => vs = [.ref a, cV] ∧ (∀ dx, d = some dx → ∃ fs, H dx = some (.xd fs)) ∧ Q (.bl b) H) := by
  intro pins s σ H vs us Q I r h
  obtain ⟨rfl, hd, q⟩ := h
  obtain ⟨u1, u2, rfl, r1, r2⟩ := vals2 r
  obtain rfl : u1 = Value.ref a := r1
  have e2 := hcv _ r2
  subst e2
  obtain ⟨hget, _⟩ := I.pin (a, oe) (List.mem_append_left _ List.mem_cons_self)
  obtain ⟨vs, hv⟩ := hf
  have J : ∃ od, PySem.W.InstAt s.heap a oe C od := by
    have nc : PySem.W.notCls oe := by unfold PySem.W.notCls; rw [hv] <;> rfl
    cases d with
    | none => exact ⟨none, hget, hz.1, nc, by rw [hz.2]; trivial⟩
    | some dx =>
      obtain ⟨fs, hx⟩ := hd dx rfl
      obtain ⟨mA, hns, _⟩ := (show ObjOk X.prog X.w H s.heap dx (.xd fs) from I.hok dx _ hx)
      obtain ⟨od, ho, _⟩ := lookIn_ns hns
      exact ⟨some od, hget, hz.1, nc, by rw [hz.2]; exact ho⟩
  obtain ⟨od, J⟩ := J
  have hcl : (PySem.W.clsIn X.K C).isSome = true := by
    obtain ⟨cd, hcd, _⟩ := PySem.W.any_some (show (PySem.W.clsIn X.K C).any (·.hasDict) = true from A.hd)
    rw [hcd]; rfl
  exact PySem.W.kia_one (PySem.W.kitx_exc hcl A.ga A.gg A.exC A.cl Kk.gs Kk.tk A.ob) I.kIn J k (fun z => nomatch z) fun t => ⟨.bl b, H, I.tok t, rfl, q⟩
/-- d: the dict that goes with the class -/
def mIsQ (a : Addr) (d : Option Addr) (i : Nat) (ob : Option Bool) : M := fun env s => match env[i]?, d with
  | some (some (.obj a')), none => if a' = a then (match ob with
    | some b => .ok (.bl b) s
    | none => .bad) else .bad
  | some (some (.cat a' d' _ _)), some dx => if a' = a ∧ d' = dx then (match ob with
    | some b => .ok (.bl b) s
    | none => .bad) else .bad
  | _, _ => .bad
theorem isQ_put {e : Exn} {i : Nat} {ob : Option Bool} {env : Env} {s : Sto} (hl : i < env.length) : mIsQ a d i ob (env.set i (some (caughtV a d e))) s = mIsD ob (env.set i none) s := by
  unfold mIsQ mIsD
  rw [List.getElem?_set_self hl]
  cases d <;> cases ob <;> simp [caughtV]
theorem e_isR {n : Str} {i : Nat} {tab : List (Str × Bool)} {cV : V} {cv : Value} {x : Str} (hn : PySem.W.nsIn X.K mainGlobals n = some (some (.ref C))) (Kk : OxK X.K) (T : IsTab X.K cv tab) (hz : Zc (.ref C) d oe) (hf : ∃ vs, oe.data = .fields vs)
    (gl : Gl (X.suite a ((a, oe) :: pn)) "isinstance") (hm : X.mg "isinstance" = none) (hc : PE (X.suite a ((a, oe) :: pn)) c (tC cV)) (hcv : ∀ u, RelV cV u → u = cv) (hN : X.N[i]? = some x) (hv : Vis X.env.scope x)
    (hd : (x == ("__debug__" : Str)) = false := by decide) (hcd : (x == ("__classdict__" : Str)) = false := by decide)
    (he : starEach [.Name x p2, c] X.env = (false, eval (.Name x p2) X.env) :: starEach [c] X.env := by rfl) (he2 : starEach [c] X.env = (false, eval c X.env) :: starEach [] X.env := by rfl) (hpl : (backTo pos (starEach [c] X.env)).any (·.1) = false := by rfl) :
    ME (X.suite a ((a, oe) :: pn)) W (.Call (.Name "isinstance" p) [.Name x p2, c] [] pos) (mIsQ a d i (tab.lookup n)) := by
  cases l : tab.lookup n with
  | none =>
    refine ⟨fun _ _ _ => False, ⟨fun _ _ _ _ _ _ h => h.elim⟩, fun σ H ρ env sto Q hE hS hP => ?_⟩
    unfold mIsQ at hP
    split at hP
    · split at hP <;> exact hP.elim
    · split at hP <;> exact hP.elim
    · exact hP.elim
  | some b =>
    obtain ⟨A, k⟩ := T n b l C hn
    refine ⟨_, pe_callB (cr_isR (d := d) Kk A hz hf hcv k) gl hm (by decide +kernel) (pa_cons (pe_var (i := i) hN hv hd hcd) (pa_cons hc pa_nil he2) he) (by decide) (by decide) he hpl, fun σ H ρ env sto Q hE hS hP => ?_⟩
    unfold mIsQ at hP
    split at hP
    · rename_i a' e
      split at hP
      · rename_i e2
        subst e2
        obtain ⟨v, h1, h2⟩ := hE.2 i _ e
        cases h2
        exact ⟨_, h1, rfl, (fun dx z => by cases z), hP H ρ .refl hS _ rfl⟩
      · exact hP.elim
    · rename_i a' d' ns xs dx e
      split at hP
      · rename_i e2
        obtain ⟨rfl, rfl⟩ := e2
        obtain ⟨v, h1, ys, rfl, ⟨k1, _, _⟩, _⟩ := hE.2 i _ e
        exact ⟨_, h1, rfl, (fun dx z => by cases z; exact ⟨_, k1⟩), hP H ρ .refl hS _ rfl⟩
      · exact hP.elim
    · exact hP.elim
end
end Mi

noncomputable section
namespace Mi
open PySem PySem.Spec PyProof.Rows L2

/-! ### a call in an empty store: arguments without handles, an answer without lists -/
mutual
def noBox : PV → Bool
  | .box _ => false
  | .tup xs => noBoxes xs
  | .lst xs => noBoxes xs
  | .fro xs => noBoxes xs
  | .exc _ _ xs => noBoxes xs
  | .cat _ _ _ xs => noBoxes xs
  | .non => true
  | .bl _ => true
  | .int _ => true
  | .str _ => true
  | .ty _ => true
  | .obj _ => true
  | .fn _ => true
  | .rg _ _ => true
def noBoxes : List PV → Bool
  | [] => true
  | x :: xs => bif noBox x then noBoxes xs else false
end
mutual
/-- flat values and tuples of them -/
def tupOnly : PV → Bool
  | .tup xs => tupsOnly xs
  | .non => true
  | .bl _ => true
  | .int _ => true
  | .str _ => true
  | .ty _ => true
  | .obj _ => false
  | .fn _ => true
  | .box _ => false
  | .lst _ => false
  | .fro _ => false
  | .exc _ _ _ => false
  | .rg _ _ => false
  | .cat _ _ _ _ => false
def tupsOnly : List PV → Bool
  | [] => true
  | x :: xs => bif tupOnly x then tupsOnly xs else false
end
theorem bif_and {a b : Bool} (h : (bif a then b else false) = true) : a = true ∧ b = true := by
  cases a with
  | true => exact ⟨rfl, h⟩
  | false => cases h
section
variable {K : PySem.W.Frag} {H : Hp} {b r : List Addr} {g : Addr}
mutual
theorem RV.clear : ∀ {p : PV} {v : V}, noBox p = true → RV K H ⟨b, r, g⟩ p v → RV K H ⟨[], r, g⟩ p v
  | .non, _, _, h => h
  | .bl _, _, _, h => h
  | .int _, _, _, h => h
  | .str _, _, _, h => h
  | .ty _, _, _, h => h
  | .obj _, _, _, h => h
  | .fn _, _, _, h => h
  | .box _, _, n, _ => by cases n
  | .cat a dx ns xs, _, n, h => by
    obtain ⟨ys, h1, ⟨k1, k2, k3⟩, h3⟩ := h
    exact ⟨ys, h1, ⟨k1, by simp, k3⟩, RVs.clear n h3⟩
  | .tup xs, _, n, h => by
    obtain ⟨a, ys, h1, h2, h3⟩ := h
    exact ⟨a, ys, h1, h2.imp (fun q => ⟨q.1, by simp, q.2.2⟩) id, RVs.clear n h3⟩
  | .lst xs, _, n, h => by
    obtain ⟨a, ys, h1, h2, h3⟩ := h
    exact ⟨a, ys, h1, ⟨h2.1, by simp, h2.2.2⟩, RVs.clear n h3⟩
  | .fro xs, _, n, h => by
    obtain ⟨a, ys, h1, h2, h3⟩ := h
    exact ⟨a, ys, h1, h2.imp (fun q => ⟨q.1, by simp, q.2.2⟩) id, RVs.clear n h3⟩
  | .exc C ns xs, _, n, h => by
    obtain ⟨a, ys, h1, ⟨q1, q2, C, hc, q3⟩, h3⟩ := h
    refine ⟨a, ys, h1, ⟨by simp, q2, C, hc, ?_⟩, RVs.clear n h3⟩
    rcases q3 with h | ⟨dx, dn, dm, h⟩
    · exact .inl h
    · exact .inr ⟨dx, by simp, dm, h⟩
  | .rg lo hi, _, n, h => by
    obtain ⟨a, h1, h2, q1, q2⟩ := h
    exact ⟨a, h1, h2, by simp, q2⟩
theorem RVs.clear : ∀ {p : List PV} {v : List V}, noBoxes p = true → RVs K H ⟨b, r, g⟩ p v → RVs K H ⟨[], r, g⟩ p v
  | [], _, _, h => h
  | x :: xs, _, n, h => by
    obtain ⟨v, ws, h1, h2, h3⟩ := h
    obtain ⟨n1, n2⟩ := bif_and n
    exact ⟨v, ws, h1, RV.clear n1 h2, RVs.clear n2 h3⟩
end
mutual
/-- back: a tuple is none of the handles -/
theorem RV.back {ρ' : Rh} (hb : ∀ a ys, H a = some (.tup ys) → a ∉ b) (hr : ∀ a, a ∈ r → a ∈ ρ'.rs) : ∀ {p : PV} {v : V}, tupOnly p = true → RV K H ρ' p v → RV K H ⟨b, r, g⟩ p v
  | .non, _, _, h => h
  | .bl _, _, _, h => h
  | .int _, _, _, h => h
  | .str _, _, _, h => h
  | .ty _, _, _, h => h
  | .fn _, _, _, h => h
  | .obj _, _, n, _ => by cases n
  | .box _, _, n, _ => by cases n
  | .lst _, _, n, _ => by cases n
  | .fro _, _, n, _ => by cases n
  | .exc _ _ _, _, n, _ => by cases n
  | .rg _ _, _, n, _ => by cases n
  | .cat _ _ _ _, _, n, _ => by cases n
  | .tup xs, _, n, h => by
    obtain ⟨a, ys, h1, h2, h3⟩ := h
    exact ⟨a, ys, h1, h2.imp (fun q => ⟨q.1, hb a ys q.1, fun z => q.2.2 (hr a z)⟩) id, RVs.back hb hr n h3⟩
theorem RVs.back {ρ' : Rh} (hb : ∀ a ys, H a = some (.tup ys) → a ∉ b) (hr : ∀ a, a ∈ r → a ∈ ρ'.rs) : ∀ {p : List PV} {v : List V}, tupsOnly p = true → RVs K H ρ' p v → RVs K H ⟨b, r, g⟩ p v
  | [], _, _, h => h
  | x :: xs, _, n, h => by
    obtain ⟨v, ws, h1, h2, h3⟩ := h
    obtain ⟨n1, n2⟩ := bif_and n
    exact ⟨v, ws, h1, RV.back hb hr n1 h2, RVs.back hb hr n2 h3⟩
end
end
def mbH : HO → Bool
  | .lst _ => true
  | .dK _ => true
  | .dT _ => true
  | .ins _ _ _ => true
  | .frz _ _ => true
  | _ => false
def afresh (run : GC) : GC := fun vs s => bif noBoxes vs then (match run vs [] with
  | .ok v _ => bif tupOnly v then .ok v s else .bad
  | .ex e _ => bif tupsOnly (e.flds.map (·.2)) then .ex e s else .bad
  | .bad => .bad) else run vs s
section
variable {K : PySem.W.Frag} {H H' : Hp} {ρ ρ' : Rh} {sto : Sto}
theorem rb_mut {K : PySem.W.Frag} {H : Hp} {ρ : Rh} {a : Addr} : ∀ {b : Bx}, RB K H ρ a b → ∃ o, H a = some o ∧ mbH o = true
  | .l _, ⟨ys, h1, _⟩ => ⟨_, h1, rfl⟩
  | .d _, ⟨ys, h1, _⟩ => ⟨_, h1, rfl⟩
  | .e _, ⟨ys, h1, _⟩ => ⟨_, h1, rfl⟩
  | .i _ _, ⟨_, _, _, _, fs, h1, _⟩ => ⟨_, h1, rfl⟩
  | .y _, ⟨_, _, h1, _⟩ => ⟨_, h1, rfl⟩
  | .z _, ⟨_, _, h1, _⟩ => ⟨_, h1, rfl⟩
theorem clr_ext (S : RSt K H ρ sto) (x : Ext ⟨[], ρ.rs, ρ.cg⟩ H ρ' H') : Ext ρ H ρ H' ∧ (∀ a ∈ ρ.bx, H' a = H a) := by
  have kept : ∀ a ∈ ρ.bx, ∃ o, H a = some o ∧ H' a = some o ∧ mbH o = true := fun a ha => by
    obtain ⟨n, hn⟩ := List.mem_iff_getElem?.mp ha
    have hlt := S.lt hn
    obtain ⟨o, h1, h2⟩ := rb_mut (S.at_ n a _ hn (List.getElem?_eq_getElem hlt))
    exact ⟨o, h1, x.keep a o h1 (by simp) (fun z => (S.rsv a z).2 ha), h2⟩
  refine ⟨⟨⟨⟨[], by simp, by simp⟩, rs_refl, fun a o h _ hr => x.keep a o h (by simp) hr, x.has, fun a o ha h => ?_⟩, rfl, fun a ha _ => x.res a ha (by simp)⟩, fun a ha => ?_⟩
  · obtain ⟨o', h1, h2, _⟩ := kept a ha
    rw [h] at h1; cases h1
    exact ⟨o, h2, alike_refl o⟩
  · obtain ⟨o', h1, h2, _⟩ := kept a ha
    rw [h1, h2]
theorem clr_notup (S : RSt K H ρ sto) (k : ∀ a ∈ ρ.bx, H' a = H a) {a : Addr} {o : HO} (h : H' a = some o) (ho : mbH o = false) : a ∉ ρ.bx := fun ha => by
  obtain ⟨n, hn⟩ := List.mem_iff_getElem?.mp ha
  have hlt := S.lt hn
  obtain ⟨o', h1, h2⟩ := rb_mut (S.at_ n a _ hn (List.getElem?_eq_getElem hlt))
  have q := (k a ha).symm.trans h
  rw [h1] at q; cases q
  rw [ho] at h2; cases h2
theorem fok_afresh {P : Program} {w : World} {mg : Str → Option Value} {base : Heap} {k : Nat} {f : Addr} {fd : FuncData} {ps : List Str} {run : GC} (F : FOk P w K mg base k f fd ps run) : FOk P w K mg base k f fd ps (afresh run) :=
  FnOk.imp F fun vs H Q E h => by
    obtain ⟨hl, args, ρ, sto, r, S, P1⟩ := h
    refine ⟨hl, ?_⟩
    cases hb : noBoxes args with
    | false =>
      unfold afresh at P1
      rw [hb] at P1
      exact ⟨args, ρ, sto, r, S, P1⟩
    | true =>
      unfold afresh at P1
      rw [hb] at P1
      dsimp only [cond] at P1
      refine ⟨args, ⟨[], ρ.rs, ρ.cg⟩, [], RVs.clear (b := ρ.bx) hb r, ⟨.nil, rfl, fun n a b e => by simp at e, fun a ha => ⟨(S.rsv a ha).1, by simp⟩, fun a ha => ⟨(S.tb a ha).1, by simp, (S.tb a ha).2.2⟩⟩, ?_⟩
      cases q : run args [] with
      | bad => rw [q] at P1; exact P1.elim
      | ok v s' =>
        rw [q] at P1
        obtain ⟨ht, P1⟩ := and_of (C := Post K E H ρ (GV K Q)) P1 (fun z => z)
        intro H' ρ' x _ z hz
        obtain ⟨x2, kk⟩ := clr_ext S x
        exact P1 H' ρ x2 (S.mono' x2 kk) z (RV.back (b := ρ.bx) (r := ρ.rs) (g := ρ.cg) (fun a ys h => clr_notup S kk h rfl) (fun a ha => by rw [x.rse]; exact ha) ht hz)
      | ex e s' =>
        rw [q] at P1
        obtain ⟨ht, P1⟩ := and_of (C := Post K E H ρ (GV K Q)) P1 (fun z => z)
        intro cls d H' ρ' x _ R
        obtain ⟨x2, kk⟩ := clr_ext S x
        refine P1 cls d H' ρ x2 (S.mono' x2 kk) ⟨R.1, ?_⟩
        have R2 := R.2
        cases d with
        | none => exact R2
        | some d =>
          obtain ⟨h0, fs, h1, h2, h3, h4, h5⟩ := R2
          exact ⟨h0, fs, h1, clr_notup S kk h1 rfl, fun z => h3 (by rw [x.rse]; exact z), h4, RVs.back (b := ρ.bx) (r := ρ.rs) (g := ρ.cg) (fun a ys h => clr_notup S kk h rfl) (fun a ha => by rw [x.rse]; exact ha) ht h5⟩
end
end Mi

noncomputable section
namespace Mi
open PySem PySem.Spec PyProof.Rows L2

/-! ### what no run reaches: the meaning says nothing -/
def mBad : M := fun _ _ => .bad
def tBad : MT := fun _ _ => .bad
def sBad : MS := fun _ _ => .bad
section
variable {X : Cx} {W : WK} {e : Expr} {st : Stmt} {sts : List Stmt}
theorem e_bad : ME X W e mBad := ⟨fun _ _ _ => False, ⟨fun _ _ _ _ _ _ h => h.elim⟩, fun _ _ _ _ _ _ _ _ h => h.elim⟩
theorem t_bad : MTe X W e tBad := ⟨fun _ _ _ => False, ⟨fun _ _ _ _ _ _ h => h.elim⟩, fun _ _ _ _ _ _ _ _ h => h.elim⟩
theorem s_bad : MSt X W st sBad := ⟨fun _ _ _ => False, ⟨fun _ _ _ _ _ _ h => h.elim⟩, fun _ _ _ _ _ _ _ _ h => h.elim⟩
theorem ss_bad : MSs X W sts sBad := ⟨fun _ _ _ => False, ⟨fun _ _ _ _ _ _ h => h.elim⟩, fun _ _ _ _ _ _ _ _ h => h.elim⟩
end

/-! ### instances: fields -/
def luN {α : Type} : List (Nat × α) → Nat → Option α
  | [], _ => none
  | p :: r, n => bif Nat.beq p.1 n then some p.2 else luN r n
theorem luN_cons {α : Type} {p : Nat × α} {r : List (Nat × α)} {n : Nat} {a : α} (h : luN (p :: r) n = some a) : (p.1 = n ∧ p.2 = a) ∨ luN r n = some a := by
  unfold luN at h
  cases q : Nat.beq p.1 n with
  | true => rw [q] at h; cases h; exact .inl ⟨Nat.eq_of_beq_eq_true q, rfl⟩
  | false => rw [q] at h; exact .inr h
theorem slotOf_at {f : Str} : ∀ {sl : List Str} {xs : List (Option PV)} {i : Nat}, sl.Nodup → sl[i]? = some f → slotOf sl xs f = (xs[i]?).join
  | [], _, _, _, h => by simp at h
  | g :: gs, [], i, _, _ => by simp [slotOf]
  | g :: gs, x :: xs, 0, _, h => by
    simp at h
    subst h
    simp [slotOf]
  | g :: gs, x :: xs, i + 1, nd, h => by
    have hm : f ∈ gs := List.mem_of_getElem? (by simpa using h)
    have ne : g ≠ f := fun q => (List.nodup_cons.mp nd).1 (q ▸ hm)
    have ih := slotOf_at (xs := xs) (List.nodup_cons.mp nd).2 (show gs[i]? = some f by simpa using h)
    unfold slotOf
    rw [if_neg ne, ih]
    simp
theorem slotOf_no {f : Str} : ∀ {sl : List Str} {xs : List (Option PV)}, f ∉ sl → slotOf sl xs f = none
  | [], _, _ => by simp [slotOf]
  | g :: gs, [], _ => by simp [slotOf]
  | g :: gs, x :: xs, h => by
    unfold slotOf
    have ne : g ≠ f := fun q => h (by rw [← q]; exact List.mem_cons_self)
    rw [if_neg ne]
    exact slotOf_no fun z => h (List.mem_cons_of_mem _ z)
theorem slotOf_set {f g : Str} {v : PV} : ∀ {sl : List Str} {xs : List (Option PV)} {i : Nat}, sl.Nodup → xs.length = sl.length → sl[i]? = some f → slotOf sl (xs.set i (some v)) g = if g = f then some v else slotOf sl xs g
  | [], _, _, _, _, h => by simp at h
  | a :: sl, [], _, _, hl, _ => by simp at hl
  | a :: sl, x :: xs, 0, nd, hl, h => by
    simp at h
    subst h
    by_cases q : g = a
    · subst q; simp [slotOf]
    · rw [if_neg q]
      have q' : ¬ a = g := fun z => q z.symm
      simp [slotOf, q']
  | a :: sl, x :: xs, i + 1, nd, hl, h => by
    have hm : f ∈ sl := List.mem_of_getElem? (by simpa using h)
    have ne : a ≠ f := fun q => (List.nodup_cons.mp nd).1 (q ▸ hm)
    have ih := slotOf_set (g := g) (v := v) (xs := xs) (List.nodup_cons.mp nd).2 (by simpa using hl) (show sl[i]? = some f by simpa using h)
    by_cases q : a = g
    · subst q
      rw [if_neg ne]
      simp [slotOf]
    · have e : slotOf (a :: sl) ((x :: xs).set (i + 1) (some v)) g = slotOf sl (xs.set i (some v)) g := by simp [slotOf, q]
      have e2 : slotOf (a :: sl) (x :: xs) g = slotOf sl xs g := by simp [slotOf, q]
      rw [e, e2]
      exact ih
theorem cntS_set {v : PV} : ∀ {xs : List (Option PV)} {i : Nat} {x : Option PV}, xs[i]? = some x → cntS (xs.set i (some v)) = bif x.isSome then cntS xs else cntS xs + 1
  | [], _, _, h => by simp at h
  | y :: xs, 0, x, h => by
    simp at h
    subst h
    cases y <;> rfl
  | y :: xs, i + 1, x, h => by
    have ih := cntS_set (v := v) (xs := xs) (i := i) (x := x) (by simpa using h)
    cases y with
    | none => show cntS (xs.set i (some v)) = _; rw [ih]; rfl
    | some z =>
      show cntS (xs.set i (some v)) + 1 = _
      rw [ih]
      cases x <;> rfl
theorem cntS_le : ∀ xs : List (Option PV), cntS xs ≤ xs.length
  | [] => Nat.le_refl _
  | none :: xs => Nat.le_succ_of_le (cntS_le xs)
  | some _ :: xs => Nat.succ_le_succ (cntS_le xs)
theorem putF_same {f : Str} {v w : V} : ∀ {fs : List (Str × V)}, fs.lookup f = some w → (L2.putF f v fs).length = fs.length
  | [], h => by cases h
  | (k, x) :: r, h => by
    show (if k = f then (k, v) :: r else (k, x) :: L2.putF f v r).length = _
    by_cases q : k = f
    · rw [if_pos q]; rfl
    · rw [if_neg q]
      have q' : (f == k) = false := by simpa using fun z => q (Eq.symm z)
      simp only [List.lookup, q'] at h
      rw [List.length_cons, List.length_cons, putF_same h]
/-- where the classes of this text have the field f -/
def AtTab (K : PySem.W.Frag) (f : Str) (tab : List (Nat × Nat)) : Prop := ∀ c i, luN tab c = some i → ∃ nm sl C, clsTab[c]? = some (nm, sl) ∧ PySem.W.nsIn K mainGlobals nm = some (some (.ref C)) ∧ Cls K C ∧ NoAttr K C f ∧ sl[i]? = some f
theorem AtTab.nil {K : PySem.W.Frag} {f : Str} : AtTab K f [] := fun _ _ h => by cases h
theorem AtTab.cons {K : PySem.W.Frag} {f : Str} {c i : Nat} {tab : List (Nat × Nat)} {nm : Str} {sl : List Str} {C : Addr} (h1 : clsTab[c]? = some (nm, sl)) (h2 : PySem.W.nsIn K mainGlobals nm = some (some (.ref C))) (h3 : Cls K C) (h4 : NoAttr K C f) (h5 : sl[i]? = some f) (t : AtTab K f tab) : AtTab K f ((c, i) :: tab) := fun c' i' h => by
  rcases luN_cons h with ⟨e1, e2⟩ | h
  · cases e1; cases e2
    exact ⟨nm, sl, C, h1, h2, h3, h4, h5⟩
  · exact t c' i' h
/-- the instance that the handle holds -/
def insOf (s : Sto) : PV → Option (Nat × Nat × List (Option PV))
  | .box n => match nthR s n with
    | some (.i c xs) => some (n, c, xs)
    | _ => none
  | _ => none
section
variable {K : PySem.W.Frag} {H : Hp} {ρ : Rh} {sto : Sto}
theorem insOf_ok (S : RSt K H ρ sto) {x : PV} {v : V} {n c : Nat} {xs : List (Option PV)} (r : RV K H ρ x v) (h : insOf sto x = some (n, c, xs)) :
    ∃ a nm sl C dx fs, x = .box n ∧ v = .ref a ∧ ρ.bx[n]? = some a ∧ H a = some (.ins C dx fs) ∧ (clsTab[c]? = some (nm, sl) ∧ PySem.W.nsIn K mainGlobals nm = some (some (.ref C)) ∧ fs.length ≤ cntS xs ∧ xs.length = sl.length) ∧ ∀ f, RO K H ρ (slotOf sl xs f) (fs.lookup f) := by
  cases x with
  | box m =>
    obtain ⟨a, rfl, ha⟩ := r
    have h : (match nthR sto m with
      | some (.i c xs) => some (m, c, xs)
      | _ => none) = some (n, c, xs) := h
    split at h
    · rename_i c' xs' e
      cases h
      rw [nthR_eq] at e
      obtain ⟨nm, sl, C, dx, fs, h1, h2, h3⟩ := S.at_ n a _ ha e
      exact ⟨a, nm, sl, C, dx, fs, rfl, rfl, ha, h1, h2, h3⟩
    · cases h
  | _ => cases h
theorem RO.some_of {p : PV} {o : Option V} (h : RO K H ρ (some p) o) : ∃ v, o = some v ∧ RV K H ρ p v := by
  cases o with
  | none => exact h.elim
  | some v =>
    obtain ⟨w, ws, e, hw, _⟩ := (show RVs K H ρ [p] [v] from h)
    cases e
    exact ⟨v, rfl, hw⟩
theorem RO.none_of {o : Option V} (h : RO K H ρ none o) : o = none := by
  cases o with
  | none => rfl
  | some v => exact h.elim
end
def gAt (tab : List (Nat × Nat)) : PV → Sto → R PV := fun o s => match insOf s o with
  | some (_, c, xs) => match luN tab c with
    | some i => match nthR xs i with
      | some (some v) => .ok v s
      | _ => .bad
    | none => .bad
  | none => .bad
def mAt (tab : List (Nat × Nat)) (m : M) : M := fun env s => (m env s).bind (gAt tab)
section
variable {X : Cx} {W : WK} {e o value : Expr} {f : Str} {m mo mv : M} {pos pos' p : Pos} {tab : List (Nat × Nat)}
/-- e.f of an instance -/
theorem e_at (T : AtTab X.K f tab) (ha : ME X W e m) (hb : attributeBase e f X.env (eval e X.env) = eval e X.env := by rfl) : ME X W (.Attribute e f pos) (mAt tab m) := by
  obtain ⟨t, q, s⟩ := ha
  refine ⟨_, pe_fld q hb, fun σ H ρ env sto Q hE hS hP => ?_⟩
  refine s σ H ρ env sto _ hE hS ((hP.bind hS).imp fun v s1 H1 ρ1 x1 S1 P1 y hy => ?_)
  unfold gAt at P1
  split at P1
  · rename_i n c xs e1
    split at P1
    · rename_i i e2
      split at P1
      · rename_i w e3
        obtain ⟨a, nm, sl, C, dx, fs, rfl, rfl, ha, h1, ⟨h2, h3, _, _⟩, h4⟩ := insOf_ok S1 hy e1
        obtain ⟨nm', sl', C', k1, k2, k3, k4, k5⟩ := T c i e2
        rw [h2] at k1; cases k1
        rw [h3] at k2; cases k2
        have q1 := h4 f
        rw [slotOf_at (clsTab_ok _ _ _ h2).1 k5, ← nthR_eq, e3] at q1
        obtain ⟨u, hu, ru⟩ := RO.some_of (p := w) q1
        exact ⟨a, C, dx, fs, u, rfl, h1, k3, k4, hu, now S1 P1 ru⟩
      · exact P1.elim
    · exact P1.elim
  · exact P1.elim
/-- the store behind o.f = v -/
def gAtPut (tab : List (Nat × Nat)) (o v : PV) (s : Sto) : Option Sto := match insOf s o with
  | some (n, c, xs) => match luN tab c with
    | some i => some (setR s n (.i c (setR xs i (some v))))
    | none => none
  | none => none
theorem at_put {K : PySem.W.Frag} {H : Hp} {ρ : Rh} {sto s' : Sto} {x z : PV} {y w : V} (S : RSt K H ρ sto) (T : AtTab K f tab) (rx : RV K H ρ x y) (rz : RV K H ρ z w) (h : gAtPut tab x z sto = some s') :
    ∃ a C dx fs, y = .ref a ∧ H a = some (.ins C dx fs) ∧ Cls K C ∧ NoAttr K C f ∧ fs.length < 1000 ∧ Ext ρ H ρ (upd H a (.ins C dx (L2.putF f w fs))) ∧ RSt K (upd H a (.ins C dx (L2.putF f w fs))) ρ s' := by
  unfold gAtPut at h
  split at h
  · rename_i n c xs e1
    split at h
    · rename_i i e2
      cases h
      obtain ⟨a, nm, sl, C, dx, fs, rfl, rfl, ha, h1, ⟨h2, h3, h5, h6⟩, h4⟩ := insOf_ok S rx e1
      obtain ⟨nm', sl', C', k1, k2, k3, k4, k5⟩ := T c i e2
      rw [h2] at k1; cases k1
      rw [h3] at k2; cases k2
      have nd := (clsTab_ok _ _ _ h2).1
      have lz := (clsTab_ok _ _ _ h2).2
      have hlt : fs.length < 1000 := by
        have := cntS_le xs
        omega
      have hi : i < xs.length := by rw [h6]; exact (List.getElem?_eq_some_iff.mp k5).1
      rw [setR_eq, setR_eq]
      obtain ⟨x3, S3⟩ := S.putB (b := .i c (xs.set i (some z))) (o := .ins C dx (L2.putF f w fs)) ha (S.lt ha) (fun u q => by rw [h1] at q; cases q; exact ⟨_, rfl⟩) fun H1 x e => by
        refine ⟨nm, sl, C, dx, _, e, ⟨h2, h3, ?_, by rw [List.length_set]; exact h6⟩, fun g => ?_⟩
        · have q0 := h4 f
          rw [slotOf_at nd k5] at q0
          rw [cntS_set (List.getElem?_eq_getElem hi)]
          rw [List.getElem?_eq_getElem hi] at q0
          cases q : xs[i] with
          | none =>
            rw [q] at q0
            have := length_putF f w fs
            show _ ≤ cntS xs + 1
            omega
          | some u =>
            rw [q] at q0
            obtain ⟨u', hu, _⟩ := RO.some_of (p := u) q0
            rw [putF_same hu]
            exact h5
        · rw [slotOf_set nd h6 k5, lookup_putF]
          by_cases q : g = f
          · rw [if_pos q, if_pos q]
            exact RVs.cons (rz.mono x) .nil
          · rw [if_neg q, if_neg q]
            exact (h4 g).imp fun r => r.mono x
      exact ⟨a, C, dx, fs, rfl, h1, k3, k4, hlt, x3, S3⟩
    · cases h
  · cases h
/-- o.f = value -/
def sAtPut (tab : List (Nat × Nat)) (mo mv : M) : MS := fun env s => (mv env s).fl env fun v s1 => (mo env s1).fl env fun o s2 => match gAtPut tab o v s2 with
  | some s3 => .nx env s3
  | none => .bad
theorem s_at (T : AtTab X.K f tab) (ho : ME X W o mo) (hv : ME X W value mv) (hs : swapsWith value (some (.Attribute o f pos')) pos.line X.env = pure false := by rfl) : MSt X W (.Assign [.Attribute o f pos'] value pos) (sAtPut tab mo mv) := by
  obtain ⟨t, q, s⟩ := ho
  obtain ⟨tv, qv, sv⟩ := hv
  refine ⟨_, ps_fld q qv hs, fun D σ H ρ env sto h1 h2 h3 => ?_⟩
  refine sv σ H ρ env sto _ h1 h2 ((FPost.bind h1 h2 h3).imp fun v s1 H1 ρ1 x1 S1 P1 y hy => ?_)
  have E1 := h1.mono x1.toExtW
  refine s σ H1 ρ1 env s1 _ E1 S1 ((FPost.bind E1 S1 P1).imp fun ov s2 H2 ρ2 x2 S2 P2 x hx => ?_)
  have E2 := E1.mono x2.toExtW
  split at P2
  · rename_i s3 e1
    obtain ⟨a, C, dx, fs, rfl, k1, k2, k3, k4, x3, S3⟩ := at_put S2 T hx (hy.mono x2.toExtW) e1
    exact ⟨a, C, dx, fs, rfl, k1, k2, k3, k4, P2 σ _ ρ2 x3 S3 (E2.mono x3.toExtW)⟩
  · exact P2.elim
/-- o.f as one of several targets -/
def gtAt (tab : List (Nat × Nat)) (mo : M) : MG := fun v env s => ((mo env s).noex).bind fun o s1 => match gAtPut tab o v s1 with
  | some s2 => .ok env s2
  | none => .bad
theorem pg_at {to : TE} (ho : PE X o to) (ha : ∀ v, assign (.Attribute o f pos) X.env v = (do
      let ov ← holding [v] (eval o X.env)
      standAt pos.atName
      holding [v, ov] (setAttr ov f v)
      release [v, ov] []) := by intro _; rfl) : PG X (.Attribute o f pos) (fun v σ H Q => to σ H fun x H1 => ∃ a C dx fs, x = .ref a ∧ H1 a = some (.ins C dx fs) ∧ Cls X.K C ∧ NoAttr X.K C f ∧ fs.length < 1000 ∧ Q σ (upd H1 a (.ins C dx (L2.putF f v fs)))) := by
  refine ⟨fun pins s σ H v u Q I r h => ?_⟩
  rw [ha]
  refine wpAny_bind (wpAny_holding (thn (ho.run pins s σ H _ I h) fun ov s1 ⟨x, H1, I1, r1, a, C, dx, fs, ex, ea, c, n, l, q1⟩ => ?_))
  subst ex
  obtain rfl : ov = Value.ref a := r1
  refine wpAny_bind (wpAny_standAt (wpAny_bind (wpAny_holding (setattr_ok I1 ea c n l r fun s3 I3 => ?_))))
  exact wpAny_release ⟨σ, _, I3, q1⟩
theorem g_at (T : AtTab X.K f tab) (ho : ME X W o mo) (ha : ∀ v, assign (.Attribute o f pos) X.env v = (do
      let ov ← holding [v] (eval o X.env)
      standAt pos.atName
      holding [v, ov] (setAttr ov f v)
      release [v, ov] []) := by exact fun _ => rfl) : MGt X W (.Attribute o f pos) (gtAt tab mo) [] := by
  obtain ⟨to, po, so⟩ := ho
  refine ⟨_, pg_at po ha, fun v x σ H ρ env sto Q h1 h2 h3 h4 => ?_⟩
  refine so σ H ρ env sto _ h1 h2 (Post.unex ((Post.bind h2 h4).imp fun ov s1 H1 ρ1 x1 S1 P1 y hy => ?_))
  split at P1
  · rename_i s3 e1
    obtain ⟨a, C, dx, fs, rfl, k1, k2, k3, k4, x3, S3⟩ := at_put S1 T hy (h3.mono x1.toExtW) e1
    exact ⟨a, C, dx, fs, rfl, k1, k2, k3, k4, P1 _ ρ1 x3 S3 σ ((h1.mono x1.toExtW).mono x3.toExtW) ⟨rfl, fun _ _ => rfl⟩⟩
  · exact P1.elim
end

/-! ### methods -/
def MeTab (P : Program) (w : World) (K : PySem.W.Frag) (mg : Str → Option Value) (base : Heap) (k n : Nat) (m : Str) (tab : List (Nat × GC)) : Prop := ∀ c run, luN tab c = some run → ∃ nm sl C f fd ps, clsTab[c]? = some (nm, sl) ∧ PySem.W.nsIn K mainGlobals nm = some (some (.ref C)) ∧ m ∉ sl ∧ Cls K C ∧ Meth K C m f ∧ FOk P w K mg base k f fd ps run ∧ Binds K fd ps [] ∧ ps.length = n
section
variable {P : Program} {w : World} {K : PySem.W.Frag} {mg : Str → Option Value} {base : Heap} {k n : Nat} {m : Str}
theorem MeTab.nil : MeTab P w K mg base k n m [] := fun _ _ h => by cases h
theorem MeTab.cons {c : Nat} {run : GC} {tab : List (Nat × GC)} {nm : Str} {sl : List Str} {C f : Addr} {fd : FuncData} {ps : List Str} (h1 : clsTab[c]? = some (nm, sl)) (h2 : PySem.W.nsIn K mainGlobals nm = some (some (.ref C))) (h0 : sl.contains m = false) (h3 : Cls K C) (h4 : Meth K C m f)
    (h5 : FOk P w K mg base k f fd ps run) (h6 : Binds K fd ps []) (h7 : ps.length = n) (t : MeTab P w K mg base k n m tab) : MeTab P w K mg base k n m ((c, run) :: tab) := fun c' r' h => by
  rcases luN_cons h with ⟨e1, e2⟩ | h
  · cases e1; cases e2
    exact ⟨nm, sl, C, f, fd, ps, h1, h2, (fun z => by rw [List.contains_iff_mem.mpr z] at h0; cases h0), h3, h4, h5, h6, h7⟩
  · exact t c' r' h
end
/-- o.m(..): the class decides -/
def mMeth (n : Nat) (tab : List (Nat × GC)) (mo : M) (ms : MA) : M := fun env s => (mo env s).bind fun o s1 => match insOf s1 o with
  | some (_, c, _) => match luN tab c with
    | some run => (ms env s1).bind fun vs s2 => bif Nat.beq (vs.length + 1) n then run (o :: vs) s2 else .bad
    | none => .bad
  | none => .bad
section
variable {X : Cx} {W : WK} {k n : Nat} {m : Str} {o e : Expr} {es : List Expr} {mo : M} {ms : MA} {apos pos : Pos} {tab : List (Nat × GC)}
def tMethX (X : Cx) (W : WK) (k n : Nat) (m : Str) (ta : TE) (t : TA) : TE := fun σ H Q => ta σ H fun x H1 => ∃ a C dx fs f fd ps run, x = .ref a ∧ H1 a = some (.ins C dx fs) ∧ fs.lookup m = none ∧ Cls X.K C ∧ Meth X.K C m f ∧ FOk X.prog X.w X.K X.mg X.base k f fd ps run ∧ Binds X.K fd ps [] ∧
  t σ H1 fun vs H2 => spF X.K ps.length run (x :: vs) H2 Q (WE W σ)
theorem pe_methX {pl : Sem Bool} {ta : TE} {t : TA} (he : PE X o ta) (hr : Room k X.A) (tk : Takes X W) (ha : PA X (e :: es) t)
    (hst : starEach (e :: es) X.env = (false, eval e X.env) :: starEach es X.env := by rfl) (hpl : (backTo pos (starEach es X.env)).any (·.1) = false := by rfl)
    (ht : eval (.Call (.Attribute o m apos) (e :: es) [] pos) X.env = (do
      let ov ← eval o X.env
      standAt apos.atName
      let (f, first) ← holding [ov] (getMethod ov m pl)
      callWith pos f first (backTo pos (starEach (e :: es) X.env)) (backToKw pos (keywordEach [] X.env))) := by rfl) :
    PE X (.Call (.Attribute o m apos) (e :: es) [] pos) (tMethX X W k n m ta t) := by
  refine ⟨fun pins s σ H Q I h => ?_⟩
  refine PySem.W.methodCall_KW (pl := pl) (thn (he.run pins s σ H _ I h) fun u s1 ⟨x, H1, I1, rx, a, C, dx, fs, f, fd, ps, run, ex, ea, l, c, hm, F, hb, q⟩ => ?_) ht
  subst ex
  obtain rfl : u = Value.ref a := rx
  refine getmeth_ok I1 ea c hm l ?_
  refine PySem.W.callWith_K (first := [.ref a]) (h₀ := X.base) I.ok.mod.kin hm.kp (thn (ha.run pos pins s1 σ H1 _ I1 q) fun us s2 ⟨vs, H2, I2, r, q2⟩ => ⟨I2.kIn, ?_⟩) hst hpl
  exact run_fnS (E := WE W) (us := .ref a :: us) (vs := .ref a :: vs) F hr hb (passAt tk σ) I2 (.cons rfl r) q2
theorem pe_methX0 {pl : Sem Bool} {ta : TE} (he : PE X o ta) (hr : Room k X.A) (tk : Takes X W)
    (ht : eval (.Call (.Attribute o m apos) [] [] pos) X.env = (do
      let ov ← eval o X.env
      standAt apos.atName
      let (f, first) ← holding [ov] (getMethod ov m pl)
      callWith pos f first (backTo pos (starEach [] X.env)) (backToKw pos (keywordEach [] X.env))) := by rfl) :
    PE X (.Call (.Attribute o m apos) [] [] pos) (tMethX X W k n m ta tNil) := by
  refine ⟨fun pins s σ H Q I h => ?_⟩
  refine PySem.W.methodCall_KW (pl := pl) (thn (he.run pins s σ H _ I h) fun u s1 ⟨x, H1, I1, rx, a, C, dx, fs, f, fd, ps, run, ex, ea, l, c, hm, F, hb, q⟩ => ?_) ht
  subst ex
  obtain rfl : u = Value.ref a := rx
  refine getmeth_ok I1 ea c hm l ?_
  exact PySem.W.callWith_K0 (first := [.ref a]) I1.kIn hm.kp (run_fnS (E := WE W) (us := [.ref a]) (vs := [.ref a]) F hr hb (passAt tk σ) I1 (.cons rfl .nil) q)
theorem se_meth {ta : TE} {t : TA} (T : MeTab X.prog X.w X.K X.mg X.base k n m tab) (so : SE X.K W ta mo) (ss : SA X.K W t ms) : SE X.K W (tMethX X W k n m ta t) (mMeth n tab mo ms) := by
  intro σ H ρ env sto Q hE hS hP
  refine so σ H ρ env sto _ hE hS ((hP.bind hS).imp fun v s1 H1 ρ1 x1 S1 P1 y hy => ?_)
  split at P1
  · rename_i nn c xs e1
    split at P1
    · rename_i run e2
      obtain ⟨a, nm, sl, C, dx, fs, rfl, rfl, ha, h1, ⟨h2, h3, _, _⟩, h4⟩ := insOf_ok S1 hy e1
      obtain ⟨nm', sl', C', f, fd, ps, k1, k2, k0, k3, k4, k5, k6, k7⟩ := T c run e2
      rw [h2] at k1; cases k1
      rw [h3] at k2; cases k2
      have q1 := h4 m
      rw [slotOf_no k0] at q1
      refine ⟨a, C, dx, fs, f, fd, ps, run, rfl, h1, RO.none_of q1, k3, k4, k5, k6, ?_⟩
      refine ss σ H1 ρ1 env s1 _ (hE.mono x1.toExtW) S1 ((P1.bind S1).imp fun vs s2 H2 ρ2 x2 S2 P2 ys hys => ?_)
      obtain ⟨hz, P2⟩ := and_of (C := Post X.K _ H2 ρ2 (GV X.K Q)) P2 (fun z => z)
      have hz : vs.length + 1 = n := Nat.eq_of_beq_eq_true hz
      refine ⟨?_, _, ρ2, s2, .cons (hy.mono x2.toExtW) hys, S2, P2⟩
      rw [List.length_cons, ← hys.length, hz, k7]
    · exact P1.elim
  · exact P1.elim
theorem e_meth {pl : Sem Bool} (T : MeTab X.prog X.w X.K X.mg X.base k n m tab) (hr : Room k X.A) (tk : Takes X W) (ho : ME X W o mo) (ha : MEs X W (e :: es) ms)
    (hst : starEach (e :: es) X.env = (false, eval e X.env) :: starEach es X.env := by rfl) (hpl : (backTo pos (starEach es X.env)).any (·.1) = false := by rfl)
    (ht : eval (.Call (.Attribute o m apos) (e :: es) [] pos) X.env = (do
      let ov ← eval o X.env
      standAt apos.atName
      let (f, first) ← holding [ov] (getMethod ov m pl)
      callWith pos f first (backTo pos (starEach (e :: es) X.env)) (backToKw pos (keywordEach [] X.env))) := by rfl) :
    ME X W (.Call (.Attribute o m apos) (e :: es) [] pos) (mMeth n tab mo ms) := by
  obtain ⟨to, po, so⟩ := ho
  obtain ⟨t, p, s⟩ := ha
  exact ⟨_, pe_methX (n := n) po hr tk p hst hpl ht, se_meth T so s⟩
theorem e_meth0 {pl : Sem Bool} (T : MeTab X.prog X.w X.K X.mg X.base k n m tab) (hr : Room k X.A) (tk : Takes X W) (ho : ME X W o mo)
    (ht : eval (.Call (.Attribute o m apos) [] [] pos) X.env = (do
      let ov ← eval o X.env
      standAt apos.atName
      let (f, first) ← holding [ov] (getMethod ov m pl)
      callWith pos f first (backTo pos (starEach [] X.env)) (backToKw pos (keywordEach [] X.env))) := by rfl) :
    ME X W (.Call (.Attribute o m apos) [] [] pos) (mMeth n tab mo mNil) := by
  obtain ⟨to, po, so⟩ := ho
  exact ⟨_, pe_methX0 (n := n) po hr tk ht, se_meth T so (fun _ H ρ _ _ _ _ hS hP => hP H ρ .refl hS _ rfl)⟩
end

/-! ### C(..) -/
structure MkTab (P : Program) (w : World) (K : PySem.W.Frag) (mg : Str → Option Value) (base : Heap) (k n : Nat) (x : Str) (c z : Nat) (run : GC) where
  sl : List Str
  C : Addr
  f : Addr
  fd : FuncData
  ps : List Str
  cl : clsTab[c]? = some (x, sl)
  ns : PySem.W.nsIn K mainGlobals x = some (some (.ref C))
  M : Mk K C f
  F : FOk P w K mg base k f fd ps run
  b : Binds K fd ps []
  len : ps.length = n
  z : sl.length = z
  m : mg x = some (.ref C)
def noneS : Nat → List (Option PV)
  | 0 => []
  | n + 1 => none :: noneS n
theorem noneS_len : ∀ n, (noneS n).length = n
  | 0 => rfl
  | n + 1 => by simp [noneS, noneS_len n]
theorem slotOf_none (f : Str) : ∀ (sl : List Str) (n : Nat), slotOf sl (noneS n) f = none
  | [], n => by cases n <;> rfl
  | g :: gs, 0 => rfl
  | g :: gs, n + 1 => by
    unfold noneS slotOf
    rw [slotOf_none f gs n]
    split <;> rfl
theorem cntS_none : ∀ n, cntS (noneS n) = 0
  | 0 => rfl
  | n + 1 => cntS_none n
def gMake (c z n : Nat) (run : GC) : GC := fun vs s => bif Nat.beq (vs.length + 1) n then (match run (.box s.length :: vs) (s ++ [.i c (noneS z)]) with
  | .ok .non s2 => .ok (.box s.length) s2
  | .ok _ _ => .bad
  | .ex e s2 => .ex e s2
  | .bad => .bad) else .bad
section
variable {X : Cx} {W : WK} {k n c z : Nat} {x : Str} {e : Expr} {es : List Expr} {ms : MA} {p pos : Pos} {run : GC}
theorem run_makeX {pins : List (Addr × Obj)} {σ : L2.St} {H : Hp} {s : Shared} {Q : VK} {us : List Value} {vs : List V} (T : MkTab X.prog X.w X.K X.mg X.base k n x c z run) (hr : Room (k + 1) X.A) (tk : Takes X W)
    (I : Inv X pins σ H s) (r : Vals vs us)
    (h : ∀ x dx, H x = none → H dx = none → dx ≠ x → spF X.K T.ps.length run (.ref x :: vs) (upd (upd H dx (.own x)) x (.ins T.C dx [])) (fun v H2 => v = .non ∧ Q (.ref x) H2) (WE W σ)) :
    wpAny (model X.prog X.w) X.A (call (.ref T.C) us) (EP X pins σ Q) X.xe s := by
  have hq := h (s.heap.objs.size + 1) s.heap.objs.size (I.hok.fresh (Nat.le_succ _)) (I.hok.fresh (Nat.le_refl _)) (Nat.ne_of_lt (Nat.lt_succ_self _))
  have I2 := Inv.made (C := T.C) I
  have r2 : Vals (V.ref (s.heap.objs.size + 1) :: vs) (Value.ref (s.heap.objs.size + 1) :: us) := .cons rfl r
  have hl : (Value.ref (s.heap.objs.size + 1) :: us).length = T.ps.length := by
    have e := r2.length
    rw [T.F.len _ _ _ _ hq] at e
    exact e.symm
  have b := T.b { s with heap := (s.heap.push PySem.W.emptyDict).push (PySem.W.instObj T.C s.heap.objs.size) } (Value.ref (s.heap.objs.size + 1) :: us) I2.kIn (by rw [List.append_nil]; exact hl)
  rw [List.append_nil] at b
  refine wpAny_call (make_map (f := T.f) I.kIn T.M.makes T.M.init (beq_iff_eq.mp T.M.fn) (codeAny_mono (T.F.run _ X.stack _ _ ⟨Value.ref (s.heap.objs.size + 1) :: us, []⟩ (Value.ref (s.heap.objs.size + 1) :: us) _ _ (WE W σ) (hr.make T.C us [])
    (I2.env0.make T.C us []) b r2 hq) fun r s' hq' => ?_))
  cases r with
  | error e => exact passAt tk σ pins _ _ e s' I2 hq'
  | ok fl =>
    cases fl with
    | ret u =>
      obtain ⟨v, H', I3, rv, ev, q3⟩ := I2.after hq'
      subst ev
      exact ⟨rv, ⟨V.ref (s.heap.objs.size + 1), H', I3, rfl, q3⟩⟩
    | next => exact False.elim hq'
    | brk => exact False.elim hq'
    | cont => exact False.elim hq'
theorem make_ok {H1 : Hp} {ρ1 : Rh} {s1 : Sto} {Q : VK} {σ : L2.St} {vs : List PV} {ys : List V} (T : MkTab X.prog X.w X.K X.mg X.base k n x c z run) (S1 : RSt X.K H1 ρ1 s1) (hys : RVs X.K H1 ρ1 vs ys) (P1 : Post X.K (fun c d h => W c d σ h) H1 ρ1 (GV X.K Q) (gMake c z n run vs s1)) :
    ∀ x dx, H1 x = none → H1 dx = none → dx ≠ x → spF X.K T.ps.length run (.ref x :: ys) (upd (upd H1 dx (.own x)) x (.ins T.C dx [])) (fun v H2 => v = .non ∧ Q (.ref x) H2) (WE W σ) := by
  intro a dx ha hd hne
  unfold gMake at P1
  obtain ⟨hz, P1⟩ := and_of (C := Post X.K _ H1 ρ1 (GV X.K Q)) P1 (fun z => z)
  have hz : vs.length + 1 = n := Nat.eq_of_beq_eq_true hz
  have x1 := S1.ext (o := .own a) hd
  have S2 := S1.new (o := .own a) hd
  have ha' : (upd H1 dx (.own a)) a = none := by rw [upd_ne (fun q => hne q.symm)]; exact ha
  obtain ⟨x2, S3⟩ := S2.newBx (b := .i c (noneS z)) (o := .ins T.C dx []) ha' fun H2 _ e => ⟨x, T.sl, T.C, dx, [], e, ⟨T.cl, T.ns, Nat.zero_le _, by rw [noneS_len, T.z]⟩, fun f => by rw [slotOf_none]; exact trivial⟩
  have xx := x1.trans x2 S1.hh
  have hb : (ρ1.bx ++ [a])[s1.length]? = some a := by rw [← S1.len]; simp
  have hv : RV X.K (upd (upd H1 dx (.own a)) a (.ins T.C dx [])) ⟨ρ1.bx ++ [a], ρ1.rs, ρ1.cg⟩ (.box s1.length) (.ref a) := ⟨a, rfl, hb⟩
  refine ⟨?_, _, _, _, .cons hv (hys.mono xx.toExtW), S3, ?_⟩
  · rw [List.length_cons, ← hys.length, hz, T.len]
  · cases q : run (.box s1.length :: vs) (s1 ++ [.i c (noneS z)]) with
    | bad => rw [q] at P1; exact P1.elim
    | ex e s2 => rw [q] at P1; exact Post.shift xx S1.hh P1
    | ok v s2 =>
      rw [q] at P1
      cases v with
      | non =>
        intro H' ρ' x3 S' y hy
        cases hy
        exact ⟨rfl, P1 H' ρ' (xx.trans x3 S1.hh) S' _ ⟨a, rfl, bx_keep x3.toExtW hb⟩⟩
      | _ => exact P1.elim
theorem e_make (T : MkTab X.prog X.w X.K X.mg X.base k n x c z run) (hr : Room (k + 1) X.A) (tk : Takes X W) (hg : Gl X x) (ha : MEs X W (e :: es) ms) (hdb : (x == ("__debug__" : Str)) = false := by decide) (he : starEach (e :: es) X.env = (false, eval e X.env) :: starEach es X.env := by rfl) (hpl : (backTo pos (starEach es X.env)).any (·.1) = false := by rfl) :
    ME X W (.Call (.Name x p) (e :: es) [] pos) (mCall (gMake c z n run) ms) := by
  obtain ⟨t, q, s⟩ := ha
  refine ⟨fun σ H Q => t σ H fun vs H1 => ∀ x dx, H1 x = none → H1 dx = none → dx ≠ x → spF X.K T.ps.length run (.ref x :: vs) (upd (upd H1 dx (.own x)) x (.ins T.C dx [])) (fun v H2 => v = .non ∧ Q (.ref x) H2) (WE W σ), ⟨fun pins st σ H Q I h => ?_⟩, fun σ H ρ env sto Q hE hS hP => ?_⟩
  · refine wpAny_Call_Name_kw (ld_glob I hg T.m ?_ hdb)
    refine PySem.W.callWith_K (h₀ := X.base) I.ok.mod.kin T.M.kp (thn (q.run pos pins st σ H _ I h) fun us s1 ⟨vs, H1, I1, r, q⟩ => ⟨I1.kIn, ?_⟩) he hpl
    exact run_makeX T hr tk I1 r q
  · exact s σ H ρ env sto _ hE hS ((hP.bind hS).imp fun v s1 H1 ρ1 x1 S1 P1 ys hys => make_ok T S1 hys P1)
theorem e_make0 (T : MkTab X.prog X.w X.K X.mg X.base k n x c z run) (hr : Room (k + 1) X.A) (tk : Takes X W) (hg : Gl X x) (hdb : (x == ("__debug__" : Str)) = false := by decide) :
    ME X W (.Call (.Name x p) [] [] pos) (fun _ s => gMake c z n run [] s) := by
  refine ⟨fun σ H Q => ∀ x dx, H x = none → H dx = none → dx ≠ x → spF X.K T.ps.length run [.ref x] (upd (upd H dx (.own x)) x (.ins T.C dx [])) (fun v H2 => v = .non ∧ Q (.ref x) H2) (WE W σ), ⟨fun pins st σ H Q I h => ?_⟩, fun σ H ρ env sto Q hE hS hP => ?_⟩
  · refine wpAny_Call_Name_kw (ld_glob I hg T.m ?_ hdb)
    exact PySem.W.callWith_K0 I.kIn T.M.kp (run_makeX (us := []) T hr tk I .nil h)
  · exact make_ok T hS .nil hP
end
end Mi

/-! enumerate of a tuple -/
namespace G5
open PySem PySem.Spec PyProof.Rows L2
theorem meetsB1 {v : Value} {o : Obj} {H : Heap → Prop} (B : Begins v o H) :
    Meets (Builtin.«enumerate.__new__» ⟨[.type "enumerate", v], []⟩) (fun _ R s => H s.heap ∧
      R (.ok (.ret (.ref (s.heap.push o).objs.size))) { s with heap := (s.heap.push o).push { cls := .type "enumerate", data := .fields #[.none, .bool false, .ref s.heap.objs.size, rawInt 0, .none, .none] } }) :=
  .of_wp fun prog w A R s h => by
    obtain ⟨hp, g, d, tk, os⟩ := s; obtain ⟨h1, h⟩ := h
    have hsub := sub_enumerate
    have q1 : ∀ {A' : Around} {E : Value → Shared → Prop} {Q : Value → Shared → Prop}, Q (.ref hp.objs.size) ⟨hp.push o, g, d, tk, os⟩ → wpAny (model prog w) A' (pyIter v) Q E ⟨hp, g, d, tk, os⟩ :=
      fun q => B.iter prog w _ _ ⟨hp, g, d, tk, os⟩ _ h1 q
    wp_walk using q1
    refine wpAny_stack_any fun st => wpAny_pure ?_
    split
    · rename_i c _ _ _ _ _
      cases (c == Value.type "enumerate")
      · wp_walk using q1
        exact ⟨_, rfl, h⟩
      · wp_walk using q1
        exact ⟨_, rfl, h⟩
    · wp_walk using q1
      exact ⟨_, rfl, h⟩
section
variable {prog : Program} {w : World} {A : Around} {E : Value → Shared → Prop} {s : Shared}
theorem begins1 {v : Value} {o : Obj} {H : Heap → Prop} {Q : Value → Shared → Prop} (B : Begins v o H) (h1 : H s.heap)
    (h : ∀ h', IsEnum h' (s.heap.objs.size + 1) s.heap.objs.size 0 .none → h'.get? s.heap.objs.size = some o → h'.objs.size = s.heap.objs.size + 2 →
      (∀ b o, s.heap.get? b = some o → h'.get? b = some o) → Q (.ref (s.heap.objs.size + 1)) { s with heap := h' }) :
    wpAny (model prog w) A (call (.type "enumerate") [v]) Q E s := by
  refine callType_new F.called_enumerate (by decide) (F.typeCall_enumerate_1 _) (F.newCall_enumerate_1 _) (fun obj => F.args_object_init_2 obj _) F.entry_enumerate_new (meetsB1 B) ⟨h1, ?_⟩
  have hz : (s.heap.push o).objs.size = s.heap.objs.size + 1 := Heap.size_push ..
  show _ ∧ _
  rw [hz]
  have he : IsEnum ((s.heap.push o).push { cls := .type "enumerate", data := .fields #[.none, .bool false, .ref s.heap.objs.size, rawInt 0, .none, .none] }) (s.heap.objs.size + 1) s.heap.objs.size 0 .none := by
    have := Heap.get?_push_size (s.heap.push o) (o := { cls := .type "enumerate", data := .fields #[.none, .bool false, .ref s.heap.objs.size, rawInt 0, .none, .none] }) rfl
    rw [hz] at this; exact this
  refine ⟨⟨_, he, rfl⟩, h _ he (Heap.get?_push_of_some _ (Heap.get?_push_size _ B.free)) (by rw [Heap.size_push, hz]) fun b o x => Heap.get?_push_of_some _ (Heap.get?_push_of_some _ x)⟩
end
/-- the tuple at a, each item in a new pair -/
def Itet (K : PySem.W.Frag) (a : Addr) : It :=
  ⟨fun i H => ∃ (xs : List V) (x : V), SqT K H a xs ∧ xs[i]? = some x, fun i H v H' => ∃ T x, v = .ref T ∧ H T = none ∧ H' = upd H T (.tup [.int (i : Nat), x]) ∧ ∀ xs, SqT K H a xs → xs[i]? = some x, fun i H => ∃ xs : List V, SqT K H a xs ∧ xs.length ≤ i⟩
theorem turn_enumT {P : Program} {w : World} {K : PySem.W.Frag} {elts : List Expr} {kk : Nat} {tpos : Pos} (a e it : Addr) :
    Turn P w K (.Tuple elts kk tpos) (Itet K a) [e, it] e (fun i h => (∃ old, IsEnum h e it ((i : Nat) : Int) old) ∧ h.IsTupleIter it a i ∧ e ≠ it) where
  mem := by simp
  obj := fun i h st b hb => by
    obtain ⟨⟨old, he⟩, ⟨o, ho, hc, hd⟩, _⟩ := st
    have e' : b = e ∨ b = it := by simpa using hb
    rcases e' with z | z
    · rw [z]; exact ⟨_, he, fun v q => nomatch q⟩
    · rw [z]; exact ⟨o, ho, fun v q => by rw [hd] at q; cases q⟩
  keep := fun i h h' st k => let ⟨⟨old, he⟩, hi, hne⟩ := st; ⟨⟨old, k e (by simp) _ he⟩, hi.at fun o q => k it (by simp) o q, hne⟩
  item := by
    intro X hP hw hK hc i pins s σ H E I hf st hg
    subst hP hw hK
    obtain ⟨⟨old, he⟩, hit, hne⟩ := st
    obtain ⟨xs, x, hq, hx⟩ := hg
    obtain ⟨its, rv, p, hz⟩ := I.tuple hq
    obtain ⟨u, hu, ru⟩ := rv.get hx
    have hel : e < s.heap.objs.size := Heap.lt_size he
    have hil : it < s.heap.objs.size := by obtain ⟨_, q, _⟩ := hit; exact Heap.lt_size q
    have hil' : i < its.toArray.size := by simpa using (List.getElem?_eq_some_iff.mp hu).1
    have hni : a ≠ it := fun z => by
      obtain ⟨o, ho, hc2, _⟩ := hit
      obtain ⟨o2, ho2, hc3, _⟩ := (show Heap.IsTuple _ a its.toArray from p)
      rw [← z, ho2] at ho; cases ho
      rw [hc2] at hc3; simp at hc3
    have hea : e ∉ [it, a] := fun z => by
      have e' : e = it ∨ e = a := by simpa using z
      rcases e' with q | q
      · exact hne q
      · obtain ⟨o2, ho2, hc3, _⟩ := (show Heap.IsTuple _ a its.toArray from p)
        rw [← q, he] at ho2; cases ho2
        simp at hc3
    refine wpAny_pyNext_enum_itemD (Draws.tuple (show X.A.in1.handled = none from I.ok.hd hc) it a hni its.toArray) he ⟨hit, (show Heap.IsTuple _ a its.toArray from p)⟩ hil' hne hea fun v h' tk hv ho st' hT hsz hk => ?_
    have hv' : v = u := by
      have : its.toArray[i]? = some u := by simpa using hu
      rw [this] at hv; cases hv; rfl
    subst hv'
    refine ⟨_, rfl, wpAny_letOwnedTupleGo_enum (s := { s with heap := h', toks := tk + 1 }) ho fun h'' he' sb => ?_⟩
    have hT2 : h''.get? s.heap.objs.size = some { cls := .type "tuple", data := .seq #[.int i tk, v] } := (sb.2 _ (Nat.ne_of_gt hel)).trans hT
    have new : ObjOk X.prog X.w (upd H s.heap.objs.size (.tup [.int (i : Nat), x])) h'' s.heap.objs.size (.tup [.int (i : Nat), x]) :=
      ⟨by show 2 ≤ sizeLine; decide, [.int i tk, v], .cons ⟨_, rfl⟩ (.cons ru .nil), ⟨_, hT2, rfl, _, rfl⟩⟩
    have I1 : Inv X pins σ (upd H s.heap.objs.size (.tup [.int (i : Nat), x])) { s with heap := h'', toks := tk + 1 } :=
      I.turnedNew (ch := [e, it]) (fun b ob hb q => (sb.2 b (fun z => hb (by simp [z]))).trans (hk b ob (fun z => hb (by simp [z])) (fun z => hb (by simp [z])) q)) hf (Nat.le_refl _) new
    refine ⟨.ref s.heap.objs.size, _, I1, rfl, ⟨_, x, rfl, I.hok.fresh (Nat.le_refl _), rfl, fun ys hy => by rw [I.tuple_inj hy hq]; exact hx⟩, ⟨⟨v, ?_⟩, st'.1.at fun o q => (sb.2 it (Ne.symm hne)).trans q, hne⟩, fun b hb => ?_⟩
    · have e1 : ((i + 1 : Nat) : Int) = (i : Int) + 1 := by omega
      rw [e1]; exact he'
    · have hb' : b < s.heap.objs.size := by
        have e' : b = e ∨ b = it := by simpa using hb
        rcases e' with z | z
        · rw [z]; exact hel
        · rw [z]; exact hil
      rw [upd_ne (Nat.ne_of_lt hb')]
      exact (hf b hb).1
  done := by
    intro X hP hw hK hc i pins s σ H E I hf st hg
    subst hP hw hK
    obtain ⟨⟨old, he⟩, hit, hne⟩ := st
    obtain ⟨xs, hq, hx⟩ := hg
    obtain ⟨its, rv, p, hz⟩ := I.tuple hq
    obtain ⟨f0, f1, f2, f3, f4, f5⟩ := hf it (by simp)
    have hl := rv.length
    have hT : s.TypeIs (.ref e) "enumerate" := ⟨_, he, rfl⟩
    unfold pyNext
    refine wpAny_bind (wpAny_attempt (wpAny_callSpecial?_slot (name := Str.ofString "__next__") hT PySem.F.slot_enumerate_next
      (wpAny_call_entry PySem.F.slot_enumerate_next hT PySem.F.entry_enumerate_next ?_ (PySem.F.args_enumerate_next_1 _))))
    show wpAny _ _ (field (.ref e) 2 >>= _) _ _ _
    refine wpAny_bind (wpAny_field he rfl (x := .ref it) rfl ?_)
    refine wpAny_bind (wpAny_nextOf_tuple_end (show X.A.in1.handled = none from I.ok.hd hc) hit (show Heap.IsTuple _ a its.toArray from p) (by simp; omega) fun h' x he' hx' => ?_)
    obtain ⟨o, ho, hc⟩ := hx'
    refine wpAny_bind (wpAny_isInstance (T := "StopIteration") (b := true) ⟨o, ho, hc⟩ isSubtype_stop ?_)
    exact wpAny_pure ⟨rfl, I.turned (t' := s.toks) (fun b o hb q => he' b o hb q) f0 f1 f3 f4 f5⟩
  self := fun A i s Q E st h => let ⟨⟨_, he⟩, _⟩ := st; wpAny_pyIter_enum he h
def iEnumQ (K : PySem.W.Frag) (ta : TA) : TI := fun σ H R => ta σ H fun vs H1 => ∃ a xs, vs = [.ref a] ∧ ((SqL K H1 a xs ∧ R (Ite K a) H1) ∨ (SqT K H1 a xs ∧ R (Itet K a) H1))
theorem pi_enumQ {X : Cx} {e : Expr} {ta : TA} {p pos tpos : Pos} {elts : List Expr} {kk : Nat} (hg : Gl X "enumerate") (hm : X.mg "enumerate" = none) (ha : PA X [e] ta) (hs : starEach [e] X.env = [(false, eval e X.env)] := by rfl) :
    PI X (.Tuple elts kk tpos) (.Call (.Name "enumerate" p) [e] [] pos) (iEnumQ X.K ta) := by
  refine ⟨fun pins s σ H R I h => ?_⟩
  refine Call_ (ld_blt I hg hm boot_enumerate (PyProof.Rows.callWith_type1 (thn (ha.run pos pins s σ H _ I h) fun us s1 ⟨vs, H1, I1, r1, q1⟩ => ?_) hs rfl))
  obtain ⟨a, xs, ex, q⟩ := q1
  subst ex
  cases r1 with
  | cons r rr =>
    cases rr
    cases r
    have fp : ∀ b ∈ [s1.heap.objs.size + 1, s1.heap.objs.size], s1.heap.objs.size ≤ b := fun b hb => by
      have e' : b = s1.heap.objs.size + 1 ∨ b = s1.heap.objs.size := by simpa using hb
      rcases e' with z | z
      · rw [z]; exact Nat.le_add_right _ _
      · rw [z]; exact Nat.le_refl _
    rcases q with ⟨hq, q⟩ | ⟨hq, q⟩
    · obtain ⟨its, rv, p', hz⟩ := I1.list hq
      refine call_enumerate_list p'.isList fun h' he hit hsz hk => wpAny_pyIter_enum he ?_
      have I2 : Inv X pins σ H1 { s1 with heap := h' } := I1.kept (t' := s1.toks) hk
      exact ⟨s1.heap.objs.size + 1, [s1.heap.objs.size + 1, s1.heap.objs.size], _, _, H1, rfl, I2, turn_enum a (s1.heap.objs.size + 1) s1.heap.objs.size, ⟨⟨.none, he⟩, hit, Nat.succ_ne_self _⟩, fun b hb => I1.fpOk (fp b hb) (I1.hok.fresh (fp b hb)), q⟩
    · obtain ⟨its, rv, p', hz⟩ := I1.tuple hq
      refine begins1 (begins_tuple a its.toArray) (show Heap.IsTuple _ a its.toArray from p') fun h' he hit hsz hk => wpAny_pyIter_enum he ?_
      have I2 : Inv X pins σ H1 { s1 with heap := h' } := I1.kept (t' := s1.toks) hk
      exact ⟨s1.heap.objs.size + 1, [s1.heap.objs.size + 1, s1.heap.objs.size], _, _, H1, rfl, I2, turn_enumT a (s1.heap.objs.size + 1) s1.heap.objs.size, ⟨⟨.none, he⟩, ⟨_, hit, rfl, rfl⟩, Nat.succ_ne_self _⟩, fun b hb => I1.fpOk (fp b hb) (I1.hok.fresh (fp b hb)), q⟩
end G5
noncomputable section
namespace Mi
open PySem PySem.Spec PyProof.Rows L2 G5
theorem itet_ok {K : PySem.W.Frag} {H0 : Hp} {ρ0 : Rh} {a : Addr} {xs : List PV} {ys : List V} (h : FzT K H0 ρ0 a ys) (r : RVs K H0 ρ0 xs ys) : ItOk K H0 ρ0 (Itet K a) (enuI fun i _ => nthC xs i) := by
  intro i H ρ sto x S
  have h1 := (h.mono x).sq
  have r1 := r.mono x
  have g := get_none r1 i
  unfold enuI
  simp only [nthC_eq]
  cases e : xs[i]? with
  | some v =>
    rw [e] at g
    obtain ⟨y, k1, k2⟩ := g
    refine ⟨⟨ys, y, h1, k1⟩, fun z H' hz => ?_⟩
    obtain ⟨T, w, rfl, hT, rfl, hw⟩ := hz
    have : some w = some y := (hw ys h1).symm.trans k1
    cases this
    exact newPair S hT rfl k2
  | none =>
    rw [e] at g
    exact ⟨ys, h1, g⟩
def iEnq (ms : MA) : MI := fun env s => (ms env s).bind fun vs s1 => match vs with
  | [.tup xs] => .ok (enuI fun i _ => nthC xs i) s1
  | [v] => match itOf s1 v with
    | some J => .ok (enuI J) s1
    | none => .bad
  | _ => .bad
section
variable {X : Cx} {W : WK} {e : Expr} {p pos tpos : Pos} {elts : List Expr} {ms : MA} {kk : Nat}
theorem i_enq (hg : Gl X "enumerate") (hm : X.mg "enumerate" = none) (ha : MEs X W [e] ms) (hs : starEach [e] X.env = [(false, eval e X.env)] := by rfl) : MIr X W (.Tuple elts kk tpos) (.Call (.Name "enumerate" p) [e] [] pos) (iEnq ms) := by
  obtain ⟨t, q, s⟩ := ha
  refine ⟨_, pi_enumQ hg hm q hs, fun σ H ρ env sto Rk hE hS hP => ?_⟩
  refine s σ H ρ env sto _ hE hS ((hP.bind hS).imp fun vs s1 H1 ρ1 x1 S1 P1 ys hys => ?_)
  split at P1
  · obtain ⟨v, rfl, hv⟩ := hys.one
    obtain ⟨a, zs, rfl, h1, h2⟩ := hv
    exact ⟨a, zs, rfl, .inr ⟨h1.sq, P1 H1 ρ1 .refl S1 _ (itet_ok h1 h2)⟩⟩
  · obtain ⟨v, rfl, hv⟩ := hys.one
    rename_i v0 _
    cases k : itOf s1 v0 with
    | none => rw [k] at P1; exact P1.elim
    | some J =>
      rw [k] at P1
      obtain ⟨a, zs, rfl, h1, h2⟩ := itOf_ok S1 hv k
      exact ⟨a, zs, rfl, .inl ⟨h1, P1 H1 ρ1 .refl S1 _ (ite_ok h2)⟩⟩
  · exact P1.elim
end
end Mi

noncomputable section
namespace Mi
open PySem PySem.Spec PyProof.Rows L2

theorem calm_at {tab : List (Nat × Nat)} {mo : M} : Calm (gtAt tab mo) := fun v env s e t q => by
  unfold gtAt at q
  cases h : mo env s with
  | bad => rw [h] at q; cases q
  | ex e' s' => rw [h] at q; cases q
  | ok o s1 =>
    rw [h] at q
    have q : (match gAtPut tab o v s1 with | some s2 => R.ok env s2 | none => R.bad) = R.ex e t := q
    split at q <;> cases q

/-! ### a value that is a def, called with arguments -/
inductive FnTabN (X : Cx) (k n : Nat) : List (Nat × GC) → Prop
  | nil : FnTabN X k n []
  | cons {t : Nat} {run : GC} {f : Addr} {fd : FuncData} {ps : List Str} {y : Str} {l : List (Nat × GC)} (F : FOk X.prog X.w X.K X.mg X.base k f fd ps run) (hh : hofs[t]? = some y) (hn : PySem.W.nsIn X.K mainGlobals y = some (some (.ref f))) (hk : PySem.W.keepIn X.K (.ref f) = true) (hb : Binds X.K fd ps []) (hz : ps.length = n) (r : FnTabN X k n l) : FnTabN X k n ((t, run) :: l)
theorem FnTabN.find {X : Cx} {k n : Nat} {t : Nat} {run : GC} : ∀ {l : List (Nat × GC)}, FnTabN X k n l → luN l t = some run → ∃ (f : Addr) (fd : FuncData) (ps : List Str) (y : Str), FOk X.prog X.w X.K X.mg X.base k f fd ps run ∧ hofs[t]? = some y ∧ PySem.W.nsIn X.K mainGlobals y = some (some (.ref f)) ∧ PySem.W.keepIn X.K (.ref f) = true ∧ Binds X.K fd ps [] ∧ ps.length = n
  | _, .nil, h => by cases h
  | _, .cons F hh hn hk hb hz r, h => by
    rcases luN_cons h with ⟨e1, e2⟩ | h
    · cases e1; cases e2
      exact ⟨_, _, _, _, F, hh, hn, hk, hb, hz⟩
    · exact r.find h
def mCallTN (n : Nat) (tab : List (Nat × GC)) (m : M) (ms : MA) : M := fun env s => (m env s).bind fun v s1 => match v with
  | .fn t => match luN tab t with
    | some run => (ms env s1).bind fun vs s2 => ar n run vs s2
    | none => .bad
  | _ => .bad
section
variable {X : Cx} {W : WK} {k n : Nat} {fe e : Expr} {es : List Expr} {m : M} {ms : MA} {pos : Pos}
theorem e_callTN {tab : List (Nat × GC)} (T : FnTabN X k n tab) (hr : Room k X.A) (tk : Takes X W) (h : ME X W fe m) (ha : MEs X W (e :: es) ms) (hc : eval (.Call fe (e :: es) [] pos) X.env = (do callWith pos (← eval fe X.env) [] (backTo pos (starEach (e :: es) X.env)) (backToKw pos (keywordEach [] X.env))) := by rfl)
    (he : starEach (e :: es) X.env = (false, eval e X.env) :: starEach es X.env := by rfl) (hpl : (backTo pos (starEach es X.env)).any (·.1) = false := by rfl) : ME X W (.Call fe (e :: es) [] pos) (mCallTN n tab m ms) := by
  obtain ⟨t, q, s⟩ := h
  obtain ⟨ta, qa, sa⟩ := ha
  refine ⟨fun σ H Q => t σ H fun v H1 => ∃ f fd ps run, v = .ref f ∧ FOk X.prog X.w X.K X.mg X.base k f fd ps run ∧ PySem.W.keepIn X.K (.ref f) = true ∧ Binds X.K fd ps [] ∧ ta σ H1 fun vs H2 => spF X.K ps.length run vs H2 Q (WE W σ), ⟨fun pins st σ H Q I h => ?_⟩, fun σ H ρ env sto Q hE hS hP => ?_⟩
  · rw [hc]
    refine wpAny_bind (thn (q.run pins st σ H _ I h) ?_)
    intro u s1 z
    obtain ⟨v, H1, I1, r, f, fd, ps, run, ev, F, hk, hb, q1⟩ := z
    subst ev
    cases r
    refine PySem.W.callWith_K (h₀ := X.base) I.ok.mod.kin hk (thn (qa.run pos pins s1 σ H1 _ I1 q1) fun us s2 ⟨vs, H2, I2, r, q2⟩ => ⟨I2.kIn, ?_⟩) he hpl
    exact run_fnS (E := WE W) F hr hb (passAt tk σ) I2 r q2
  · refine s σ H ρ env sto _ hE hS ((hP.bind hS).imp fun v s1 H1 ρ1 x1 S1 P1 y hy => ?_)
    split at P1
    · rename_i t
      split at P1
      · rename_i run e
        obtain ⟨f, fd, ps, z, F, h1, h2, h3, h4, h5⟩ := T.find e
        obtain ⟨z', f', k1, k2, rfl⟩ := hy
        rw [h1] at k1; cases k1
        rw [h2] at k2; cases k2
        refine ⟨f, fd, ps, run, rfl, F, h3, h4, ?_⟩
        refine sa σ H1 ρ1 env s1 _ (hE.mono x1.toExtW) S1 ((P1.bind S1).imp fun vs s2 H2 ρ2 x2 S2 P2 ys hys => ?_)
        unfold ar at P2
        obtain ⟨hz, P2⟩ := and_of (C := Post X.K _ H2 ρ2 (GV X.K Q)) P2 (fun z => z)
        exact ⟨by rw [h5, ← hys.length]; exact Nat.eq_of_beq_eq_true hz, _, ρ2, s2, hys, S2, P2⟩
      · exact P1.elim
    · exact P1.elim
end

/-! ### o.m(b=.., a=..), C(b=.., a=..): by name, in any order -/
def MeTabW (P : Program) (w : World) (K : PySem.W.Frag) (mg : Str → Option Value) (base : Heap) (k : Nat) (m : Str) (ks : List Str) (ix : List Nat) (tab : List (Nat × GC)) : Prop := ∀ c run, luN tab c = some run → ∃ nm sl C f fd ps, clsTab[c]? = some (nm, sl) ∧ PySem.W.nsIn K mainGlobals nm = some (some (.ref C)) ∧ m ∉ sl ∧ Cls K C ∧ Meth K C m f ∧ FOk P w K mg base k f fd ps run ∧
  (∀ (s : Shared) (u : Value) (ws : List Value), ws.length = ix.length → BindsTo s fd ⟨[u], ks.zip ws⟩ (ps.zip (u :: pick ix ws))) ∧ ps.length = ix.length + 1
section
variable {P : Program} {w : World} {K : PySem.W.Frag} {mg : Str → Option Value} {base : Heap} {k : Nat} {m : Str} {ks : List Str} {ix : List Nat}
theorem MeTabW.nil : MeTabW P w K mg base k m ks ix [] := fun _ _ h => by cases h
theorem MeTabW.cons {c : Nat} {run : GC} {tab : List (Nat × GC)} {nm : Str} {sl : List Str} {C f : Addr} {fd : FuncData} {ps : List Str} (h1 : clsTab[c]? = some (nm, sl)) (h2 : PySem.W.nsIn K mainGlobals nm = some (some (.ref C))) (h0 : sl.contains m = false) (h3 : Cls K C) (h4 : Meth K C m f)
    (h5 : FOk P w K mg base k f fd ps run) (h6 : ∀ (s : Shared) (u : Value) (ws : List Value), ws.length = ix.length → BindsTo s fd ⟨[u], ks.zip ws⟩ (ps.zip (u :: pick ix ws))) (h7 : ps.length = ix.length + 1) (t : MeTabW P w K mg base k m ks ix tab) : MeTabW P w K mg base k m ks ix ((c, run) :: tab) := fun c' r' h => by
  rcases luN_cons h with ⟨e1, e2⟩ | h
  · cases e1; cases e2
    exact ⟨nm, sl, C, f, fd, ps, h1, h2, (fun z => by rw [List.contains_iff_mem.mpr z] at h0; cases h0), h3, h4, h5, h6, h7⟩
  · exact t c' r' h
end
def mMethW (ix : List Nat) (tab : List (Nat × GC)) (mo : M) (mk : MA) : M := fun env s => (mo env s).bind fun o s1 => match insOf s1 o with
  | some (_, c, _) => match luN tab c with
    | some run => (mk env s1).bind fun vs s2 => bif Nat.beq vs.length ix.length then (bif Nat.beq (pick ix vs).length ix.length then run (o :: pick ix vs) s2 else .bad) else .bad
    | none => .bad
  | none => .bad
section
variable {X : Cx} {W : WK} {k n : Nat} {m : Str} {ks : List Str} {o : Expr} {kws : List Keyword} {mo : M} {mk : MA} {apos pos : Pos} {tab : List (Nat × GC)}
theorem e_methW {pl : Sem Bool} (ix : List Nat) (T : MeTabW X.prog X.w X.K X.mg X.base k m ks ix tab) (hr : Room k X.A) (tk : Takes X W) (ho : ME X W o mo) (ha : MKs X W kws mk)
    (hall : (backToKw pos (keywordEach kws X.env)).all (·.1.isSome) = true := by rfl) (hks : (backToKw pos (keywordEach kws X.env)).filterMap (·.1) = ks := by rfl)
    (hpl : ((backTo pos (starEach [] X.env)).any (·.1) || (backToKw pos (keywordEach kws X.env)).any (·.1.isNone)) = false := by rfl)
    (ht : eval (.Call (.Attribute o m apos) [] kws pos) X.env = (do
      let ov ← eval o X.env
      standAt apos.atName
      let (f, first) ← holding [ov] (getMethod ov m pl)
      callWith pos f first (backTo pos (starEach [] X.env)) (backToKw pos (keywordEach kws X.env))) := by rfl) :
    ME X W (.Call (.Attribute o m apos) [] kws pos) (mMethW ix tab mo mk) := by
  obtain ⟨to, po, so⟩ := ho
  obtain ⟨t, q, s⟩ := ha
  refine ⟨fun σ H Q => to σ H fun x H1 => ∃ a C dx fs f fd ps run, x = .ref a ∧ H1 a = some (.ins C dx fs) ∧ fs.lookup m = none ∧ Cls X.K C ∧ Meth X.K C m f ∧ FOk X.prog X.w X.K X.mg X.base k f fd ps run ∧
    (∀ (s : Shared) (u : Value) (ws : List Value), ws.length = ix.length → BindsTo s fd ⟨[u], ks.zip ws⟩ (ps.zip (u :: pick ix ws))) ∧ t σ H1 fun vs H2 => vs.length = ix.length ∧ spF X.K ps.length run (x :: pick ix vs) H2 Q (WE W σ), ⟨fun pins st σ H Q I h => ?_⟩, fun σ H ρ env sto Q hE hS hP => ?_⟩
  · refine PySem.W.methodCall_KW (pl := pl) (thn (po.run pins st σ H _ I h) fun u s1 ⟨x, H1, I1, rx, a, C, dx, fs, f, fd, ps, run, ex, ea, l, c, hm, F, hb, q1⟩ => ?_) ht
    subst ex
    obtain rfl : u = Value.ref a := rx
    refine getmeth_ok I1 ea c hm l ?_
    refine PySem.W.callWith_KW0 (first := [.ref a]) (h₀ := X.base) I.ok.mod.kin hm.kp hall (thn (q.run pos pins s1 σ H1 _ I1 q1) ?_) hpl
    intro us s2 z
    obtain ⟨vs, H2, I2, r, hz, q2⟩ := z
    refine ⟨I2.kIn, ?_⟩
    rw [hks]
    have r2 : Vals (V.ref a :: pick ix vs) (Value.ref a :: pick ix us) := .cons rfl (vals_pick r ix)
    have hl : us.length = ix.length := r.length.symm.trans hz
    refine wpAny_call (codeAny_mono (F.run X.A X.stack s2 H2 ⟨[.ref a], ks.zip us⟩ (.ref a :: pick ix us) (.ref a :: pick ix vs) Q (WE W σ) hr I2.env0 (hb s2 (.ref a) us hl) r2 q2) fun r' s' z => ?_)
    match r', z with
    | .error er, z => exact passAt tk σ pins _ _ er s' I2 z
    | .ok (.ret u), z => exact I2.after z
    | .ok .next, z => exact z.elim
    | .ok .brk, z => exact z.elim
    | .ok .cont, z => exact z.elim
  · refine so σ H ρ env sto _ hE hS ((hP.bind hS).imp fun v s1 H1 ρ1 x1 S1 P1 y hy => ?_)
    split at P1
    · rename_i nn c xs e1
      split at P1
      · rename_i run e2
        obtain ⟨a, nm, sl, C, dx, fs, rfl, rfl, ha, h1, ⟨h2, h3, _, _⟩, h4⟩ := insOf_ok S1 hy e1
        obtain ⟨nm', sl', C', f, fd, ps, k1, k2, k0, k3, k4, k5, k6, k7⟩ := T c run e2
        rw [h2] at k1; cases k1
        rw [h3] at k2; cases k2
        have q1 := h4 m
        rw [slotOf_no k0] at q1
        refine ⟨a, C, dx, fs, f, fd, ps, run, rfl, h1, RO.none_of q1, k3, k4, k5, k6, ?_⟩
        refine s σ H1 ρ1 env s1 _ (hE.mono x1.toExtW) S1 ((P1.bind S1).imp fun vs s2 H2 ρ2 x2 S2 P2 ys hys => ?_)
        obtain ⟨hz, P2⟩ := and_of (C := Post X.K _ H2 ρ2 (GV X.K Q)) P2 (fun z => z)
        obtain ⟨hz2, P2⟩ := and_of (C := Post X.K _ H2 ρ2 (GV X.K Q)) P2 (fun z => z)
        have hz : vs.length = ix.length := Nat.eq_of_beq_eq_true hz
        have hz2 : (pick ix vs).length = ix.length := Nat.eq_of_beq_eq_true hz2
        have r2 := hys.pick ix
        exact ⟨hys.length.symm.trans hz, by rw [List.length_cons, ← r2.length, hz2, k7], _, ρ2, s2, .cons (hy.mono x2.toExtW) r2, S2, P2⟩
      · exact P1.elim
    · exact P1.elim
end
section
variable {X : Cx} {W : WK} {k n c z : Nat} {x : Str} {ks : List Str} {kws : List Keyword} {mk : MA} {p pos : Pos} {run : GC}
def gMakeW (ix : List Nat) (c z n : Nat) (run : GC) : GC := fun vs s => bif Nat.beq vs.length ix.length then gMake c z n run (pick ix vs) s else .bad
theorem run_makeW {pins : List (Addr × Obj)} {σ : L2.St} {H : Hp} {s : Shared} {Q : VK} {us : List Value} {vs : List V} (ix : List Nat) (T : MkTab X.prog X.w X.K X.mg X.base k n x c z run) (hr : Room (k + 1) X.A) (tk : Takes X W)
    (hb : ∀ (s : Shared) (u : Value) (ws : List Value), ws.length = ix.length → BindsTo s T.fd ⟨[u], ks.zip ws⟩ (T.ps.zip (u :: pick ix ws)))
    (I : Inv X pins σ H s) (r : Vals vs us) (hl : vs.length = ix.length)
    (h : ∀ x dx, H x = none → H dx = none → dx ≠ x → spF X.K T.ps.length run (.ref x :: pick ix vs) (upd (upd H dx (.own x)) x (.ins T.C dx [])) (fun v H2 => v = .non ∧ Q (.ref x) H2) (WE W σ)) :
    wpAny (model X.prog X.w) X.A (call (.ref T.C) [] (ks.zip us)) (EP X pins σ Q) X.xe s := by
  have hq := h (s.heap.objs.size + 1) s.heap.objs.size (I.hok.fresh (Nat.le_succ _)) (I.hok.fresh (Nat.le_refl _)) (Nat.ne_of_lt (Nat.lt_succ_self _))
  have I2 := Inv.made (C := T.C) I
  have r2 : Vals (V.ref (s.heap.objs.size + 1) :: pick ix vs) (Value.ref (s.heap.objs.size + 1) :: pick ix us) := .cons rfl (vals_pick r ix)
  have b := hb { s with heap := (s.heap.push PySem.W.emptyDict).push (PySem.W.instObj T.C s.heap.objs.size) } (Value.ref (s.heap.objs.size + 1)) us (r.length.symm.trans hl)
  refine wpAny_call (make_map (f := T.f) I.kIn T.M.makes T.M.init (beq_iff_eq.mp T.M.fn) (codeAny_mono (T.F.run _ X.stack _ _ ⟨[Value.ref (s.heap.objs.size + 1)], ks.zip us⟩ (Value.ref (s.heap.objs.size + 1) :: pick ix us) _ _ (WE W σ) (hr.make T.C [] (ks.zip us))
    (I2.env0.make T.C [] (ks.zip us)) b r2 hq) fun r s' hq' => ?_))
  cases r with
  | error e => exact passAt tk σ pins _ _ e s' I2 hq'
  | ok fl =>
    cases fl with
    | ret u =>
      obtain ⟨v, H', I3, rv, ev, q3⟩ := I2.after hq'
      subst ev
      exact ⟨rv, ⟨V.ref (s.heap.objs.size + 1), H', I3, rfl, q3⟩⟩
    | next => exact False.elim hq'
    | brk => exact False.elim hq'
    | cont => exact False.elim hq'
theorem e_makeW (ix : List Nat) (T : MkTab X.prog X.w X.K X.mg X.base k n x c z run) (hr : Room (k + 1) X.A) (tk : Takes X W) (hg : Gl X x) (hb : ∀ (s : Shared) (u : Value) (ws : List Value), ws.length = ix.length → BindsTo s T.fd ⟨[u], ks.zip ws⟩ (T.ps.zip (u :: pick ix ws))) (ha : MKs X W kws mk)
    (hall : (backToKw pos (keywordEach kws X.env)).all (·.1.isSome) = true := by rfl) (hks : (backToKw pos (keywordEach kws X.env)).filterMap (·.1) = ks := by rfl) (hdb : (x == ("__debug__" : Str)) = false := by decide)
    (hpl : ((backTo pos (starEach [] X.env)).any (·.1) || (backToKw pos (keywordEach kws X.env)).any (·.1.isNone)) = false := by rfl) : ME X W (.Call (.Name x p) [] kws pos) (mCall (gMakeW ix c z n run) mk) := by
  obtain ⟨t, q, s⟩ := ha
  refine ⟨fun σ H Q => t σ H fun vs H1 => vs.length = ix.length ∧ ∀ x dx, H1 x = none → H1 dx = none → dx ≠ x → spF X.K T.ps.length run (.ref x :: pick ix vs) (upd (upd H1 dx (.own x)) x (.ins T.C dx [])) (fun v H2 => v = .non ∧ Q (.ref x) H2) (WE W σ), ⟨fun pins st σ H Q I h => ?_⟩, fun σ H ρ env sto Q hE hS hP => ?_⟩
  · refine wpAny_Call_Name_kw (ld_glob I hg T.m ?_ hdb)
    refine PySem.W.callWith_KW0 (h₀ := X.base) I.ok.mod.kin T.M.kp hall (thn (q.run pos pins st σ H _ I h) ?_) hpl
    intro us s1 z
    obtain ⟨vs, H1, I1, r, hz, q1⟩ := z
    refine ⟨I1.kIn, ?_⟩
    rw [hks]
    exact run_makeW ix T hr tk hb I1 r hz q1
  · refine s σ H ρ env sto _ hE hS ((hP.bind hS).imp fun v s1 H1 ρ1 x1 S1 P1 ys hys => ?_)
    unfold gMakeW at P1
    obtain ⟨hz, P1⟩ := and_of (C := Post X.K _ H1 ρ1 (GV X.K Q)) P1 (fun z => z)
    exact ⟨hys.length.symm.trans (Nat.eq_of_beq_eq_true hz), make_ok T S1 (hys.pick ix) P1⟩
end

/-! ### o.f += v -/
def sAtAug (tab : List (Nat × Nat)) (f : Int → Int → Int) (mo mv : M) : MS := fun env s => (mo env s).fl env fun o s1 => (gAt tab o s1).fl env fun x s2 => (mv env s2).fl env fun v s3 => match x, v with
  | .int i, .int j => match gAtPut tab o (.int (f i j)) s3 with
    | some s4 => .nx env s4
    | none => .bad
  | _, _ => .bad
def rF (f : Int → Int → Int) : V → V → Hp → VK → Prop := fun x y H Q => ∃ i j, x = .int i ∧ y = .int j ∧ Q (.int (f i j)) H
section
variable {X : Cx} {W : WK} {o value : Expr} {f : Str} {mo mv : M} {pos tpos : Pos} {tab : List (Nat × Nat)} {op : Operator} {g : Int → Int → Int}
theorem s_ataug (hop : InOp X op (rF g)) (T : AtTab X.K f tab) (ho : ME X W o mo) (hv : ME X W value mv) : MSt X W (.AugAssign (.Attribute o f tpos) op value pos) (sAtAug tab g mo mv) := by
  obtain ⟨t, q, s⟩ := ho
  obtain ⟨tv, qv, sv⟩ := hv
  refine ⟨_, ps_fldaug q qv hop, fun D σ H ρ env sto h1 h2 h3 => ?_⟩
  refine s σ H ρ env sto _ h1 h2 ((FPost.bind h1 h2 h3).imp fun ov s1 H1 ρ1 x1 S1 P1 y hy => ?_)
  have E1 := h1.mono x1.toExtW
  cases e0 : gAt tab ov s1 with
  | bad => rw [e0] at P1; exact P1.elim
  | ex e' s' =>
    unfold gAt at e0
    split at e0
    · split at e0
      · split at e0 <;> cases e0
      · cases e0
    · cases e0
  | ok v s2 =>
    rw [e0] at P1
    unfold gAt at e0
    split at e0
    · rename_i n c xs e1
      split at e0
      · rename_i i e2
        split at e0
        · rename_i w e3
          cases e0
          obtain ⟨a, nm, sl, C, dx, fs, rfl, rfl, ha, k1, ⟨k2, k3, _, _⟩, k4⟩ := insOf_ok S1 hy e1
          obtain ⟨nm', sl', C', j1, j2, j3, j4, j5⟩ := T c i e2
          rw [k2] at j1; cases j1
          rw [k3] at j2; cases j2
          have q1 := k4 f
          rw [slotOf_at (clsTab_ok _ _ _ k2).1 j5, ← nthR_eq, e3] at q1
          obtain ⟨u, hu, ru⟩ := RO.some_of (p := v) q1
          refine ⟨a, C, dx, fs, u, rfl, k1, j3, j4, hu, ?_⟩
          refine sv σ H1 ρ1 env s1 _ E1 S1 ((FPost.bind (r := mv env s1) E1 S1 P1).imp fun v2 s3 H3 ρ3 x3 S3 P3 z hz => ?_)
          split at P3
          · rename_i ii jj
            cases ru; cases hz
            refine ⟨_, _, rfl, rfl, ?_⟩
            split at P3
            · rename_i s4 e4
              obtain ⟨a', C2, dx', fs', ea, m1, m2, m3, m4, x4, S4⟩ := at_put (z := .int (g ii jj)) (w := .int (g ii jj)) S3 T (hy.mono x3.toExtW) rfl e4
              cases ea
              obtain ⟨o', w1, w2⟩ := x3.kd a _ (List.mem_of_getElem? ha) k1
              rw [m1] at w1; cases w1
              obtain ⟨fs2, hf2⟩ := w2
              cases hf2
              exact ⟨_, fs', m1, m4, P3 σ _ ρ3 x4 S4 ((E1.mono x3.toExtW).mono x4.toExtW)⟩
            · exact P3.elim
          · exact P3.elim
        · cases e0
      · cases e0
    · cases e0
end
theorem iop_add {X : Cx} : InOp X .Add (rF fun i j => i + j) := in_add
theorem iop_sub {X : Cx} : InOp X .Sub (rF fun i j => i - j) := in_sub

/-! ### d.get(k), d.get(k, x), d.pop(k) -/
def keyD (s : Sto) (o i : PV) : Option (Option PV) := match dOfR s o with
  | some kvs => match keyP i with
    | some k => some (valP kvs k)
    | none => none
  | none => none
def KeyR (K : PySem.W.Frag) (H : Hp) (ρ : Rh) : Option PV → Option V → Prop
  | some p, q => ∃ v, q = some v ∧ RV K H ρ p v
  | none, q => q = none
theorem keyD_ok {K : PySem.W.Frag} {H : Hp} {ρ : Rh} {sto : Sto} {o i : PV} {x y : V} {r : Option PV} (S : RSt K H ρ sto) (rx : RV K H ρ o x) (ry : RV K H ρ i y) (h : keyD sto o i = some r) :
    ∃ a q, x = .ref a ∧ DGet H a y q ∧ KeyR K H ρ r q := by
  unfold keyD at h
  split at h
  · rename_i kvs e1
    split at h
    · rename_i k e2
      cases h
      obtain ⟨a, yvs, rfl, h1, h2⟩ := dOfR_ok S rx e1
      obtain rfl := keyP_ok ry e2
      refine ⟨a, valV yvs k, rfl, DGet.r h1, ?_⟩
      have hv := h2.val k
      cases e3 : valP kvs k with
      | some v => rw [e3] at hv; exact hv
      | none => rw [e3] at hv; exact hv
    · cases h
  · cases h
def mGet2 (mo mi mv : M) : M := fun env s => (mo env s).bind fun o s1 => match dOfR s1 o with
  | some _ => (mi env s1).bind fun i s2 => (mv env s2).bind fun v s3 => match keyD s3 o i with
    | some (some w) => .ok w s3
    | some none => .ok v s3
    | none => .bad
  | none => .bad
def mGet1 (mo mi : M) : M := fun env s => (mo env s).bind fun o s1 => match dOfR s1 o with
  | some _ => (mi env s1).bind fun i s2 => match keyD s2 o i with
    | some (some w) => .ok w s2
    | some none => .ok .non s2
    | none => .bad
  | none => .bad
section
variable {X : Cx} {W : WK} {o e f : Expr} {mo mi mv : M} {apos cpos : Pos}
theorem e_dget2 (hu : X.A.units + 1 < cLine) (ho : ME X W o mo) (hi : ME X W e mi) (hv : ME X W f mv) (m : M2 X o "get" apos e f cpos := by exact ⟨rfl, rfl, rfl, rfl⟩) : ME X W (.Call (.Attribute o "get" apos) [e, f] [] cpos) (mGet2 mo mi mv) := by
  obtain ⟨t, q, s⟩ := ho
  obtain ⟨u, r, z⟩ := hi
  obtain ⟨tv, qv, sv⟩ := hv
  refine ⟨_, pe_dget2 hu q r qv m, fun σ H ρ env sto Q hE hS hP => ?_⟩
  refine s σ H ρ env sto _ hE hS ((hP.bind hS).imp fun ov s1 H1 ρ1 x1 S1 P1 x hx => ?_)
  have E1 := hE.mono x1.toExtW
  split at P1
  · rename_i pr e0
    obtain ⟨a, yvs0, rfl, k10, _⟩ := dOfR_ok S1 hx e0
    refine ⟨a, rfl, .inl ⟨_, k10⟩, z σ H1 ρ1 env s1 _ E1 S1 ((P1.bind S1).imp fun iv s2 H2 ρ2 x2 S2 P2 y hy => ?_)⟩
    have E2 := E1.mono x2.toExtW
    refine sv σ H2 ρ2 env s2 _ E2 S2 ((P2.bind S2).imp fun v s3 H3 ρ3 x3 S3 P3 w hw => ?_)
    split at P3
    · rename_i p e1
      obtain ⟨a', q, ea, hg, v', rfl, rv⟩ := keyD_ok S3 ((hx.mono x2.toExtW).mono x3.toExtW) (hy.mono x3.toExtW) e1
      cases ea
      exact ⟨some v', hg, now S3 P3 rv⟩
    · rename_i e1
      obtain ⟨a', q, ea, hg, hq⟩ := keyD_ok S3 ((hx.mono x2.toExtW).mono x3.toExtW) (hy.mono x3.toExtW) e1
      cases ea
      have hq : q = none := hq
      subst hq
      exact ⟨none, hg, now S3 P3 hw⟩
    · exact P3.elim
  · exact P1.elim
theorem e_dget1 (hu : X.A.units + 1 < cLine) (ho : ME X W o mo) (hi : ME X W e mi) (m : M1 X o "get" apos e cpos := by exact ⟨rfl, rfl, rfl, rfl⟩) : ME X W (.Call (.Attribute o "get" apos) [e] [] cpos) (mGet1 mo mi) := by
  obtain ⟨t, q, s⟩ := ho
  obtain ⟨u, r, z⟩ := hi
  refine ⟨_, pe_dget1 hu q r m, fun σ H ρ env sto Q hE hS hP => ?_⟩
  refine s σ H ρ env sto _ hE hS ((hP.bind hS).imp fun ov s1 H1 ρ1 x1 S1 P1 x hx => ?_)
  have E1 := hE.mono x1.toExtW
  split at P1
  · rename_i pr e0
    obtain ⟨a, yvs0, rfl, k10, _⟩ := dOfR_ok S1 hx e0
    refine ⟨a, rfl, .inl ⟨_, k10⟩, z σ H1 ρ1 env s1 _ E1 S1 ((P1.bind S1).imp fun iv s2 H2 ρ2 x2 S2 P2 y hy => ?_)⟩
    split at P2
    · rename_i p e1
      obtain ⟨a', q, ea, hg, v', rfl, rv⟩ := keyD_ok S2 (hx.mono x2.toExtW) hy e1
      cases ea
      exact ⟨some v', hg, now S2 P2 rv⟩
    · rename_i e1
      obtain ⟨a', q, ea, hg, hq⟩ := keyD_ok S2 (hx.mono x2.toExtW) hy e1
      cases ea
      have hq : q = none := hq
      subst hq
      exact ⟨none, hg, now S2 P2 rfl⟩
    · exact P2.elim
  · exact P1.elim
end
end Mi

/-! tuples that are alike up to the first place that differs -/
namespace MiP
open PySem PySem.W PySem.SeqAt PySem.Calls PyProof.Rows

def alikePre : List PyData → List PyData → Bool
  | x :: xs, y :: ys => alike x y && (!PyData.eqv x y || alikePre xs ys)
  | _, _ => true
theorem pre_cons {x y : PyData} {xs ys : List PyData} (h : alikePre (x :: xs) (y :: ys) = true) : alike x y = true ∧ (PyData.eqv x y = true → alikePre xs ys = true) := by
  unfold alikePre at h
  rw [Bool.and_eq_true] at h
  refine ⟨h.1, fun e => ?_⟩
  have := h.2
  rw [e] at this
  simpa using this
section
variable {prog : Program} {w : World} {A : Around} {s : Shared} {E : Value → Shared → Prop}
theorem katP {b fin : Bool} {Q : Bool → Shared → Prop} : ∀ (xs ys : List PyData) (i : Nat) (vs ws : List Value) (p q : List Addr), ReadsAll s.heap vs xs p → ReadsAll s.heap ws ys q → alikePre xs ys = true →
    A.units + min (PyData.depthAll xs) (PyData.depthAll ys) < cLine → (b = true → i = 0 → ∀ x r t, xs = x :: r → x ≠ .tuple t) → fin = decide (xs.length < ys.length) → Q (PyProof.Rows.lexLt itemOrd (keyToksAll xs) (keyToksAll ys)) s → KatLex prog w A b fin Q (vs.zip ws) i s
  | [], ys, i, vs, ws, p, q, ra, rb, _, hu, hb, hf, hq => katLex_alike [] ys i vs ws p q ra rb (by cases ys <;> simp [alikeAll]) hu hb hf hq
  | x :: xs, [], i, vs, ws, p, q, ra, rb, _, hu, hb, hf, hq => katLex_alike (x :: xs) [] i vs ws p q ra rb (by simp [alikeAll]) hu hb hf hq
  | x :: xs, y :: ys, i, _, _, _, _, ra, rb, h, hu, hb, hf, hq => by
    have ⟨g1, g2⟩ := pre_cons h
    have hl : fin = decide (xs.length < ys.length) := hf.trans (by simp)
    cases ra with
    | cons r rs =>
      cases rb with
      | cons t ts =>
        refine (List.zip_cons_cons ▸ kat_cons (eqAt_alike x y A s _ _ _ _ r t g1 (room_head hu) prog w _ _ ?_) : KatLex prog w A b fin Q (List.zip (_ :: _) (_ :: _)) i s)
        cases hx : PyData.eqv x y with
        | true =>
          rw [dataLt_all_yes g1 hx] at hq
          exact kat_yes (katP xs ys (i + 1) _ _ _ _ rs ts (g2 hx) (room_tail hu) (fun _ z => absurd z (Nat.succ_ne_zero i)) hl hq)
        | false =>
          rw [dataLt_all_no g1 hx] at hq
          refine kat_no (oneLt_alike (fun z t => ?_) r t g1 (ne_none_of g1 hx) (room_head hu) hq)
          rw [Bool.and_eq_true] at z
          exact hb z.1 (by simpa using z.2) x xs t rfl
theorem pre_one {h : Heap} : ∀ (xs ys : List PyData) (vs : List Value) (p q : List Addr), alikePre xs ys = true → ReadsAll h vs xs p → ReadsAll h vs ys q → xs = ys
  | [], _, _, _, _, _, r, t => by cases r; cases t; rfl
  | x :: xs, [], _, _, _, _, r, t => by cases t; cases r
  | x :: xs, y :: ys, _, _, _, ha, r, t => by
    cases r with
    | cons r1 r2 =>
      cases t with
      | cons t1 t2 =>
        have ⟨g1, g2⟩ := pre_cons ha
        have e := alike_unique x y _ _ _ g1 r1 t1
        subst e
        rw [pre_one xs ys _ _ _ (g2 (eqv_refl_alike x g1)) r2 t2]
/-- tuples, not (), each two of which are alike up to the first place that differs -/
def AllPre (ds : List PyData) : Prop := ∀ d ∈ ds, ∀ e ∈ ds, ∃ x r y t, d = .tuple (x :: r) ∧ e = .tuple (y :: t) ∧ alikePre (x :: r) (y :: t) = true
theorem AllPre.one {h : Heap} {ds : List PyData} (hp : AllPre ds) {d e : PyData} {v : Value} {p q : List Addr} (hd : d ∈ ds) (he : e ∈ ds) (r : Reads h v d p) (t : Reads h v e q) : d = e := by
  obtain ⟨x, l, y, m, rfl, rfl, g⟩ := hp d hd e he
  cases r with
  | tuple r1 r2 r3 r4 =>
    cases t with
    | tuple t1 t2 t3 t4 =>
      rw [r1] at t1; cases t1
      rw [r3] at t3; cases t3
      rw [pre_one _ _ _ _ _ g r4 t4]
theorem kindP {h : Heap} {ds : List PyData} (hp : AllPre ds) {v : Value} {d : PyData} {p : List Addr} (hd : d ∈ ds) (r : Reads h v d p) : (dataKind h ds).keyOf v = some (keyToks d) := by
  cases e : (dataKind h ds).keyOf v with
  | none =>
    have hq : ∃ d, d ∈ ds ∧ ∃ as, Reads h v d as := ⟨d, hd, p, r⟩
    unfold dataKind at e
    simp only [dif_pos hq] at e
    cases e
  | some k =>
    obtain ⟨d', p', hd', r', rfl⟩ := dataKind_inv e
    rw [hp.one hd' hd r' r]
    rfl
theorem sortsP {vs : List Value} {ds : List PyData} (e : EachIs (fun v d => ∃ as, Reads s.heap v d as) vs ds) (hp : AllPre ds) (hu : ∀ d, d ∈ ds → A.units + d.depth < cLine) : SortsAt prog w A s (dataKind s.heap ds) vs := by
  have isT : ∀ d, d ∈ ds → ∃ x r, d = .tuple (x :: r) := fun d hd => by
    obtain ⟨x, r, _, _, e1, _, _⟩ := hp d hd d hd
    exact ⟨x, r, e1⟩
  refine ⟨fun v hv => ?_, ?_⟩
  · obtain ⟨d, hd, as, r⟩ := e.left v hv
    exact ⟨_, kindP hp hd r⟩
  · cases ds with
    | nil =>
      cases e
      exact ⟨general', fun E x y a b Q ha _ _ => (by
        obtain ⟨d, _, hd, _⟩ := dataKind_inv ha
        cases hd), fun h2 => by cases h2⟩
    | cons d0 dr =>
      obtain ⟨x0, r0, e0⟩ := isT d0 List.mem_cons_self
      have fst : ∀ x r, PyData.tuple (x :: r) ∈ d0 :: dr → alike x x0 = true := fun x r hm => by
        obtain ⟨a, l, b, m, e1, e2, g⟩ := hp _ hm d0 List.mem_cons_self
        rw [e0] at e2
        cases e1
        cases e2
        exact (pre_cons g).1
      refine ⟨tuples' (dataType x0 != Value.type "tuple"), ?_, fun h2 E Q hq => ?_⟩
      · intro E x y a b Q ha hb hq
        obtain ⟨d, p, hd, ra, rfl⟩ := dataKind_inv ha
        obtain ⟨d', p', hd', rb, rfl⟩ := dataKind_inv hb
        have hr : A.units + min d.depth d'.depth < cLine := Nat.lt_of_le_of_lt (Nat.add_le_add_left (Nat.min_le_left _ _) _) (hu d hd)
        obtain ⟨x1, r1, x2, r2, rfl, rfl, g⟩ := hp d hd d' hd'
        have hz : Q (dataLt (.tuple (x1 :: r1)) (.tuple (x2 :: r2))) s := hq
        rw [dataLt_tuple] at hz
        cases ra with
        | @tuple l o us n _ _ u1 u2 u3 u4 =>
          cases rb with
          | @tuple l' o' us' n' _ _ k1 k2 k3 k4 =>
            have n1 : us.size = (x1 :: r1).length := by simpa using SeqAt.ReadsAll.length _ _ _ u4
            have n2 : us'.size = (x2 :: r2).length := by simpa using SeqAt.ReadsAll.length _ _ _ k4
            refine kat_lt u1 u3 k1 k3 (katP (x1 :: r1) (x2 :: r2) 0 _ _ _ _ u4 k4 g (by have q := SeqAt.room_in hr; omega) (fun hb _ x r t ex => ?_) (by rw [n1, n2]) hz)
            cases ex
            rw [← dataType_alike (fst _ _ hd)] at hb
            exact dataType_tuple hb t
      · obtain ⟨fs, t1, t2, t3⟩ := each_katTups e isT
        refine kat_kind (T := dataType x0) t1 (by omega) (fun f hf => ?_) (beq_self_eq_true _) hq
        obtain ⟨x, r, as, m1, m2⟩ := t3 f hf
        exact dataType_alike (fst x r m1) ▸ looks_reads m2
theorem sorted_pre {β : Type} {vs : List Value} {bs : List β} {enc : β → PyData} {R : Value → β → Prop} {l : Addr} {Q : Value → Shared → Prop} (hl : s.heap.IsList l vs.toArray) (e : EachIs R vs bs) (er : EachIs (fun v b => ∃ as, Reads s.heap v (enc b) as) vs bs) (hp : AllPre (bs.map enc)) (hL : bs.length ≤ sizeLine)
    (hu : ∀ b, b ∈ bs → A.units + 2 + (enc b).depth < cLine) (h : ∀ out, out.length = bs.length → EachIs R out (bs.mergeSort (dataLe false enc)) → Q (.ref (s.heap.objs.size + 1)) { s with heap := sortedAll s.heap vs (List.toArray out) }) :
    wpAny (model prog w) A (call (.builtin "sorted") [.ref l]) Q E s := by
  have er2 : EachIs (fun v b => ∃ as, Reads (sortingHeap (copyHeap s.heap vs) (s.heap.objs.size + 1) vs) v (enc b) as) vs bs := er.mono fun _ _ z => z.imp fun _ r => PyProof.Rows.Reads.keeps (fun _ _ => sorting_copy_old) r
  have em := each_map (R := fun v d => ∃ as, Reads (sortingHeap (copyHeap s.heap vs) (s.heap.objs.size + 1) vs) v d as) enc er2
  have S := sortsP (prog := prog) (w := w) (A := A.in1.in1) (s := { s with heap := sortingHeap (copyHeap s.heap vs) (s.heap.objs.size + 1) vs }) em hp (bound_map (A := A.in1.in1) hu)
  refine sorted_vals hl S (Nat.le_trans (Nat.le_of_eq e.length) hL) (h _ ((sortVals_length false rfl).trans e.length) ?_)
  exact sortVals_each (κ := dataKind (sortingHeap (copyHeap s.heap vs) (s.heap.objs.size + 1) vs) (bs.map enc)) (fun b => keyToks (enc b)) e (each_of_map enc ((each_mem em).mono fun _ _ z => kindP hp z.2 z.1.choose_spec))
end
end MiP

noncomputable section
namespace Mi
open PySem PySem.Spec PyProof.Rows L2

/-! ### <, <=, >, >= of data that are alike -/
def rCmpD (K : PySem.W.Frag) (f : PyData → PyData → Bool) : R2 := fun x y H Q => ∃ d e, Dp K H x d ∧ Dp K H y e ∧ PySem.W.alike d e = true ∧ d ≠ .none ∧ SeqAt.shaped d = true ∧ Q (.bl (f d e)) H
section
variable {X : Cx}
theorem op_ltD (hu : X.A.units + 64 < cLine) : OpR X (compareOp .Lt) (rCmpD X.K PySem.W.dataLt) := by
  intro pins s σ H x y v u Q I rx ry h
  obtain ⟨d, e, hd, he, ha, hn, hs, q⟩ := h
  obtain ⟨as, r1⟩ := Dp.reads I d x v hd rx
  obtain ⟨bs, r2⟩ := Dp.reads I e y u he ry
  exact PySem.W.lt_data r1 r2 ha hn (SeqAt.room_of_shaped hs hu) ⟨.bl _, H, I, rfl, q⟩
theorem op_leD (hu : X.A.units + 64 < cLine) : OpR X (compareOp .LtE) (rCmpD X.K fun d e => !PySem.W.dataLt e d) := by
  intro pins s σ H x y v u Q I rx ry h
  obtain ⟨d, e, hd, he, ha, hn, hs, q⟩ := h
  obtain ⟨as, r1⟩ := Dp.reads I d x v hd rx
  obtain ⟨bs, r2⟩ := Dp.reads I e y u he ry
  exact PySem.W.le_data r1 r2 ha hn (SeqAt.room_of_shaped hs hu) ⟨.bl _, H, I, rfl, q⟩
theorem op_gtD (hu : X.A.units + 64 < cLine) : OpR X (compareOp .Gt) (rCmpD X.K fun d e => PySem.W.dataLt e d) := by
  intro pins s σ H x y v u Q I rx ry h
  obtain ⟨d, e, hd, he, ha, hn, hs, q⟩ := h
  obtain ⟨as, r1⟩ := Dp.reads I d x v hd rx
  obtain ⟨bs, r2⟩ := Dp.reads I e y u he ry
  exact PySem.W.gt_data r1 r2 ha hn (SeqAt.room_of_shaped hs hu) ⟨.bl _, H, I, rfl, q⟩
theorem op_geD (hu : X.A.units + 64 < cLine) : OpR X (compareOp .GtE) (rCmpD X.K fun d e => !PySem.W.dataLt d e) := by
  intro pins s σ H x y v u Q I rx ry h
  obtain ⟨d, e, hd, he, ha, hn, hs, q⟩ := h
  obtain ⟨as, r1⟩ := Dp.reads I d x v hd rx
  obtain ⟨bs, r2⟩ := Dp.reads I e y u he ry
  exact PySem.W.ge_data r1 r2 ha hn (SeqAt.room_of_shaped hs hu) ⟨.bl _, H, I, rfl, q⟩
end
def isNoneD : PyData → Bool
  | .none => true
  | _ => false
theorem isNoneD_ok {d : PyData} (h : isNoneD d = false) : d ≠ .none := fun e => by subst e; cases h
/-- ints first; pairs of ints; then any data -/
def gCmpD (f : PyData → PyData → Bool) : G2 := fun x y s => match toD s x, toD s y with
  | some d, some e => bif PySem.W.alike d e && (!isNoneD d && SeqAt.shaped d) then .ok (.bl (f d e)) s else .bad
  | _, _ => .bad
theorem g_cmpD {K : PySem.W.Frag} {f : PyData → PyData → Bool} : SR2 K (rCmpD K f) (gCmpD f) := by
  intro WP H ρ sto x y v u Q S rx ry P
  unfold gCmpD at P
  split at P
  · rename_i d e h1 h2
    obtain ⟨hc, P⟩ := and_of (C := Post K WP H ρ (GV K Q)) P (fun z => z)
    simp only [Bool.and_eq_true, Bool.not_eq_true'] at hc
    obtain ⟨ha, hn, hs⟩ := hc
    exact ⟨d, e, toD_ok rx h1, toD_ok ry h2, ha, isNoneD_ok hn, hs, now S P rfl⟩
  · exact P.elim
section
variable {X : Cx} {W : WK} {a b : Expr} {ma mb : M} {pos : Pos}
theorem e_ltD (hu : X.A.units + 64 < cLine) (ha : ME X W a ma) (hb : ME X W b mb) : ME X W (.Compare a [.Lt] [b] pos) (mBin (gCmpD PySem.W.dataLt) ma mb) := e_cmp (op_ltD hu) g_cmpD ha hb (nomark _)
theorem t_ltD (hu : X.A.units + 64 < cLine) (ha : ME X W a ma) (hb : ME X W b mb) : MTe X W (.Compare a [.Lt] [b] pos) (mT (mBin (gCmpD PySem.W.dataLt) ma mb)) := t_cmp (op_ltD hu) g_cmpD ha hb (nomark _)
theorem e_leD (hu : X.A.units + 64 < cLine) (ha : ME X W a ma) (hb : ME X W b mb) : ME X W (.Compare a [.LtE] [b] pos) (mBin (gCmpD fun d e => !PySem.W.dataLt e d) ma mb) := e_cmp (op_leD hu) g_cmpD ha hb (nomark _)
theorem t_leD (hu : X.A.units + 64 < cLine) (ha : ME X W a ma) (hb : ME X W b mb) : MTe X W (.Compare a [.LtE] [b] pos) (mT (mBin (gCmpD fun d e => !PySem.W.dataLt e d) ma mb)) := t_cmp (op_leD hu) g_cmpD ha hb (nomark _)
theorem e_gtD (hu : X.A.units + 64 < cLine) (ha : ME X W a ma) (hb : ME X W b mb) : ME X W (.Compare a [.Gt] [b] pos) (mBin (gCmpD fun d e => PySem.W.dataLt e d) ma mb) := e_cmp (op_gtD hu) g_cmpD ha hb (nomark _)
theorem t_gtD (hu : X.A.units + 64 < cLine) (ha : ME X W a ma) (hb : ME X W b mb) : MTe X W (.Compare a [.Gt] [b] pos) (mT (mBin (gCmpD fun d e => PySem.W.dataLt e d) ma mb)) := t_cmp (op_gtD hu) g_cmpD ha hb (nomark _)
theorem e_geD (hu : X.A.units + 64 < cLine) (ha : ME X W a ma) (hb : ME X W b mb) : ME X W (.Compare a [.GtE] [b] pos) (mBin (gCmpD fun d e => !PySem.W.dataLt d e) ma mb) := e_cmp (op_geD hu) g_cmpD ha hb (nomark _)
theorem t_geD (hu : X.A.units + 64 < cLine) (ha : ME X W a ma) (hb : ME X W b mb) : MTe X W (.Compare a [.GtE] [b] pos) (mT (mBin (gCmpD fun d e => !PySem.W.dataLt d e) ma mb)) := t_cmp (op_geD hu) g_cmpD ha hb (nomark _)
end

/-! ### sorted(xs), xs a list of data that are alike -/
section
variable {α : Type}
/-- a stable sort by insertion from the right -/
def insG (le : α → α → Bool) (a : α) : List α → List α
  | [] => [a]
  | b :: r => bif le a b then a :: b :: r else b :: insG le a r
def srtG (le : α → α → Bool) : List α → List α
  | [] => []
  | a :: r => insG le a (srtG le r)
variable {le : α → α → Bool}
theorem insG_mem {a x : α} : ∀ {l : List α}, x ∈ insG le a l → x = a ∨ x ∈ l
  | [], h => by simpa [insG] using h
  | b :: r, h => by
    unfold insG at h
    cases e : le a b with
    | true => rw [e] at h; simpa using h
    | false =>
      rw [e] at h
      rcases List.mem_cons.mp h with z | z
      · exact .inr (by rw [z]; exact List.mem_cons_self)
      · exact (insG_mem z).imp id (List.mem_cons_of_mem _)
theorem insG_up (T : PySem.W.TotalLe le) (a : α) : ∀ {l : List α}, l.Pairwise (fun x y => le x y = true) → (insG le a l).Pairwise (fun x y => le x y = true)
  | [], _ => by unfold insG; exact List.pairwise_singleton _ _
  | b :: r, h => by
    obtain ⟨h1, h2⟩ := List.pairwise_cons.mp h
    unfold insG
    cases e : le a b with
    | true =>
      refine List.pairwise_cons.mpr ⟨fun z hz => ?_, h⟩
      rcases List.mem_cons.mp hz with q | q
      · rw [q]; exact e
      · exact T.trans _ _ _ e (h1 z q)
    | false =>
      refine List.pairwise_cons.mpr ⟨fun z hz => ?_, insG_up T a h2⟩
      rcases insG_mem hz with q | q
      · rw [q]
        rcases T.total a b with w | w
        · rw [e] at w; cases w
        · exact w
      · exact h1 z q
theorem insG_filter (T : PySem.W.TotalLe le) (a c : α) : ∀ {l : List α}, (insG le a l).filter (PySem.W.sameRank le c) = (a :: l).filter (PySem.W.sameRank le c)
  | [] => by unfold insG; rfl
  | b :: r => by
    unfold insG
    cases e : le a b with
    | true => rfl
    | false =>
      show (b :: insG le a r).filter _ = _
      have ih := insG_filter T a c (l := r)
      rw [List.filter_cons, ih, List.filter_cons, List.filter_cons, List.filter_cons]
      have no : ¬ (PySem.W.sameRank le c a = true ∧ PySem.W.sameRank le c b = true) := fun ⟨h1, h2⟩ => by
        unfold PySem.W.sameRank at h1 h2
        rw [Bool.and_eq_true] at h1 h2
        have := T.trans _ _ _ h1.2 h2.1
        rw [e] at this; cases this
      by_cases ha : PySem.W.sameRank le c a = true
      · by_cases hb : PySem.W.sameRank le c b = true
        · exact absurd ⟨ha, hb⟩ no
        · simp [ha, hb]
      · simp [ha]
theorem srtG_ok (T : PySem.W.TotalLe le) : ∀ l : List α, (srtG le l).Pairwise (fun x y => le x y = true) ∧ ∀ c, (srtG le l).filter (PySem.W.sameRank le c) = l.filter (PySem.W.sameRank le c)
  | [] => ⟨.nil, fun _ => rfl⟩
  | a :: r => by
    obtain ⟨h1, h2⟩ := srtG_ok T r
    refine ⟨insG_up T a h1, fun c => ?_⟩
    show (insG le a (srtG le r)).filter _ = _
    rw [insG_filter T, List.filter_cons, List.filter_cons, h2 c]
theorem srtG_eq (T : PySem.W.TotalLe le) (l : List α) : srtG le l = l.mergeSort le := PySem.W.sort_unique T (srtG_ok T l).1 (srtG_ok T l).2
end
def rSortedD (K : PySem.W.Frag) : List V → Hp → VK → Prop := fun vs H Q => ∃ (a : Addr) (bs : List (PyData × V)), vs = [V.ref a] ∧ SqL K H a (bs.map (·.2)) ∧ (∀ b ∈ bs, Dp K H b.2 b.1) ∧ ((PySem.W.AllAlike (bs.map (·.1)) ∧ PySem.W.Sortable (bs.map (·.1))) ∨ MiP.AllPre (bs.map (·.1))) ∧ (∀ b ∈ bs, SeqAt.shaped b.1 = true) ∧
  ∀ p, H p = none → Q (.ref p) (upd H p (.lst ((bs.mergeSort (PySem.W.dataLe false (·.1))).map (·.2))))
theorem eachOf {H : Hp} {K : PySem.W.Frag} : ∀ {bs : List (PyData × V)} {its : List Value}, Vals (bs.map (·.2)) its → PySem.W.EachIs (fun (u : Value) (b : PyData × V) => RelV b.2 u) its bs
  | [], its, h => by cases h; exact .nil
  | b :: bs, its, h => by
    cases h with
    | cons h1 h2 => exact .cons h1 (eachOf (K := K) (H := H) h2)
theorem eachReads {X : Cx} {pins : List (Addr × Obj)} {σ : L2.St} {H : Hp} {s : Shared} (I : Inv X pins σ H s) : ∀ {bs : List (PyData × V)} {its : List Value}, Vals (bs.map (·.2)) its → (∀ b ∈ bs, Dp X.K H b.2 b.1) → PySem.W.EachIs (fun (u : Value) (b : PyData × V) => ∃ as, Reads s.heap u b.1 as) its bs
  | [], its, h, _ => by cases h; exact .nil
  | b :: bs, its, h, hd => by
    cases h with
    | cons h1 h2 => exact .cons (Dp.reads I b.1 b.2 _ (hd b List.mem_cons_self) h1) (eachReads I h2 fun z hz => hd z (List.mem_cons_of_mem _ hz))
theorem valsOf : ∀ {bs : List (PyData × V)} {out : List Value}, PySem.W.EachIs (fun (u : Value) (b : PyData × V) => RelV b.2 u) out bs → Vals (bs.map (·.2)) out
  | _, _, .nil => .nil
  | _, _, .cons h t => .cons h (valsOf t)
theorem cr_sortedD {X : Cx} (hu : X.A.units + 80 < cLine) : CallR X (.builtin "sorted") (rSortedD X.K) := by
  intro pins s σ H vs us Q I r h
  obtain ⟨a, bs, rfl, hs, hd, hal, hsh, q⟩ := h
  obtain ⟨its, rv, hl, hz⟩ := I.list hs
  rw [Vals.ref1 r]
  rw [List.length_map] at hz
  have hb : ∀ b : PyData × V, b ∈ bs → X.A.units + 2 + b.1.depth < cLine := fun b hb => by
    have := SeqAt.depth_of_shaped (hsh b hb)
    omega
  have fin : ∀ out : List Value, out.length = bs.length → PySem.W.EachIs (fun (u : Value) (b : PyData × V) => RelV b.2 u) out (bs.mergeSort (PySem.W.dataLe false fun b : PyData × V => b.1)) → EP X pins σ Q (.ref (s.heap.objs.size + 1)) { s with heap := sortedAll s.heap its out.toArray } := fun out ho eo => by
    obtain ⟨ep, he'⟩ := PyProof.Rows.sortedAll_at s.heap its out.toArray
    have rv' := valsOf eo
    have hlen : ((bs.mergeSort (PySem.W.dataLe false (·.1))).map (·.2)).length ≤ sizeLine := by
      rw [List.length_map, List.length_mergeSort]; exact hz
    exact ⟨.ref _, upd H (s.heap.objs.size + 1) (.lst ((bs.mergeSort (PySem.W.dataLe false (·.1))).map (·.2))), I.laid (t' := s.toks) (fun _ _ => PyProof.Rows.sortedAll_old) (Nat.le_succ _) ⟨hlen, out, ep, rv', he'⟩, rfl, q _ (I.hok.fresh (Nat.le_succ _))⟩
  rcases hal with ⟨hal, hk⟩ | hal
  · exact PySem.W.sorted_data (enc := fun b : PyData × V => b.1) hl.isList (eachOf (K := X.K) (H := H) rv) (eachReads I rv hd) hal hk hz hb fin
  · exact MiP.sorted_pre (enc := fun b : PyData × V => b.1) hl.isList (eachOf (K := X.K) (H := H) rv) (eachReads I rv hd) hal hz hb fin
/-- in PV -/
def pairD (s : Sto) : List PV → Option (List (PyData × PV))
  | [] => some []
  | x :: xs => match toD s x with
    | some d => match pairD s xs with
      | some r => some ((d, x) :: r)
      | none => none
    | none => none
def allAlikeB : List PyData → Bool
  | [] => true
  | d :: ds => (bif PySem.W.alike d d then (ds.all fun e => PySem.W.alike d e && PySem.W.alike e d) else false) && allAlikeB ds
theorem allAlikeB_ok : ∀ {ds : List PyData}, allAlikeB ds = true → PySem.W.AllAlike ds
  | [], _ => fun d hd => by cases hd
  | d :: ds, h => by
    unfold allAlikeB at h
    rw [Bool.and_eq_true] at h
    obtain ⟨h1, h2⟩ := h
    have ih := allAlikeB_ok h2
    cases e : PySem.W.alike d d with
    | false => rw [e] at h1; cases h1
    | true =>
      rw [e] at h1
      have h1 : ds.all (fun e => PySem.W.alike d e && PySem.W.alike e d) = true := h1
      have h3 : ∀ z ∈ ds, PySem.W.alike d z = true ∧ PySem.W.alike z d = true := fun z hz => by
        have := List.all_eq_true.mp h1 z hz
        rw [Bool.and_eq_true] at this
        exact this
      intro x hx y hy
      rcases List.mem_cons.mp hx with rfl | hx
      · rcases List.mem_cons.mp hy with rfl | hy
        · exact e
        · exact (h3 y hy).1
      · rcases List.mem_cons.mp hy with q | hy
        · rw [q]; exact (h3 x hx).2
        · exact ih x hx y hy
def tupB : PyData → Bool
  | .tuple (_ :: _) => true
  | _ => false
def flatB : PyData → Bool
  | .tuple _ => false
  | .none => false
  | _ => true
theorem sortable_ok {ds : List PyData} (h : (ds.all tupB || ds.all flatB) = true) : PySem.W.Sortable ds := by
  rw [Bool.or_eq_true] at h
  rcases h with h | h
  · refine .inl fun d hd => ?_
    have := List.all_eq_true.mp h d hd
    unfold tupB at this
    split at this
    · exact ⟨_, _, rfl⟩
    · cases this
  · refine .inr fun d hd => ?_
    have := List.all_eq_true.mp h d hd
    exact ⟨(fun e => by rw [e] at this; cases this), (fun xs e => by rw [e] at this; cases this)⟩
def headB : PyData → List PyData
  | .tuple xs => xs
  | _ => []
def allPreB (ds : List PyData) : Bool := ds.all tupB && ds.all fun d => ds.all fun e => MiP.alikePre (headB d) (headB e)
theorem allPreB_ok {ds : List PyData} (h : allPreB ds = true) : MiP.AllPre ds := by
  unfold allPreB at h
  rw [Bool.and_eq_true] at h
  intro d hd e he
  have h1 := List.all_eq_true.mp h.1 d hd
  have h2 := List.all_eq_true.mp h.1 e he
  have h3 := List.all_eq_true.mp (List.all_eq_true.mp h.2 d hd) e he
  unfold tupB at h1 h2
  split at h1
  · split at h2
    · exact ⟨_, _, _, _, rfl, rfl, h3⟩
    · cases h2
  · cases h1
def gSortD (fr : Bool) : GC := fun xs s => match xs with
  | [x] => match getF s x with
    | some ys => match pairD s ys with
      | some bs => bif ((allAlikeB (bs.map (·.1)) && ((bs.map (·.1)).all tupB || (bs.map (·.1)).all flatB)) || allPreB (bs.map (·.1))) && (bs.map (·.1)).all SeqAt.shaped then fresh fr ((srtG (PySem.W.dataLe false (·.1)) bs).map (·.2)) s else .bad
      | none => .bad
    | none => .bad
  | _ => .bad
section
variable {K : PySem.W.Frag} {H : Hp} {ρ : Rh} {sto : Sto}
/-- the pairs of PV and V go together -/
def trip : List (PyData × PV) → List V → List ((PyData × PV) × V)
  | b :: bs, v :: vs => (b, v) :: trip bs vs
  | _, _ => []
theorem pairD_ok : ∀ {ys : List PV} {zs : List V} {bs : List (PyData × PV)}, RVs K H ρ ys zs → pairD sto ys = some bs → bs.map (·.2) = ys ∧ bs.length = zs.length ∧ (∀ t ∈ trip bs zs, RV K H ρ t.1.2 t.2 ∧ Dp K H t.2 t.1.1)
  | [], _, _, r, h => by cases r; cases h; exact ⟨rfl, rfl, fun t ht => by cases ht⟩
  | x :: xs, _, bs, r, h => by
    obtain ⟨v, ws, rfl, h2, h3⟩ := r
    unfold pairD at h
    split at h
    · rename_i d e1
      split at h
      · rename_i r' e2
        cases h
        obtain ⟨k1, k2, k3⟩ := pairD_ok h3 e2
        refine ⟨by simp [k1], by simp [k2], fun t ht => ?_⟩
        rcases List.mem_cons.mp ht with rfl | ht
        · exact ⟨h2, toD_ok h2 e1⟩
        · exact k3 t ht
      · cases h
    · cases h
theorem trip_fst : ∀ {bs : List (PyData × PV)} {vs : List V}, bs.length = vs.length → (trip bs vs).map (·.1) = bs ∧ (trip bs vs).map (·.2) = vs
  | [], [], _ => ⟨rfl, rfl⟩
  | [], _ :: _, h => by cases h
  | _ :: _, [], h => by cases h
  | b :: bs, v :: vs, h => by
    obtain ⟨h1, h2⟩ := trip_fst (bs := bs) (vs := vs) (by simpa using h)
    exact ⟨by simp [trip, h1], by simp [trip, h2]⟩
theorem rvs_trip : ∀ {ts : List ((PyData × PV) × V)}, (∀ t ∈ ts, RV K H ρ t.1.2 t.2) → RVs K H ρ (ts.map fun t => t.1.2) (ts.map (·.2))
  | [], _ => .nil
  | t :: ts, h => .cons (h t List.mem_cons_self) (rvs_trip fun z hz => h z (List.mem_cons_of_mem _ hz))
end
theorem g_sortD {K : PySem.W.Frag} {fr : Bool} : SRc K (rSortedD K) (gSortD fr) := by
  intro WP H ρ sto xs vs Q S r P
  unfold gSortD at P
  split at P
  · obtain ⟨v, rfl, rv⟩ := r.one
    split at P
    · rename_i ys e
      split at P
      · rename_i bs e2
        obtain ⟨hc, P⟩ := and_of (C := Post K WP H ρ (GV K Q)) P (fun z => z)
        rw [Bool.and_eq_true, Bool.or_eq_true, Bool.and_eq_true] at hc
        obtain ⟨hc1, hc3⟩ := hc
        obtain ⟨a, zs, rfl, h1, h2⟩ := getF_ok S rv e
        obtain ⟨k1, k2, k3⟩ := pairD_ok h2 e2
        obtain ⟨f1, f2⟩ := trip_fst k2
        have em : ((trip bs zs).map fun t => (t.1.1, t.2)).map (·.1) = bs.map (·.1) := by
          rw [List.map_map, ← f1, List.map_map]
          rw [f1]
          rfl
        have em2 : ((trip bs zs).map fun t => (t.1.1, t.2)).map (·.2) = zs := by
          rw [List.map_map]
          exact f2
        refine ⟨a, (trip bs zs).map fun t => (t.1.1, t.2), rfl, by rw [em2]; exact h1, fun b hb => ?_, by rw [em]; exact hc1.imp (fun z => ⟨allAlikeB_ok z.1, sortable_ok z.2⟩) allPreB_ok, fun b hb => ?_, fun p hp => ?_⟩
        · obtain ⟨t, ht, rfl⟩ := List.mem_map.mp hb
          exact (k3 t ht).2
        · have hm : b.1 ∈ bs.map (·.1) := by rw [← em]; exact List.mem_map.mpr ⟨b, hb, rfl⟩
          exact List.all_eq_true.mp hc3 _ hm
        · have s1 : (((trip bs zs).map fun t => (t.1.1, t.2)).mergeSort (PySem.W.dataLe false (·.1))).map (·.2) = ((trip bs zs).mergeSort (PySem.W.dataLe false fun t => t.1.1)).map (·.2) := by
            rw [← List.map_mergeSort (f := fun t : (PyData × PV) × V => (t.1.1, t.2)) (r := PySem.W.dataLe false fun t => t.1.1) fun a _ b _ => rfl, List.map_map]
            rfl
          have s2 : (srtG (PySem.W.dataLe false (·.1)) bs).map (·.2) = ((trip bs zs).mergeSort (PySem.W.dataLe false fun t => t.1.1)).map fun t => t.1.2 := by
            rw [srtG_eq (α := PyData × PV) (le := PySem.W.dataLe false fun b : PyData × PV => b.1) (PySem.W.sortLe_total _ _ _)]
            have := List.map_mergeSort (f := fun t : (PyData × PV) × V => t.1) (r := PySem.W.dataLe false fun t => t.1.1) (s := PySem.W.dataLe false fun b : PyData × PV => b.1) (l := trip bs zs) fun a _ b _ => rfl
            rw [show (fun t : (PyData × PV) × V => t.1) = (·.1) from rfl, f1] at this
            rw [← this, List.map_map]
            rfl
          rw [s1]
          rw [s2] at P
          exact fresh_ok S (rvs_trip fun t ht => (k3 t (List.mem_mergeSort.mp ht)).1) P hp
      · exact P.elim
    · exact P.elim
  · exact P.elim
section
variable {X : Cx} {W : WK} {e : Expr} {p pos : Pos} {es : List Expr} {ms : MA}
theorem e_sortD {fr : Bool} (hu : X.A.units + 80 < cLine) (gl : Gl X "sorted") (hm : X.mg "sorted" = none) (ha : MEs X W (e :: es) ms) (he : starEach (e :: es) X.env = (false, eval e X.env) :: starEach es X.env := by rfl) (hpl : (backTo pos (starEach es X.env)).any (·.1) = false := by rfl) :
    ME X W (.Call (.Name "sorted" p) (e :: es) [] pos) (mCall (gSortD fr) ms) := e_callB (cr_sortedD hu) g_sortD gl hm (by decide +kernel) ha (by decide) (by decide) he hpl
theorem hu80 {A : Around} {k : Nat} (hr : Room k A) : A.units + 80 < cLine := by have := hr.un; omega
theorem hu64 {A : Around} {k : Nat} (hr : Room k A) : A.units + 64 < cLine := by have := hr.un; omega
end
end Mi

noncomputable section
namespace Mi
open PySem PySem.Spec PyProof.Rows L2

/-! ### list(d), dict(d) of a dict -/
def keyPV : Key → PV
  | .inl i => .int i
  | .inr x => .str x
theorem keyPV_ok {K : PySem.W.Frag} {H : Hp} {ρ : Rh} : ∀ k : Key, RV K H ρ (keyPV k) (kV k)
  | .inl _ => rfl
  | .inr _ => rfl
theorem keysPV {K : PySem.W.Frag} {H : Hp} {ρ : Rh} : ∀ {kvs : List (Key × PV)} {yvs : List (Key × V)}, kvs.map (·.1) = yvs.map (·.1) → RVs K H ρ (kvs.map fun p => keyPV p.1) (yvs.map fun p => kV p.1)
  | [], [], _ => .nil
  | [], _ :: _, h => by cases h
  | _ :: _, [], h => by cases h
  | p :: kvs, q :: yvs, h => by
    simp only [List.map_cons, List.cons.injEq] at h
    refine .cons ?_ (keysPV h.2)
    show RV K H ρ (keyPV p.1) (kV q.1)
    rw [← h.1]
    exact keyPV_ok p.1
def gListD (fr : Bool) : GC := fun xs s => match xs with
  | [x] => match dOf s x with
    | some (_, kvs) => fresh fr (kvs.map fun p => keyPV p.1) s
    | none => .bad
  | _ => .bad
def gDictD : GC := fun xs s => match xs with
  | [x] => match dOf s x with
    | some (_, kvs) => .ok (.box s.length) (s ++ [.d kvs])
    | none => .bad
  | _ => .bad
def gLenDD : GC := fun xs s => match xs with
  | [x] => match dOf s x with
    | some (_, kvs) => bif Nat.ble kvs.length sizeLine then .ok (.int kvs.length) s else .bad
    | none => .bad
  | _ => .bad
theorem g_listD {K : PySem.W.Frag} {fr : Bool} : SRc K (fun xs H Q => ∃ (a : Addr) (kvs : List (Key × V)), xs = [.ref a] ∧ Rd H a (.dK kvs) ∧ ∀ p, H p = none → Q (.ref p) (upd H p (.lst (kvs.map fun kv => kV kv.1)))) (gListD fr) := by
  intro WP H ρ sto xs vs Q S r P
  unfold gListD at P
  split at P
  · obtain ⟨v, rfl, rv⟩ := r.one
    split at P
    · rename_i n kvs e
      obtain ⟨a, yvs, _, rfl, _, h1, h2⟩ := dOf_ok S rv e
      exact ⟨a, yvs, rfl, .inl h1, fun p hp => fresh_ok S (keysPV h2.1) P hp⟩
    · exact P.elim
  · exact P.elim
theorem g_dictD {K : PySem.W.Frag} : SRc K (fun xs H Q => ∃ (a : Addr) (kvs : List (Key × V)), xs = [.ref a] ∧ Rd H a (.dK kvs) ∧ ∀ p, H p = none → Q (.ref p) (upd H p (.dK kvs))) gDictD := by
  intro WP H ρ sto xs vs Q S r P
  unfold gDictD at P
  split at P
  · obtain ⟨v, rfl, rv⟩ := r.one
    split at P
    · rename_i n kvs e
      obtain ⟨a, yvs, _, rfl, _, h1, h2⟩ := dOf_ok S rv e
      refine ⟨a, yvs, rfl, .inl h1, fun p hp => ?_⟩
      obtain ⟨x, S2⟩ := S.newBx (b := .d kvs) (o := .dK yvs) hp fun H1 x e => ⟨yvs, e, h2.1, h2.2.mono x⟩
      exact P _ _ x S2 _ ⟨p, rfl, by rw [← S.len]; simp⟩
    · exact P.elim
  · exact P.elim
section
variable {X : Cx} {W : WK} {e : Expr} {p pos : Pos} {es : List Expr} {ms : MA}
theorem e_listD {fr : Bool} (hc : X.calm = true) (gl : Gl X "list") (hm : X.mg "list" = none) (ha : MEs X W (e :: es) ms) (he : starEach (e :: es) X.env = (false, eval e X.env) :: starEach es X.env := by rfl) (hpl : (backTo pos (starEach es X.env)).any (·.1) = false := by rfl) :
    ME X W (.Call (.Name "list" p) (e :: es) [] pos) (mCall (gListD fr) ms) := e_callTy (call_listD hc) g_listD gl hm (by decide +kernel) ha (by decide) (by decide) he hpl
theorem e_dictD (gl : Gl X "dict") (hm : X.mg "dict" = none) (ha : MEs X W (e :: es) ms) (he : starEach (e :: es) X.env = (false, eval e X.env) :: starEach es X.env := by rfl) (hpl : (backTo pos (starEach es X.env)).any (·.1) = false := by rfl) :
    ME X W (.Call (.Name "dict" p) (e :: es) [] pos) (mCall gDictD ms) := e_callTy call_dictD g_dictD gl hm (by decide +kernel) ha (by decide) (by decide) he hpl
end

/-! ** of bigger numbers -/
def CPowB (i j : Int) : Prop := 0 ≤ j ∧ (Builtin.Int.intBits i : Int) * j ≤ 2 ^ 27
def cPowB (i j : Int) : Bool := match j with
  | .ofNat n => Nat.ble ((i.natAbs.log2 + 1) * n) 134217728
  | .negSucc _ => false
theorem cPowB_ok (i j : Int) (h : cPowB i j = true) : CPowB i j := by
  unfold cPowB at h
  split at h
  · rename_i n
    have h1 := Nat.le_of_ble_eq_true h
    refine ⟨Int.natCast_nonneg n, ?_⟩
    have h2 : Builtin.Int.intBits i ≤ i.natAbs.log2 + 1 := by
      unfold Builtin.Int.intBits
      split <;> omega
    have h3 : Builtin.Int.intBits i * n ≤ 134217728 := Nat.le_trans (Nat.mul_le_mul_right n h2) h1
    show (Builtin.Int.intBits i : Int) * ((n : Nat) : Int) ≤ 2 ^ 27
    omega
  · cases h
def gPowB : G2 := gI cPowB fun i j => .int (i ^ j.toNat)
section
variable {X : Cx} {W : WK} {a b : Expr} {ma mb : M} {pos : Pos}
theorem op_powB : OpR X (binaryOp .Pow) (rI CPowB fun i j => .int (i ^ j.toNat)) := opI fun _ _ _ _ _ _ _ hc q => pow_int hc.1 hc.2 q
theorem e_powB (ha : ME X W a ma) (hb : ME X W b mb) : ME X W (.BinOp a .Pow b pos) (mBin gPowB ma mb) := e_op op_powB (g_I cPowB_ok fun _ _ _ _ => rfl) ha hb
end
end Mi

noncomputable section
namespace Mi
open PySem PySem.Spec PyProof.Rows L2

/-! ### a list or a dict that stands locked while something walks it -/
def lkB : Bx → Option Bx
  | .l xs => some (.y xs)
  | .d kvs => some (.z kvs)
  | _ => none
def ulB : Bx → Option Bx
  | .y xs => some (.l xs)
  | .z kvs => some (.d kvs)
  | _ => none
def boxI (s : Sto) : R PV → Option (Nat × Bx)
  | .ok (.box n) _ => match s[n]? with
    | some b => match lkB b with
      | some c => some (n, c)
      | none => none
    | none => none
  | _ => none
def ulS (s : Sto) (n : Nat) : Option Sto := match s[n]? with
  | some b => match ulB b with
    | some c => some (s.set n c)
    | none => none
  | none => none
def unlk (n : Nat) : R PV → R PV
  | .ok v s => match ulS s n with
    | some s' => .ok v s'
    | none => .bad
  | _ => .bad
def unlkF (n : Nat) : Fl → Fl
  | .nx e s => match ulS s n with
    | some s' => .nx e s'
    | none => .bad
  | .rt v s => match ulS s n with
    | some s' => .rt v s'
    | none => .bad
  | _ => .bad
/-- me: what is walked -/
def mLock (me m : M) : M := fun env s => match boxI s (me env s) with
  | some (n, b) => unlk n (m env (s.set n b))
  | none => m env s
def sLock (me : M) (m : MS) : MS := fun env s => match boxI s (me env s) with
  | some (n, b) => unlkF n (m env (s.set n b))
  | none => m env s
theorem boxI_ok {s : Sto} {r : R PV} {n : Nat} {b : Bx} (h : boxI s r = some (n, b)) : ∃ b0, s[n]? = some b0 ∧ lkB b0 = some b := by
  unfold boxI at h
  split at h
  · split at h
    · rename_i b0 e
      split at h
      · rename_i c e2
        cases h
        exact ⟨b0, e, e2⟩
      · cases h
    · cases h
  · cases h
theorem ulS_ok {s s' : Sto} {n : Nat} (h : ulS s n = some s') : ∃ b c, s[n]? = some b ∧ ulB b = some c ∧ s' = s.set n c := by
  unfold ulS at h
  split at h
  · rename_i b e
    split at h
    · rename_i c e2
      cases h
      exact ⟨b, c, e, e2, rfl⟩
    · cases h
  · cases h
section
variable {K : PySem.W.Frag} {H H1 : Hp} {ρ ρ1 : Rh} {sto : Sto} {a : Addr} {o u : HO} {n : Nat}
theorem extV_upd (hb : a ∈ ρ.bx) : ExtV ρ H ρ (upd H a o) := ⟨⟨[], by simp, by simp⟩, rs_refl, fun b v h n _ => by rw [upd_ne fun q => n (by rw [q]; exact hb)]; exact h⟩
theorem RSt.reB {b : Bx} (S : RSt K H ρ sto) (ha : ρ.bx[n]? = some a) (r : RB K (upd H a o) ρ a b) : RSt K (upd H a o) ρ (sto.set n b) := by
  have hb := List.mem_of_getElem? ha
  have X : ExtV ρ H ρ (upd H a o) := extV_upd hb
  refine ⟨S.nd, by rw [List.length_set]; exact S.len, fun k c z e1 e2 => ?_, fun c hc => ⟨has_upd c (S.rsv c hc).1, (S.rsv c hc).2⟩, fun c hc => ?_⟩
  · by_cases hk : n = k
    · subst hk
      rw [ha] at e1; cases e1
      rw [List.getElem?_set_self (S.lt ha)] at e2
      cases e2
      exact r
    · rw [List.getElem?_set_ne hk] at e2
      have : c ≠ a := fun q => by
        subst q
        have h3 := (List.getElem?_eq_some_iff.mp ha)
        have h4 := (List.getElem?_eq_some_iff.mp e1)
        exact hk ((List.getElem_inj S.nd).mp (h3.2.trans h4.2.symm))
      exact (S.at_ k c z e1 e2).imp (fun r => r.monoV X) fun u q => by rw [upd_ne this]; exact q
  · obtain ⟨h1, h2, h3⟩ := S.tb c hc
    exact ⟨by rw [upd_ne fun q => h2 (by rw [q]; exact hb)]; exact h1, h2, h3⟩
theorem REnv.monoV (e : ExtV ρ H ρ1 H1) {env : Env} {σ : L2.St} (h : REnv K H ρ env σ) : REnv K H1 ρ1 env σ :=
  ⟨h.1, fun i p q => let ⟨v, h1, h2⟩ := h.2 i p q; ⟨v, h1, h2.monoV e⟩⟩
theorem lk_rb {b c : Bx} (hb : a ∈ ρ.bx) (r : RB K H ρ a b) (h : lkB b = some c) : ∃ u, H a = some u ∧ Mut (some u) ∧ ∀ od, RB K (upd H a (.frz od u)) ρ a c := by
  cases b with
  | l xs =>
    cases h
    obtain ⟨ys, h1, h2⟩ := r
    exact ⟨_, h1, trivial, fun od => ⟨od, ys, upd_same, h2.monoV (extV_upd hb)⟩⟩
  | d kvs =>
    cases h
    obtain ⟨ys, h1, h2, h3⟩ := r
    exact ⟨_, h1, trivial, fun od => ⟨od, ys, upd_same, h2, h3.monoV (extV_upd hb)⟩⟩
  | _ => cases h
theorem ul_rb {b c : Bx} {od : Obj} (hb : a ∈ ρ.bx) (r : RB K H ρ a b) (e : H a = some (.frz od u)) (h : ulB b = some c) : RB K (upd H a u) ρ a c := by
  cases b with
  | y xs =>
    cases h
    obtain ⟨od', ys, h1, h2⟩ := r
    rw [e] at h1
    cases h1
    exact ⟨ys, upd_same, h2.monoV (extV_upd hb)⟩
  | z kvs =>
    cases h
    obtain ⟨od', ys, h1, h2, h3⟩ := r
    rw [e] at h1
    cases h1
    exact ⟨ys, upd_same, h2, h3.monoV (extV_upd hb)⟩
  | _ => cases h
/-- behind the lock, as if it had never been -/
theorem unl_ext (hb : a ∈ ρ.bx) (hu : H a = some u) (x : Ext ρ (upd H a o) ρ1 H1) : Ext ρ H ρ1 (upd H1 a u) := by
  obtain ⟨r, hr, hn⟩ := x.pre
  refine ⟨⟨⟨r, hr, fun c hc => ?_⟩, ⟨⟨x.rs.1.1, fun c hc => ?_⟩, x.rs.2⟩, fun c v h n m => ?_, fun c h => ?_, fun c v hc h => ?_⟩, x.rse, fun c hc n => ?_⟩
  · have := hn c hc
    by_cases q : c = a
    · subst q; rw [upd_same] at this; cases this
    · rw [upd_ne q] at this; exact this
  · rcases x.rs.1.2 c hc with z | z
    · exact .inl z
    · by_cases q : c = a
      · subst q; rw [upd_same] at z; cases z
      · rw [upd_ne q] at z; exact .inr z
  · have q : c ≠ a := fun q => n (by rw [q]; exact hb)
    rw [upd_ne q]
    exact x.keep c v (by rw [upd_ne q]; exact h) n m
  · by_cases q : c = a
    · subst q; rw [upd_same]; exact fun z => by cases z
    · rw [upd_ne q]; exact x.has c (by rw [upd_ne q]; exact h)
  · by_cases q : c = a
    · subst q
      rw [hu] at h; cases h
      exact ⟨u, upd_same, alike_refl u⟩
    · rw [upd_ne q]
      exact x.kd c v hc (by rw [upd_ne q]; exact h)
  · have q : c ≠ a := fun q => n (by rw [q]; exact hb)
    rw [upd_ne q, x.res c hc n, upd_ne q]
theorem unl_st {s1 s2 : Sto} {od : Obj} (ha : ρ.bx[n]? = some a) (x : Ext ρ (upd H a (.frz od u)) ρ1 H1) (S1 : RSt K H1 ρ1 s1) (h : ulS s1 n = some s2) : H1 a = some (.frz od u) ∧ a ∈ ρ1.bx ∧ RSt K (upd H1 a u) ρ1 s2 := by
  obtain ⟨b, c, e1, e2, rfl⟩ := ulS_ok h
  have hb := List.mem_of_getElem? ha
  obtain ⟨o', ho, al⟩ := x.kd a _ hb upd_same
  have al : o' = .frz od u := al
  subst al
  have ha1 := bx_keep x.toExtW ha
  exact ⟨ho, List.mem_of_getElem? ha1, S1.reB ha1 (ul_rb (List.mem_of_getElem? ha1) (S1.at_ n a b ha1 e1) ho e2)⟩
end
section
variable {X : Cx} {W : WK} {e : Expr} {st : Stmt} {m me : M} {ms : MS}
theorem e_lock (me : M) (h : ME X W e m) : ME X W e (mLock me m) := by
  obtain ⟨t, q, s⟩ := h
  refine ⟨fun σ H Q => tLockE t σ H Q ∨ t σ H Q, ⟨fun pins st σ H Q I h => h.elim (fun h => (pe_lock q).run pins st σ H Q I h) fun h => q.run pins st σ H Q I h⟩, fun σ H ρ env sto Q hE hS hP => ?_⟩
  unfold mLock at hP
  split at hP
  · rename_i n b e
    obtain ⟨b0, h0, h1⟩ := boxI_ok e
    obtain ⟨a, ha⟩ : ∃ a, ρ.bx[n]? = some a := ⟨_, List.getElem?_eq_getElem (hS.len ▸ (List.getElem?_eq_some_iff.mp h0).1)⟩
    have hb := List.mem_of_getElem? ha
    obtain ⟨u, hu, mu, hl⟩ := lk_rb hb (hS.at_ n a b0 ha h0) h1
    refine .inl ⟨a, u, hu, mu, fun od => s σ _ ρ env (sto.set n b) _ (hE.monoV (extV_upd hb)) (hS.reB ha (hl od)) ?_⟩
    cases r : m env (sto.set n b) with
    | bad => rw [r] at hP; exact hP.elim
    | ex _ _ => rw [r] at hP; exact hP.elim
    | ok v s1 =>
      rw [r] at hP
      unfold unlk at hP
      intro H' ρ' x S1 y hy
      dsimp only at hP
      split at hP
      · rename_i s2 e2
        obtain ⟨k1, k2, k3⟩ := unl_st ha x S1 e2
        exact ⟨k1, hP _ ρ' (unl_ext hb hu x) k3 y (hy.monoV (extV_upd k2))⟩
      · exact hP.elim
  · exact .inr (s σ H ρ env sto Q hE hS hP)
theorem s_lock (me : M) (h : MSt X W st ms) : MSt X W st (sLock me ms) := by
  obtain ⟨t, q, s⟩ := h
  refine ⟨fun D σ H => tLock t D σ H ∨ t D σ H, ⟨fun pins st σ H D I h => h.elim (fun h => (ps_lock q).run pins st σ H D I h) fun h => q.run pins st σ H D I h⟩, fun D σ H ρ env sto hE hS hP => ?_⟩
  unfold sLock at hP
  split at hP
  · rename_i n b e
    obtain ⟨b0, h0, h1⟩ := boxI_ok e
    obtain ⟨a, ha⟩ : ∃ a, ρ.bx[n]? = some a := ⟨_, List.getElem?_eq_getElem (hS.len ▸ (List.getElem?_eq_some_iff.mp h0).1)⟩
    have hb := List.mem_of_getElem? ha
    obtain ⟨u, hu, mu, hl⟩ := lk_rb hb (hS.at_ n a b0 ha h0) h1
    refine .inl ⟨a, u, hu, mu, fun od => s _ σ _ ρ env (sto.set n b) (hE.monoV (extV_upd hb)) (hS.reB ha (hl od)) ?_⟩
    cases r : ms env (sto.set n b) with
    | nx e1 s1 =>
      rw [r] at hP
      unfold unlkF at hP
      intro σ' H' ρ' x S1 E1
      dsimp only at hP
      split at hP
      · rename_i s2 e2
        obtain ⟨k1, k2, k3⟩ := unl_st ha x S1 e2
        exact ⟨k1, hP σ' _ ρ' (unl_ext hb hu x) k3 (E1.monoV (extV_upd k2))⟩
      · exact hP.elim
    | rt v s1 =>
      rw [r] at hP
      unfold unlkF at hP
      intro y H' ρ' x S1 hy
      dsimp only at hP
      split at hP
      · rename_i s2 e2
        obtain ⟨k1, k2, k3⟩ := unl_st ha x S1 e2
        exact ⟨k1, hP y _ ρ' (unl_ext hb hu x) k3 (hy.monoV (extV_upd k2))⟩
      · exact hP.elim
    | _ => rw [r] at hP; exact hP.elim
  · exact .inr (s D σ H ρ env sto hE hS hP)
end

/-! ### for k in d -/
def iKey (m : M) : MI := fun env s => (m env s).bind fun v s1 => match v with
  | .box n => match s1[n]? with
    | some (.z kvs) => .ok (fun i _ => nthC (kvs.map fun p => keyPV p.1) i) s1
    | _ => .bad
  | _ => .bad
/-! ### reversed(x) -/
def iRv (ms : MA) : MI := fun env s => (ms env s).bind fun vs s1 => match vs with
  | [.tup xs] => .ok (fun i _ => nthC xs.reverse i) s1
  | [.lst xs] => .ok (fun i _ => nthC xs.reverse i) s1
  | [.fro xs] => .ok (fun i _ => nthC xs.reverse i) s1
  | [.box n] => match s1[n]? with
    | some (.y xs) => .ok (fun i _ => nthC xs.reverse i) s1
    | _ => .bad
  | _ => .bad
section
variable {K : PySem.W.Frag} {H0 : Hp} {ρ0 : Rh} {a : Addr}
theorem itk_ok {od : Obj} {kvs : List (Key × PV)} {yvs : List (Key × V)} (hb : a ∈ ρ0.bx) (h : H0 a = some (.frz od (.dK yvs))) (e : kvs.map (·.1) = yvs.map (·.1)) : ItOk K H0 ρ0 (Itk a od yvs) (fun i _ => nthC (kvs.map fun p => keyPV p.1) i) := by
  simp only [nthC_eq]
  intro i H ρ sto x S
  obtain ⟨o', ho, al⟩ := x.kd a _ hb h
  have al : o' = .frz od (.dK yvs) := al
  subst al
  have r : RVs K H ρ (kvs.map fun p => keyPV p.1) (yvs.map fun p => kV p.1) := keysPV e
  have g := get_none r i
  show (match (kvs.map fun p => keyPV p.1)[i]? with
    | some v => _
    | none => _)
  cases e : (kvs.map fun p => keyPV p.1)[i]? with
  | some v =>
    rw [e] at g
    obtain ⟨y, k1, k2⟩ := g
    have hl : i < yvs.length := by simpa using (List.getElem?_eq_some_iff.mp k1).1
    refine ⟨⟨ho, hl⟩, fun z H' hz => ?_⟩
    obtain ⟨rfl, k, w, q1, rfl⟩ := hz
    rw [List.getElem?_map, q1] at k1
    cases k1
    exact ⟨.refl, S, k2⟩
  | none =>
    rw [e] at g
    exact ⟨ho, by simpa using g⟩
theorem rev_at {α : Type} {xs : List α} {i : Nat} : xs.reverse[i]? = if i < xs.length then xs[xs.length - 1 - i]? else none := by
  by_cases h : i < xs.length
  · rw [if_pos h, List.getElem?_reverse h]
  · rw [if_neg h]
    exact List.getElem?_eq_none_iff.mpr (by simpa using h)
theorem itv_ok {xs : List PV} {ys : List V} (h : ∀ ρ H, ExtW ρ0 H0 ρ H → SqL K H a ys) (r : RVs K H0 ρ0 xs ys) : ItOk K H0 ρ0 (Itv K a ys.length) (fun i _ => nthC xs.reverse i) := by
  simp only [nthC_eq]
  intro i H ρ sto x S
  have h1 := h ρ H x
  have r1 := r.mono x
  have hl := r.length
  show (match xs.reverse[i]? with
    | some v => _
    | none => _)
  rw [rev_at]
  by_cases hi : i < xs.length
  · rw [if_pos hi]
    have g := get_none r1 (xs.length - 1 - i)
    cases e : xs[xs.length - 1 - i]? with
    | some v =>
      rw [e] at g
      obtain ⟨y, k1, k2⟩ := g
      refine ⟨⟨by omega, ys, y, h1, by rw [← hl]; exact k1⟩, fun z H' hz => ?_⟩
      obtain ⟨rfl, hz⟩ := hz
      have : some z = some y := (hz ys h1).symm.trans (by rw [← hl]; exact k1)
      cases this
      exact ⟨.refl, S, k2⟩
    | none => exact absurd (List.getElem?_eq_none_iff.mp e) (by omega)
  · rw [if_neg hi]
    show ys.length ≤ i
    omega
theorem itvT_ok {xs : List PV} {ys : List V} (h : FzT K H0 ρ0 a ys) (r : RVs K H0 ρ0 xs ys) : ItOk K H0 ρ0 (RT.ItvT K a ys.length) (fun i _ => nthC xs.reverse i) := by
  simp only [nthC_eq]
  intro i H ρ sto x S
  have h1 := (h.mono x).sq
  have r1 := r.mono x
  have hl := r.length
  show (match xs.reverse[i]? with
    | some v => _
    | none => _)
  rw [rev_at]
  by_cases hi : i < xs.length
  · rw [if_pos hi]
    have g := get_none r1 (xs.length - 1 - i)
    cases e : xs[xs.length - 1 - i]? with
    | some v =>
      rw [e] at g
      obtain ⟨y, k1, k2⟩ := g
      refine ⟨⟨by omega, ys, y, h1, by rw [← hl]; exact k1⟩, fun z H' hz => ?_⟩
      obtain ⟨rfl, hz⟩ := hz
      have : some z = some y := (hz ys h1).symm.trans (by rw [← hl]; exact k1)
      cases this
      exact ⟨.refl, S, k2⟩
    | none => exact absurd (List.getElem?_eq_none_iff.mp e) (by omega)
  · rw [if_neg hi]
    show ys.length ≤ i
    omega
end
section
variable {X : Cx} {W : WK} {tg e : Expr} {m : M} {ms : MA} {p pos : Pos}
theorem i_key (h : ME X W e m) : MIr X W tg e (iKey m) := by
  obtain ⟨t, q, s⟩ := h
  refine ⟨_, pi_keys q, fun σ H ρ env sto Rk hE hS hP => ?_⟩
  refine s σ H ρ env sto _ hE hS ((hP.bind hS).imp fun v s1 H1 ρ1 x1 S1 P1 y hy => ?_)
  split at P1
  · rename_i n
    obtain ⟨a, rfl, ha⟩ := hy
    split at P1
    · rename_i kvs e1
      obtain ⟨od, yvs, h1, h2, h3⟩ := S1.at_ n a _ ha e1
      exact ⟨a, od, rfl, .inl ⟨yvs, h1, P1 H1 ρ1 .refl S1 _ (itk_ok (List.mem_of_getElem? ha) h1 h2)⟩⟩
    · exact P1.elim
  · exact P1.elim
theorem i_rv (hg : Gl X "reversed") (hm : X.mg "reversed" = none) (ha : ME X W e m) (he : starEach [e] X.env = (false, eval e X.env) :: starEach [] X.env := by rfl) : MIr X W tg (.Call (.Name "reversed" p) [e] [] pos) (iRv (mCons m mNil)) := by
  obtain ⟨t, q, s⟩ := ha
  refine ⟨_, RT.pi_revA hg hm q he, fun σ H ρ env sto Rk hE hS hP => ?_⟩
  unfold iRv mCons mNil at hP
  cases r : m env sto with
  | bad => rw [r] at hP; exact hP.elim
  | ex x s1 =>
    rw [r] at hP
    exact s σ H ρ env sto _ hE hS (by rw [r]; exact hP)
  | ok v s1 =>
    rw [r] at hP
    refine s σ H ρ env sto _ hE hS ?_
    rw [r]
    intro H1 ρ1 x1 S1 y hy
    cases v with
    | tup xs =>
      obtain ⟨a, ys, rfl, h1, h2⟩ := hy
      have P1 := hP H1 ρ1 x1 S1
      exact ⟨a, ys, rfl, .inr ⟨h1.sq, P1 _ (itvT_ok h1 h2)⟩⟩
    | lst xs =>
      obtain ⟨a, ys, rfl, h1, h2⟩ := hy
      have P1 := hP H1 ρ1 x1 S1
      exact ⟨a, ys, rfl, .inl ⟨h1.sq, P1 _ (itv_ok (fun ρ H x => (h1.mono x).sq) h2)⟩⟩
    | fro xs =>
      obtain ⟨a, ys, rfl, h1, h2⟩ := hy
      have P1 := hP H1 ρ1 x1 S1
      exact ⟨a, ys, rfl, .inl ⟨h1.sq, P1 _ (itv_ok (fun ρ H x => (h1.mono x).sq) h2)⟩⟩
    | box n =>
      obtain ⟨a, rfl, ha⟩ := hy
      have hP : Post X.K (fun c d h => W c d σ h) H ρ (fun J _ H' ρ' => ∀ Jh, ItOk X.K H' ρ' Jh J → Rk Jh H') (match s1[n]? with
        | some (.y xs) => .ok (fun i _ => nthC xs.reverse i) s1
        | _ => .bad) := hP
      split at hP
      · rename_i xs e1
        obtain ⟨od, ys, h1, h2⟩ := S1.at_ n a _ ha e1
        have P1 := hP H1 ρ1 x1 S1
        refine ⟨a, ys, rfl, .inl ⟨.inl (.inr ⟨od, h1⟩), P1 _ (itv_ok (fun ρ H x => ?_) h2)⟩⟩
        obtain ⟨o', ho, al⟩ := x.kd a _ (List.mem_of_getElem? ha) h1
        have al : o' = .frz od (.lst ys) := al
        subst al
        exact .inl (.inr ⟨od, ho⟩)
      · exact hP.elim
    | _ => exact (show False from hP).elim
end

/-! ### << and >> -/
def cShl (i j : Int) : Bool := match j with
  | .ofNat n => Nat.ble (i.natAbs.log2 + 1 + n) 134217728
  | .negSucc _ => false
theorem cShl_ok (i j : Int) (h : cShl i j = true) : CShl i j := by
  unfold cShl at h
  split at h
  · rename_i n
    have h1 := Nat.le_of_ble_eq_true h
    refine ⟨Int.natCast_nonneg n, ?_⟩
    have h2 : Builtin.Int.intBits i ≤ i.natAbs.log2 + 1 := by
      unfold Builtin.Int.intBits
      split <;> omega
    show (Builtin.Int.intBits i : Int) + ((n : Nat) : Int) ≤ 2 ^ 27
    omega
  · cases h
def cShr (_ j : Int) : Bool := match j with
  | .ofNat _ => true
  | .negSucc _ => false
theorem cShr_ok (i j : Int) (h : cShr i j = true) : 0 ≤ j := by
  unfold cShr at h
  split at h
  · exact Int.natCast_nonneg _
  · cases h
/-- 2 ^ n by the kernel's own numbers -/
def two (n : Nat) : Int := Int.ofNat (2 ^ n)
theorem two_eq (n : Nat) : two n = 2 ^ n := by
  unfold two
  show (((2 : Nat) ^ n : Nat) : Int) = 2 ^ n
  rw [Int.natCast_pow]
  rfl
def gShl : G2 := gI cShl fun i j => .int (i * two j.toNat)
def gShr : G2 := gI cShr fun i j => .int (i / two j.toNat)
def bitsN (i : Int) : Nat := bif Nat.beq i.natAbs 0 then 0 else i.natAbs.log2 + 1
theorem bitsN_eq (i : Int) : bitsN i = Builtin.Int.intBits i := by
  unfold bitsN Builtin.Int.intBits
  by_cases h : i = 0
  · subst h; rfl
  · have h1 : Nat.beq i.natAbs 0 = false := by
      cases q : Nat.beq i.natAbs 0 with
      | false => rfl
      | true => exact absurd (Nat.eq_of_beq_eq_true q) (by omega)
    rw [h1, if_neg (by simpa using h)]
    rfl
def mBits (m : M) : M := fun env s => (m env s).bind fun v s1 => match v with
  | .int i => .ok (.int (bitsN i : Nat)) s1
  | _ => .bad
section
variable {X : Cx} {W : WK} {a b o : Expr} {ma mb mo : M} {pos apos : Pos}
theorem e_shl (ha : ME X W a ma) (hb : ME X W b mb) : ME X W (.BinOp a .LShift b pos) (mBin gShl ma mb) := e_op op_shlW (g_I cShl_ok fun _ _ _ _ => by rw [two_eq]; rfl) ha hb
theorem e_shr (ha : ME X W a ma) (hb : ME X W b mb) : ME X W (.BinOp a .RShift b pos) (mBin gShr ma mb) := e_op op_shr (g_I cShr_ok fun _ _ _ _ => by rw [two_eq]; rfl) ha hb
theorem e_bits (ho : ME X W o mo) (hbase : attributeBase o "bit_length" X.env (eval o X.env) = eval o X.env := by rfl) (hline : (apos.endLine == pos.line) = true := by rfl) : ME X W (.Call (.Attribute o "bit_length" apos) [] [] pos) (mBits mo) := by
  obtain ⟨t, q, s⟩ := ho
  refine ⟨_, pe_bits q hbase hline, fun σ H ρ env sto Q hE hS hP => ?_⟩
  refine s σ H ρ env sto _ hE hS ((hP.bind hS).imp fun v s1 H1 ρ1 x1 S1 P1 y hy => ?_)
  split at P1
  · cases hy
    exact ⟨_, rfl, by rw [← bitsN_eq]; exact now S1 P1 rfl⟩
  · exact P1.elim
end
end Mi

noncomputable section
namespace Mi
open PySem PySem.Spec PyProof.Rows L2

/-! ### range(n), range(a, b) as a value; walked; list(range(..)) -/
section
variable {X : Cx}
theorem cr_range1 : CallR X (.type "range") (fun vs H Q => ∃ j, vs = [V.int j] ∧ ∀ p, H p = none → Q (.ref p) (upd H p (.rng 0 j))) := by
  intro pins s σ H vs us Q I r h
  obtain ⟨j, rfl, q⟩ := h
  obtain ⟨u, rfl, ru⟩ := r.one
  obtain ⟨t, rfl⟩ := ru
  refine call_range_1 ⟨.ref s.heap.objs.size, upd H s.heap.objs.size (.rng 0 j), I.laid (t' := s.toks + 2) (fun b o e => Heap.get?_push_of_some _ e) (Nat.le_refl _) ?_, rfl, q _ (I.hok.fresh (Nat.le_refl _))⟩
  exact ⟨_, _, _, Heap.get?_push_size _ rfl⟩
def iRgT (te : TE) : TI := fun σ H R => te σ H fun x H1 => ∃ a lo hi, x = .ref a ∧ H1 a = some (.rng lo hi) ∧ (-(2 ^ 62) ≤ lo ∧ lo < 2 ^ 62 ∧ -(2 ^ 62) ≤ hi ∧ hi < 2 ^ 62) ∧ R (Itr lo (hi - lo).toNat) H1
theorem pi_rgV {tg e : Expr} {te : TE} (he : PE X e te) : PI X tg e (iRgT te) := by
  refine ⟨fun pins s σ H R I h => ?_⟩
  refine thn (he.run pins s σ H _ I h) fun u s1 ⟨x, H1, I1, rx, a, lo, hi, ex, ha, ⟨b1, b2, b3, b4⟩, q⟩ => ?_
  subst ex
  obtain rfl : u = Value.ref a := rx
  obtain ⟨t, v, w, ho⟩ := I1.hok a _ ha
  refine wpAny_pyIter_range (a := lo) (b := hi) (c := 1) (t := t) (u := v) (v := w) ho (small_one b1 b2 b3 b4) ?_
  refine ⟨s1.heap.objs.size, [s1.heap.objs.size], _, _, H1, rfl, I1.kept (t' := s1.toks) fun b o e => Heap.get?_push_of_some _ e, turn_range _ lo (hi - lo).toNat, ?_, fun b hb => ?_, q⟩
  · have e1 : lo + ((0 : Nat) : Int) * 1 = lo := by simp
    have e2 : (((hi - lo).toNat : Nat) : Int) - ((0 : Nat) : Int) = Builtin.Range.rangeSize lo hi 1 := by rw [rangeSize_one]; split <;> omega
    show IsRangeIter _ _ (lo + ((0 : Nat) : Int) * 1) ((((hi - lo).toNat : Nat) : Int) - ((0 : Nat) : Int)) 1
    rw [e1, e2]
    exact Heap.get?_push_size _ rfl
  · have e : b = s1.heap.objs.size := by simpa using hb
    subst e
    exact I1.fpOk (Nat.le_refl _) (I1.hok.fresh (Nat.le_refl _))
end
def gRg : GC := fun xs s => match xs with
  | [.int j] => .ok (.rg 0 j) s
  | _ => .bad
def iRg (m : M) : MI := fun env s => (m env s).bind fun v s1 => match v with
  | .rg lo hi => bif okR lo hi then .ok (irng lo (hi - lo).toNat) s1 else .bad
  | _ => .bad
theorem g_rg {K : PySem.W.Frag} : SRc K (fun vs H Q => ∃ j, vs = [V.int j] ∧ ∀ p, H p = none → Q (.ref p) (upd H p (.rng 0 j))) gRg := by
  intro WP H ρ sto xs vs Q S r P
  unfold gRg at P
  split at P
  · obtain ⟨v, rfl, hv⟩ := r.one
    cases hv
    refine ⟨_, rfl, fun p hp => P _ ρ (S.ext hp) (S.new hp) _ ⟨p, rfl, upd_same, S.fresh hp, S.freshR hp⟩⟩
  · exact P.elim
section
variable {X : Cx} {W : WK} {tg e : Expr} {es : List Expr} {m : M} {ms : MA} {p pos p2 pos2 : Pos}
theorem e_range1 (gl : Gl X "range") (hm : X.mg "range" = none) (ha : MEs X W (e :: es) ms) (he : starEach (e :: es) X.env = (false, eval e X.env) :: starEach es X.env := by rfl) (hpl : (backTo pos (starEach es X.env)).any (·.1) = false := by rfl) :
    ME X W (.Call (.Name "range" p) (e :: es) [] pos) (mCall gRg ms) := e_callTy cr_range1 g_rg gl hm (by decide +kernel) ha (by decide) (by decide) he hpl
theorem i_rg (h : ME X W e m) : MIr X W tg e (iRg m) := by
  obtain ⟨t, q, s⟩ := h
  refine ⟨_, pi_rgV q, fun σ H ρ env sto Rk hE hS hP => ?_⟩
  refine s σ H ρ env sto _ hE hS ((hP.bind hS).imp fun v s1 H1 ρ1 x1 S1 P1 y hy => ?_)
  split at P1
  · rename_i lo hi
    obtain ⟨a, rfl, h1, _, _⟩ := hy
    obtain ⟨hq, P1⟩ := and_of (C := Post X.K _ H1 ρ1 _) P1 (fun z => z)
    have hq := of_decide_eq_true hq
    exact ⟨a, lo, hi, rfl, h1, hq, P1 H1 ρ1 .refl S1 _ irng_ok⟩
  · exact P1.elim
/-- list(range(e)) -/
def rgP (n : Nat) (i : Int) : List PV := match n with
  | 0 => []
  | n + 1 => .int i :: rgP n (i + 1)
def mLstRg (fr : Bool) (m : M) : M := fun env s => (m env s).bind fun v s1 => match v with
  | .int j => bif Nat.ble j.toNat 16777216 then (bif cShr 0 j then fresh fr (rgP j.toNat 0) s1 else .bad) else .bad
  | _ => .bad
theorem rgP_ok {K : PySem.W.Frag} {H : Hp} {ρ : Rh} : ∀ (n : Nat) (a : Int), RVs K H ρ (rgP n a) ((List.range n).map fun i => V.int (a + (i : Nat)))
  | 0, _ => rfl
  | n + 1, a => by
    rw [List.range_succ_eq_map, List.map_cons, List.map_map]
    refine .cons (by show V.int (a + ((0 : Nat) : Int)) = V.int a; simp) ?_
    have := rgP_ok (K := K) (H := H) (ρ := ρ) n (a + 1)
    have e : ((fun i : Nat => V.int (a + (i : Int))) ∘ Nat.succ) = fun i : Nat => V.int (a + 1 + (i : Int)) := by
      funext i
      show V.int (a + ((i + 1 : Nat) : Int)) = _
      congr 1
      omega
    rw [e]
    exact this
theorem e_lstRg (fr : Bool) (hc : X.calm = true) (gr : Gl X "range") (hmr : X.mg "range" = none) (gl : Gl X "list") (hm : X.mg "list" = none) (h : ME X W e m) (na : starEach [e] X.env = (false, eval e X.env) :: starEach [] X.env := by rfl)
    (na2 : starEach [.Call (.Name "range" p2) [e] [] pos2] X.env = (false, eval (.Call (.Name "range" p2) [e] [] pos2) X.env) :: starEach [] X.env := by rfl) :
    ME X W (.Call (.Name "list" p) [.Call (.Name "range" p2) [e] [] pos2] [] pos) (mLstRg fr m) := by
  obtain ⟨t, q, s⟩ := h
  refine ⟨_, pe_listRg hc gl hm (prg_1 gr hmr q na) na2, fun σ H ρ env sto Q hE hS hP => ?_⟩
  refine s σ H ρ env sto _ hE hS ((hP.bind hS).imp fun v s1 H1 ρ1 x1 S1 P1 y hy => ?_)
  split at P1
  · rename_i j
    cases hy
    obtain ⟨hq, P1⟩ := and_of (C := Post X.K _ H1 ρ1 _) P1 (fun z => z)
    obtain ⟨hq2, P1⟩ := and_of (C := Post X.K _ H1 ρ1 _) P1 (fun z => z)
    have hq := Nat.le_of_ble_eq_true hq
    have hq2 := cShr_ok 0 j hq2
    refine ⟨j, rfl, ⟨by omega, by omega, by omega, by omega, by omega⟩, fun p hp => ?_⟩
    have e : rgV 0 j = (List.range j.toNat).map fun i => V.int (0 + (i : Nat)) := by unfold rgV; rw [Int.sub_zero]
    rw [e]
    exact fresh_ok S1 (rgP_ok j.toNat 0) P1 hp
  · exact P1.elim
end

/-! ### xs.pop(), xs.pop(i) -/
def mPop (mo : M) : M := fun env s => (mo env s).bind fun o s1 => match o with
  | .box n => match s1[n]? with
    | some (.l xs) => match nthC xs (xs.length - 1) with
      | some v => .ok v (s1.set n (.l xs.dropLast))
      | none => .bad
    | _ => .bad
  | _ => .bad
theorem RVs.dropL {K : PySem.W.Frag} {H : Hp} {ρ : Rh} : ∀ {xs : List PV} {ys : List V}, RVs K H ρ xs ys → RVs K H ρ xs.dropLast ys.dropLast
  | [], _, h => by cases h; exact rfl
  | [x], _, h => by
    obtain ⟨v, ws, rfl, _, h3⟩ := h
    cases h3
    exact rfl
  | x :: y :: r, _, h => by
    obtain ⟨v, ws, rfl, h2, h3⟩ := h
    have h4 := RVs.dropL h3
    obtain ⟨v2, ws2, rfl, _, _⟩ := h3
    exact ⟨v, _, rfl, h2, h4⟩
theorem RVs.erase {K : PySem.W.Frag} {H : Hp} {ρ : Rh} : ∀ {xs : List PV} {ys : List V} (i : Nat), RVs K H ρ xs ys → RVs K H ρ (xs.eraseIdx i) (ys.eraseIdx i)
  | [], _, _, h => by cases h; exact rfl
  | x :: xs, _, 0, h => by
    obtain ⟨v, ws, rfl, h2, h3⟩ := h
    exact h3
  | x :: xs, _, i + 1, h => by
    obtain ⟨v, ws, rfl, h2, h3⟩ := h
    exact ⟨v, _, rfl, h2, RVs.erase i h3⟩
def mPopAt (mo m : M) : M := fun env s => (mo env s).bind fun o s1 => match o with
  | .box n => match lsO s1[n]? with
    | some _ => (m env s1).bind fun v s2 => match v with
      | .int k => match s2[n]? with
        | some (.l xs) => match ixN xs.length k with
          | some j => match nthC xs j with
            | some w => bif Nat.ble xs.length 16777216 then .ok w (s2.set n (.l (xs.eraseIdx j))) else .bad
            | none => .bad
          | none => .bad
        | _ => .bad
      | _ => .bad
    | none => .bad
  | _ => .bad
section
variable {X : Cx} {W : WK} {o e : Expr} {m mo : M} {pos p : Pos}
theorem e_pop (ho : ME X W o mo) (hbase : attributeBase o "pop" X.env (eval o X.env) = eval o X.env := by rfl) (hline : (p.endLine == pos.line) = true := by rfl) : ME X W (.Call (.Attribute o "pop" p) [] [] pos) (mPop mo) := by
  obtain ⟨t, q, s⟩ := ho
  refine ⟨_, pe_bm0 PySem.F.plainAttrs_list PySem.F.slot_list_pop PySem.F.type_list_pop mt_pop q hbase hline, fun σ H ρ env sto Q hE hS hP => ?_⟩
  refine s σ H ρ env sto _ hE hS ((hP.bind hS).imp fun v s1 H1 ρ1 x1 S1 P1 y hy => ?_)
  split at P1
  · rename_i n
    obtain ⟨a, rfl, ha⟩ := hy
    split at P1
    · rename_i xs e1
      rw [nthC_eq] at P1
      split at P1
      · rename_i v e2
        obtain ⟨ys, h3, h4⟩ := S1.at_ n a _ ha e1
        obtain ⟨x3, S3⟩ := S1.put ha (S1.lt ha) ⟨_, h3⟩ h4.dropL
        obtain ⟨z, k1, k2⟩ := h4.get e2
        exact ⟨.inl ⟨rfl, ys, .of h3⟩, a, ys, z, rfl, rfl, h3, by rw [← h4.length]; exact k1, P1 _ ρ1 x3 S3 _ (k2.mono x3.toExtW)⟩
      · exact P1.elim
    · exact P1.elim
  · exact P1.elim
theorem e_popAt (ho : ME X W o mo) (he : ME X W e m) (hbase : attributeBase o "pop" X.env (eval o X.env) = eval o X.env := by rfl)
    (hfew : ((backTo pos (starEach [e] X.env)).all (fun x => !x.1) && (backToKw pos (keywordEach [] X.env)).all (fun x => x.1.isSome)
      && decide (([e] : List Expr).length + ([] : List Keyword).length + (if ([] : List Keyword).isEmpty then 0 else 1) < 30)) = true := by rfl)
    (hline : (p.endLine == pos.line) = true := by rfl) (hs : starEach [e] X.env = (false, eval e X.env) :: starEach [] X.env := by rfl) (hplain : (backTo pos (starEach [] X.env)).any (·.1) = false := by rfl) :
    ME X W (.Call (.Attribute o "pop" p) [e] [] pos) (mPopAt mo m) := by
  obtain ⟨t, q, s⟩ := ho
  obtain ⟨u, r, z⟩ := he
  refine ⟨_, pe_bm PySem.F.plainAttrs_list PySem.F.slot_list_pop PySem.F.type_list_pop mt_popAt q (pa_cons r pa_nil hs) hbase hfew hline hs hplain, fun σ H ρ env sto Q hE hS hP => ?_⟩
  refine s σ H ρ env sto _ hE hS ((hP.bind hS).imp fun v s1 H1 ρ1 x1 S1 P1 y hy => ?_)
  split at P1
  · rename_i n
    obtain ⟨a, rfl, ha⟩ := hy
    cases e0 : lsO s1[n]? with
    | none => rw [e0] at P1; exact P1.elim
    | some zs =>
    rw [e0] at P1
    obtain ⟨ys0, h30, _⟩ := S1.at_ n a _ ha (lsO_ok e0)
    refine ⟨.inl ⟨rfl, ys0, .of h30⟩, z σ H1 ρ1 env s1 _ (hE.mono x1.toExtW) S1 ((P1.bind S1).imp fun w s2 H2 ρ2 x2 S2 P2 y2 hy2 => ?_)⟩
    split at P2
    · rename_i k
      cases hy2
      split at P2
      · rename_i xs e1
        split at P2
        · rename_i j ej
          rw [nthC_eq] at P2
          split at P2
          · rename_i w2 e2
            obtain ⟨hz, P2⟩ := and_of (C := Post X.K _ H2 ρ2 (GV X.K Q)) P2 (fun z => z)
            have hz := Nat.le_of_ble_eq_true hz
            have ha2 := bx_keep x2.toExtW ha
            obtain ⟨ys, h3, h4⟩ := S2.at_ n a _ ha2 e1
            obtain ⟨x3, S3⟩ := S2.put ha2 (S2.lt ha2) ⟨_, h3⟩ (h4.erase j)
            obtain ⟨z, k1, k2⟩ := h4.get e2
            obtain ⟨j1, j2, j3, j4⟩ := ixN_seq ej
            refine ⟨a, ys, k, j, z, rfl, rfl, h3, by omega, by omega, by rw [← h4.length]; exact j1, k1, P2 _ ρ2 x3 S3 _ (k2.mono x3.toExtW)⟩
          · exact P2.elim
        · exact P2.elim
      · exact P2.elim
    · exact P2.elim
  · exact P1.elim
end
end Mi

noncomputable section
namespace Mi
open PySem PySem.Spec PyProof.Rows L2

/-! ### {k: v for .. in .. if ..}, the keys ints and texts -/
def dcL (J : MIt) (g : MG) (tt : MT) (mk mv : M) (env : Env) : Nat → Nat → List (Key × PV) → Sto → R (List (Key × PV))
  | 0, _, _, _ => .bad
  | n + 1, i, acc, s => match J i s with
    | none => .ok acc s
    | some v => ((g v env s).noex).bind fun env1 s1 => ((tt env1 s1).noex).bind fun c s2 => bif c then
        ((mk env1 s2).noex).bind fun y s3 => ((mv env1 s3).noex).bind fun z s4 => match keyP y with
          | some k => bif Nat.blt acc.length sizeLine then dcL J g tt mk mv env n (i + 1) (putP acc k z) s4 else .bad
          | none => .bad
      else dcL J g tt mk mv env n (i + 1) acc s2
def mDc (N : Nat) (mi : MI) (vs : List Nat) (g : MG) (tt : MT) (mk mv : M) : M := fun env s => (mi env s).bind fun J s1 =>
  ((dcL J g tt mk mv (wipeE env vs) N 0 [] s1).noex).bind fun acc s2 => .ok (.box s2.length) (s2 ++ [.d acc])
section
variable {K : PySem.W.Frag} {H : Hp} {ρ : Rh} {sto : Sto} {D : Addr}
theorem extDk {zs : List (Key × V)} (hm : D ∈ ρ.rs) (hb : D ∉ ρ.bx) : ExtW ρ H ρ (upd H D (.dK zs)) :=
  ⟨⟨[], by simp, by simp⟩, rs_refl, fun a u h _ n => by rw [upd_ne fun q => n (by rw [q]; exact hm)]; exact h, fun a h => has_upd a h, fun a u ha h => ⟨u, by rw [upd_ne (show a ≠ D from fun q => hb (by rw [← q]; exact ha))]; exact h, alike_refl u⟩⟩
theorem RSt.putDk {zs : List (Key × V)} (S : RSt K H ρ sto) (hm : D ∈ ρ.rs) : RSt K (upd H D (.dK zs)) ρ sto :=
  ⟨S.nd, S.len, fun n a b e1 e2 => (S.at_ n a b e1 e2).imp (fun r => r.mono (extDk hm (S.rsv D hm).2)) fun u q => by rw [upd_ne fun q => (S.rsv D hm).2 (by rw [← q]; exact List.mem_of_getElem? e1)]; exact q, fun a ha => ⟨has_upd a (S.rsv a ha).1, (S.rsv a ha).2⟩, S.tbw (extDk hm (S.rsv D hm).2)⟩
end
def PLD (K : PySem.W.Frag) (ρ1 : Rh) (H1 : Hp) (D : Addr) (Q : VK) : R (List (Key × PV)) → Prop
  | .ok acc s => ∀ H' ρ' ys, ExtW ⟨ρ1.bx, D :: ρ1.rs, ρ1.cg⟩ (upd H1 D (.dK [])) ρ' H' → ρ'.rs = D :: ρ1.rs → RSt K H' ρ' s → RKs K H' ρ' acc ys → H' D = some (.dK ys) → (∀ a, a ∈ ρ1.rs → H' a = H1 a) → Q (.ref D) H'
  | .ex _ _ => False
  | .bad => False
section
variable {X : Cx} {W : WK} {elt tg iter c : Expr} {ifs : List Expr} {scope : Scope} {own : List (Str × Nat)} {pos : Pos} {mi : MI} {g : MG} {tt : MT} {mk me : M} {sl : List Nat}
theorem PLD.bind {α : Type} {K : PySem.W.Frag} {ρ1 : Rh} {H1 : Hp} {D : Addr} {Q : VK} {f : α → Sto → R (List (Key × PV))} {WP : XK} {H : Hp} {ρ : Rh} : ∀ {r : R α}, PLD K ρ1 H1 D Q (r.noex.bind f) → Post K WP H ρ (fun a s _ _ => PLD K ρ1 H1 D Q (f a s)) r
  | .ok _ _, h => fun _ _ _ _ => h
  | .ex _ _, h => h.elim
  | .bad, h => h
/-- the reading of a comprehension -/
theorem dc_ok {K : PySem.W.Frag} {vs : List Nat} {wi : TI} {gt : TG} {ttt : TT} {tk tv : TE} (N : Nat) (hi : SI K W wi mi) (hg : SG K WF gt g sl) (ht : ST K WF ttt tt) (hk : SE K WF tk mk) (he : SE K WF tv me) (hs : ∀ j ∈ sl, j ∈ vs) : SE K W (tDc wi gt ttt tk tv vs) (mDc N mi vs g tt mk me) := by
  intro σ H ρ env sto Q hE hS hP
  refine hi σ H ρ env sto _ hE hS ((hP.bind hS).imp fun J s1 H1 ρ1 x1 S1 P1 Jh hJ => ?_)
  intro D hD
  have ED : REnv K (upd H1 D (.dK [])) ⟨ρ1.bx, D :: ρ1.rs, ρ1.cg⟩ (wipeE env vs) (wipe σ vs) := (wipeE_ok (hE.mono x1.toExtW) vs).mono (extR hD)
  have SD : RSt K (upd H1 D (.dK [])) ⟨ρ1.bx, D :: ρ1.rs, ρ1.cg⟩ s1 := S1.res hD
  have hnD : D ∉ ρ1.bx := S1.fresh hD
  have hnR : D ∉ ρ1.rs := S1.freshR hD
  refine ⟨fun i n H => ∃ (ρ : Rh) (s : Sto) (acc : List (Key × PV)) (ys : List (Key × V)), ExtW ⟨ρ1.bx, D :: ρ1.rs, ρ1.cg⟩ (upd H1 D (.dK [])) ρ H ∧ ρ.rs = D :: ρ1.rs ∧ (∀ a, a ∈ ρ1.rs → H a = H1 a) ∧ RSt K H ρ s ∧ H D = some (.dK ys) ∧ RKs K H ρ acc ys ∧
    PLD K ρ1 H1 D Q (dcL J g tt mk me (wipeE env vs) n i acc s), ⟨N, ⟨ρ1.bx, D :: ρ1.rs, ρ1.cg⟩, s1, [], [], Ext.refl.toExtW, rfl, fun a ha => upd_ne fun q => hnR (q ▸ ha), SD, upd_same, .nil, ?_⟩, ?_⟩
  · cases r : dcL J g tt mk me (wipeE env vs) N 0 [] s1 with
    | bad => rw [r] at P1; exact P1.elim
    | ex e s => rw [r] at P1; exact P1.elim
    | ok acc s2 =>
      rw [r] at P1
      have P1' : Post K (fun c d h => W c d σ h) H1 ρ1 (GV K Q) (.ok (.box s2.length) (s2 ++ [.d acc])) := P1
      intro H' ρ' ys xw xr S rv hDy hr
      have hDr : D ∈ ρ'.rs := by rw [xr]; exact List.mem_cons_self
      have hDb : D ∉ ρ'.bx := (S.rsv D hDr).2
      have pre : ∃ r, ρ'.bx = ρ1.bx ++ r ∧ ∀ a ∈ r, H1 a = none := by
        obtain ⟨r, hr, hn⟩ := xw.pre
        refine ⟨r, hr, fun a ha => ?_⟩
        have := hn a ha
        by_cases q : a = D
        · rw [q]; exact hD
        · rw [upd_ne q] at this; exact this
      have keep : ∀ a o, H1 a = some o → a ∉ ρ1.bx → a ∉ ρ1.rs → H' a = some o := fun a o h n m => by
        have qa : a ≠ D := ne_of_none h hD
        exact xw.keep a o (by rw [upd_ne qa]; exact h) n fun z => (List.mem_cons.mp z).elim qa m
      have has : ∀ a, H1 a ≠ none → H' a ≠ none := fun a h => xw.has a (has_upd a h)
      have kd : ∀ a o, a ∈ ρ1.bx → H1 a = some o → ∃ o', H' a = some o' ∧ alike o o' := fun a o hb h => xw.kd a o hb (by rw [upd_ne (ne_of_none h hD)]; exact h)
      have tb : ∀ a, GenTab K a → H' a = some (.ext (G0.tabOk a)) ∧ a ∉ ρ'.bx ∧ a ∉ ρ1.rs := fun a ha => by
        obtain ⟨h1, h2, h3⟩ := S.tb a ha
        exact ⟨h1, h2, fun z => h3 (by rw [xr]; exact List.mem_cons_of_mem _ z)⟩
      have hres : ∀ a, a ∈ ρ1.rs → a ∉ ρ1.bx → H' a = H1 a := fun a ha _ => hr a ha
      have un : ∀ a, a ∈ ρ1.rs → a ∈ ρ'.rs := fun a ha => by rw [xr]; exact List.mem_cons_of_mem _ ha
      obtain ⟨r, hr1, hn⟩ := pre
      have pre2 : ∃ r, ρ'.bx ++ [D] = ρ1.bx ++ r ∧ ∀ a ∈ r, H1 a = none := ⟨r ++ [D], by rw [hr1, List.append_assoc], fun a ha => by
        rcases List.mem_append.mp ha with z | z
        · exact hn a z
        · rw [List.mem_singleton.mp z]; exact hD⟩
      have mv : ∀ {p : List PV} {v : List V}, RVs K H' ρ' p v → RVs K H' ⟨ρ'.bx ++ [D], ρ1.rs, ρ'.cg⟩ p v := fun h => RVs.boxed (b := ρ'.bx) hDr un h
      have S2 : RSt K H' ⟨ρ'.bx ++ [D], ρ1.rs, ρ'.cg⟩ (s2 ++ [.d acc]) := by
        refine ⟨?_, by simp [S.len], fun n a zs e1 e2 => ?_, fun a ha => ⟨(S.rsv a (un a ha)).1, fun z => ?_⟩, fun a ha => ⟨(tb a ha).1, fun z => (List.mem_append.mp z).elim (tb a ha).2.1 fun z => (S.tb a ha).2.2 (by rw [List.mem_singleton.mp z]; exact hDr), (tb a ha).2.2⟩⟩
        · refine List.nodup_append.mpr ⟨S.nd, by simp, fun a ha b hb => ?_⟩
          rw [List.mem_singleton.mp hb]
          exact fun q => hDb (q ▸ ha)
        · by_cases hn : n < ρ'.bx.length
          · rw [List.getElem?_append_left hn] at e1
            rw [List.getElem?_append_left (S.len ▸ hn)] at e2
            exact (S.at_ n a zs e1 e2).imp (fun h2 => mv h2) fun _ q => q
          · have hn' : n = ρ'.bx.length := by
              have := (List.getElem?_eq_some_iff.mp e1).1
              simp at this; omega
            subst hn'
            simp at e1
            rw [S.len] at e2
            simp at e2
            subst e1; subst e2
            exact ⟨ys, hDy, rv.1, mv rv.2⟩
        · rcases List.mem_append.mp z with z | z
          · exact (S.rsv a (un a ha)).2 z
          · exact hnR (by rw [← List.mem_singleton.mp z]; exact ha)
      exact P1' H' ⟨ρ'.bx ++ [D], ρ1.rs, ρ'.cg⟩ ⟨⟨pre2, ⟨rs_refl.1, xw.rs.2⟩, keep, has, kd⟩, rfl, hres⟩ S2 _ ⟨D, rfl, by rw [← S.len]; simp⟩
  · rintro i n H2 ⟨ρ2, s2, acc, ys, x2, xr2, hr2, S2, hDy, rv, P2⟩
    cases n with
    | zero => exact P2.elim
    | succ n =>
      have hDr : D ∈ ρ2.rs := by rw [xr2]; exact List.mem_cons_self
      have hj := hJ i H2 ρ2 s2 ((extR hD).trans x2) S2
      unfold dcL at P2
      cases e : J i s2 with
      | none =>
        rw [e] at hj P2
        exact .inl ⟨hj, P2 H2 ρ2 ys x2 xr2 S2 rv hDy hr2⟩
      | some v =>
        rw [e] at hj P2
        refine .inr ⟨hj.1, fun H => ∃ (ρ : Rh) (s : Sto) (acc : List (Key × PV)) (ys : List (Key × V)), ExtW ⟨ρ1.bx, D :: ρ1.rs, ρ1.cg⟩ (upd H1 D (.dK [])) ρ H ∧ ρ.rs = D :: ρ1.rs ∧ (∀ a, a ∈ ρ1.rs → H a = H1 a) ∧ RSt K H ρ s ∧ H D = some (.dK ys) ∧ RKs K H ρ acc ys ∧
          PLD K ρ1 H1 D Q (dcL J g tt mk me (wipeE env vs) n (i + 1) acc s), fun H' h => ⟨n, Nat.lt_succ_self n, h⟩, fun x H' hy => ?_⟩
        obtain ⟨y1, y2, y3⟩ := hj.2 x H' hy
        have E2 : REnv K H' ρ2 (wipeE env vs) (wipe σ vs) := (ED.mono x2).mono y1.toExtW
        refine hg v x (wipe σ vs) H' ρ2 (wipeE env vs) s2 _ E2 y2 y3 ((PLD.bind P2).imp fun env3 s3 H3 ρ3 x3 S3 P4 σ3 E3 O3 => ?_)
        refine ⟨wipe_only O3 hs, ?_⟩
        refine ht σ3 H3 ρ3 env3 s3 _ E3 S3 ((PLD.bind P4).imp fun c s4 H4 ρ4 x4 S4 P5 => ?_)
        have xD4 : Ext ρ2 H2 ρ4 H4 := (y1.trans x3 S2.hh).trans x4 S2.hh
        have fin : ∀ {H5 : Hp} {ρ5 : Rh}, Ext ρ4 H4 ρ5 H5 → ExtW ⟨ρ1.bx, D :: ρ1.rs, ρ1.cg⟩ (upd H1 D (.dK [])) ρ5 H5 ∧ ρ5.rs = D :: ρ1.rs ∧ (∀ a, a ∈ ρ1.rs → H5 a = H1 a) ∧ H5 D = some (.dK ys) ∧ RKs K H5 ρ5 acc ys := fun x5 => by
          have xx := xD4.trans x5 S2.hh
          refine ⟨x2.trans xx.toExtW, xx.rse.trans xr2, fun a ha => ?_, ?_, rv.mono xx.toExtW⟩
          · have ha2 : a ∈ ρ2.rs := by rw [xr2]; exact List.mem_cons_of_mem _ ha
            exact (xx.res a ha2 (S2.rsv a ha2).2).trans (hr2 a ha)
          · exact (xx.res D hDr (S2.rsv D hDr).2).trans hDy
        cases c with
        | false =>
          obtain ⟨f1, f2, f3, f4, f5⟩ := fin .refl
          exact ⟨ρ4, s4, acc, ys, f1, f2, f3, S4, f4, f5, P5⟩
        | true =>
          refine hk σ3 H4 ρ4 env3 s4 _ (E3.mono x4.toExtW) S4 ((PLD.bind P5).imp fun y s5 H5 ρ5 x5 S5 P6 z hz => ?_)
          refine he σ3 H5 ρ5 env3 s5 _ ((E3.mono x4.toExtW).mono x5.toExtW) S5 ((PLD.bind P6).imp fun y2 s6 H6 ρ6 x6 S6 P7 z2 hz2 => ?_)
          obtain ⟨f1, f2, f3, f4, f5⟩ := fin (x5.trans x6 S4.hh)
          have f6 : D ∈ ρ6.rs := by rw [f2]; exact List.mem_cons_self
          split at P7
          · rename_i k ek
            cases q : Nat.blt acc.length sizeLine with
            | false => rw [q] at P7; exact P7.elim
            | true =>
              rw [q] at P7
              obtain rfl := keyP_ok hz ek
              refine ⟨ys, k, rfl, f4, by rw [← f5.length]; exact Nat.le_of_ble_eq_true q, ?_⟩
              have xe := extDk (H := H6) (zs := putK ys k z2) f6 (S6.rsv D f6).2
              refine ⟨ρ6, s6, putP acc k y2, putK ys k z2, f1.trans xe, f2, fun a ha => ?_, S6.putDk f6, upd_same, (f5.put k hz2).mono xe, P7⟩
              have na : a ≠ D := fun q => hnR (by rw [← q]; exact ha)
              rw [upd_ne na]; exact f3 a ha
          · exact P7.elim
theorem e_dc {kx vx : Expr} {mk : M} (N : Nat) (vs : List Nat) (hc : X.calm = true) (hN : X.N.Nodup) (ok : BlkOk X.N X.env.scope scope own) (hs : ∀ j ∈ sl, j ∈ vs) (hi : MIr X W tg iter mi)
    (hg : InBlk X scope fun Y => MGt Y WF tg g sl) (ht : InBlk X scope fun Y => MTs Y WF ifs tt) (hk : InBlk X scope fun Y => ME Y WF kx mk) (he : InBlk X scope fun Y => ME Y WF vx me) (hv : own.map (·.2) = vs := by rfl)
    (hf : ∀ x, foldedSetIterable iter X.env x = pure x := by intro _; rfl) : ME X W (.DictComp kx vx [⟨tg, iter, ifs, 0⟩] scope pos) (mDc N mi vs g tt mk me) := by
  subst hv
  obtain ⟨t, q, s⟩ := hi
  exact ⟨_, pe_dc (g := cG X.K g sl) (tt := cT X.K WF tt) (tk := cE X.K WF mk) (tv := cE X.K WF me) hc hN q ok (fun s H C cl fp => (hg s H C cl fp).can) (fun s H C cl fp => ht s H C cl fp) (fun s H C cl fp => (hk s H C cl fp).can) (fun s H C cl fp => (he s H C cl fp).can) hf, dc_ok N s sg_can st_can se_can se_can hs⟩
end
end Mi

noncomputable section
namespace Mi
open PySem PySem.Spec PyProof.Rows L2

/-! ### {k: v, ..}, the keys ints and texts -/
abbrev MPz := Env → Sto → R (List (Key × PV))
def mP0 : MPz := fun _ s => .ok [] s
def mPC (mk mv : M) (r : MPz) : MPz := fun env s => ((mk env s).noex).bind fun y s1 => ((mv env s1).noex).bind fun z s2 => match keyP y with
  | some k => ((r env s2).noex).bind fun ps s3 => .ok ((k, z) :: ps) s3
  | none => .bad
def mergeP (kvs more : List (Key × PV)) : List (Key × PV) := match more with
  | [] => kvs
  | p :: r => mergeP (putP kvs p.1 p.2) r
def mDisp (m : MPz) : M := fun env s => ((m env s).noex).bind fun ps s1 => bif Nat.ble ps.length 15 then .ok (.box s1.length) (s1 ++ [.d (mergeP [] ps)]) else .bad
def pairV (p : Key × V) : V × V := (kV p.1, p.2)
def SPs (K : PySem.W.Frag) (l : List (TE × TE)) (m : MPz) : Prop := ∀ (σ : L2.St) (H : Hp) (ρ : Rh) (env : Env) (sto : Sto) (WP : XK) (Q : List (V × V) → Hp → Prop),
  REnv K H ρ env σ → RSt K H ρ sto → Post K WP H ρ (fun ps _ H' ρ' => ∀ ys : List (Key × V), RKs K H' ρ' ps ys → Q (ys.map pairV) H') (m env sto).noex → tPairs l σ H Q
def MPs (X : Cx) (pos : Pos) (keys : List (Option Expr)) (values : List Expr) (m : MPz) : Prop := ∃ l, PPs X pos keys values l ∧ SPs X.K l m
section
variable {K : PySem.W.Frag} {H : Hp} {ρ : Rh}
theorem RKs.merge : ∀ {more : List (Key × PV)} {ym : List (Key × V)} {kvs : List (Key × PV)} {ys : List (Key × V)}, RKs K H ρ more ym → RKs K H ρ kvs ys → RKs K H ρ (mergeP kvs more) (mergeK ys ym)
  | [], ym, _, _, h, r => by
    obtain ⟨h1, h2⟩ := h
    cases ym with
    | nil => exact r
    | cons _ _ => cases h1
  | p :: more, ym, kvs, ys, h, r => by
    obtain ⟨y, yr, rfl, h1, h2⟩ := h.un
    have := RKs.merge h2 (r.put p.1 h1)
    exact this
end
section
variable {X : Cx} {W : WK} {pos : Pos} {k v : Expr} {ks : List (Option Expr)} {vs : List Expr} {mk mv : M} {m : MPz}
theorem p_nil : MPs X pos [] [] mP0 := ⟨[], pps_nil, fun σ H ρ env sto WP Q hE hS hP => hP H ρ .refl hS [] .nil⟩
theorem p_cons (hk : ME X WF k mk) (hv : ME X WF v mv) (hr : MPs X pos ks vs m) : MPs X pos (some k :: ks) (v :: vs) (mPC mk mv m) := by
  obtain ⟨tk, qk, sk⟩ := hk
  obtain ⟨tv, qv, sv⟩ := hv
  obtain ⟨l, ql, sl⟩ := hr
  refine ⟨_, pps_cons qk qv ql, fun σ H ρ env sto WP Q hE hS hP => ?_⟩
  unfold mPC at hP
  rw [noex_bind, noex_noex] at hP
  refine sk σ H ρ env sto _ hE hS (noex_post ((hP.bind hS).imp fun y s1 H1 ρ1 x1 S1 P1 x hx => ?_))
  rw [noex_bind, noex_noex] at P1
  refine sv σ H1 ρ1 env s1 _ (hE.mono x1.toExtW) S1 (noex_post ((P1.bind S1).imp fun z s2 H2 ρ2 x2 S2 P2 w hw => ?_))
  split at P2
  · rename_i key ek
    obtain rfl := keyP_ok hx ek
    rw [noex_bind, noex_noex] at P2
    refine sl σ H2 ρ2 env s2 WP _ ((hE.mono x1.toExtW).mono x2.toExtW) S2 ((P2.bind S2).imp fun ps s3 H3 ρ3 x3 S3 P3 ys hys => ?_)
    exact P3 H3 ρ3 .refl S3 ((key, w) :: ys) (RKs.cons (p := (key, z)) (hw.mono x3.toExtW) hys)
  · exact P2.elim
theorem e_disp {keys : List (Option Expr)} {values : List Expr} (h : MPs X pos keys values m) (hall : keys.all (·.isSome) = true := by rfl) (hl : keys.length = values.length := by rfl) (h0 : keys ≠ [] := by exact List.cons_ne_nil _ _)
    (h15 : keys.length ≤ 15 := by decide) : ME X W (.Dict keys values pos) (mDisp m) := by
  obtain ⟨l, q, s⟩ := h
  refine ⟨_, pe_disp q hall hl h0 h15, fun σ H ρ env sto Q hE hS hP => ?_⟩
  intro D hD
  have hnR : D ∉ ρ.rs := hS.freshR hD
  refine s σ _ ⟨ρ.bx, D :: ρ.rs, ρ.cg⟩ env sto (fun _ _ _ => False) _ (hE.mono (extR hD)) (hS.res hD) ?_
  unfold mDisp at hP
  cases r : m env sto with
  | bad => rw [r] at hP; exact hP.elim
  | ex _ _ => rw [r] at hP; exact hP.elim
  | ok ps s1 =>
    rw [r] at hP
    have hP : Post X.K (fun c d h => W c d σ h) H ρ (GV X.K Q) (bif Nat.ble ps.length 15 then .ok (.box s1.length) (s1 ++ [.d (mergeP [] ps)]) else .bad) := hP
    obtain ⟨hz, P1⟩ := and_of (C := Post X.K (fun c d h => W c d σ h) H ρ (GV X.K Q)) hP (fun z => z)
    have hz := Nat.le_of_ble_eq_true hz
    intro H' ρ' x S ys hys
    have hDr : D ∈ ρ'.rs := by rw [x.rse]; exact List.mem_cons_self
    have hDb : D ∉ ρ'.bx := (S.rsv D hDr).2
    have hDy : H' D = some (.dK []) := (x.res D List.mem_cons_self (hS.fresh hD)).trans upd_same
    refine ⟨hDy, ys, rfl, by rw [← hys.length]; exact hz, ?_⟩
    have un : ∀ a, a ∈ ρ.rs → a ∈ ρ'.rs := fun a ha => by rw [x.rse]; exact List.mem_cons_of_mem _ ha
    have rm : RKs X.K (upd H' D (.dK (mergeK [] ys))) ρ' (mergeP [] ps) (mergeK [] ys) := (hys.merge .nil).mono (extDk hDr hDb)
    have S' := S.putDk (zs := mergeK [] ys) hDr
    obtain ⟨r, hr1, hn⟩ := x.pre
    have hn' : ∀ a ∈ r, H a = none := fun a ha => by
      have := hn a ha
      by_cases q : a = D
      · rw [q]; exact hD
      · rw [upd_ne q] at this; exact this
    have mv : ∀ {p : List PV} {v : List V}, RVs X.K (upd H' D (.dK (mergeK [] ys))) ρ' p v → RVs X.K (upd H' D (.dK (mergeK [] ys))) ⟨ρ'.bx ++ [D], ρ.rs, ρ'.cg⟩ p v := fun h => RVs.boxed (b := ρ'.bx) hDr un h
    have keep : ∀ a o, H a = some o → a ∉ ρ.bx → a ∉ ρ.rs → upd H' D (.dK (mergeK [] ys)) a = some o := fun a o h n m => by
      have qa : a ≠ D := ne_of_none h hD
      rw [upd_ne qa]
      exact x.keep a o (by rw [upd_ne qa]; exact h) n fun z => (List.mem_cons.mp z).elim qa m
    have has : ∀ a, H a ≠ none → upd H' D (.dK (mergeK [] ys)) a ≠ none := fun a h => has_upd a (x.has a (has_upd a h))
    have kd : ∀ a o, a ∈ ρ.bx → H a = some o → ∃ o', upd H' D (.dK (mergeK [] ys)) a = some o' ∧ alike o o' := fun a o hb h => by
      have qa : a ≠ D := ne_of_none h hD
      rw [upd_ne qa]
      exact x.kd a o hb (by rw [upd_ne qa]; exact h)
    have hres : ∀ a, a ∈ ρ.rs → a ∉ ρ.bx → upd H' D (.dK (mergeK [] ys)) a = H a := fun a ha hb => by
      have qa : a ≠ D := fun q => hnR (q ▸ ha)
      rw [upd_ne qa, x.res a (List.mem_cons_of_mem _ ha) hb, upd_ne qa]
    have S2 : RSt X.K (upd H' D (.dK (mergeK [] ys))) ⟨ρ'.bx ++ [D], ρ.rs, ρ'.cg⟩ (s1 ++ [.d (mergeP [] ps)]) := by
      refine ⟨?_, by simp [S.len], fun n a zs e1 e2 => ?_, fun a ha => ⟨(S'.rsv a (un a ha)).1, fun z => ?_⟩, fun a ha => ?_⟩
      · refine List.nodup_append.mpr ⟨S.nd, by simp, fun a ha b hb => ?_⟩
        rw [List.mem_singleton.mp hb]
        exact fun q => hDb (q ▸ ha)
      · by_cases hn : n < ρ'.bx.length
        · rw [List.getElem?_append_left hn] at e1
          rw [List.getElem?_append_left (S.len ▸ hn)] at e2
          exact (S'.at_ n a zs e1 e2).imp (fun h2 => mv h2) fun _ q => q
        · have hn' : n = ρ'.bx.length := by
            have := (List.getElem?_eq_some_iff.mp e1).1
            simp at this; omega
          subst hn'
          simp at e1
          rw [S.len] at e2
          simp at e2
          subst e1; subst e2
          exact ⟨_, upd_same, rm.1, mv rm.2⟩
      · rcases List.mem_append.mp z with z | z
        · exact (S'.rsv a (un a ha)).2 z
        · exact hnR (by rw [← List.mem_singleton.mp z]; exact ha)
      · obtain ⟨h1, h2, h3⟩ := S'.tb a ha
        refine ⟨h1, fun z => (List.mem_append.mp z).elim h2 fun z => ?_, fun z => h3 (un a z)⟩
        rw [List.mem_singleton.mp z, upd_same] at h1
        cases h1
    exact P1 _ ⟨ρ'.bx ++ [D], ρ.rs, ρ'.cg⟩ ⟨⟨⟨r ++ [D], by rw [hr1, List.append_assoc], fun a ha => (List.mem_append.mp ha).elim (hn' a) fun z => by rw [List.mem_singleton.mp z]; exact hD⟩, ⟨rs_refl.1, x.rs.2⟩, keep, has, kd⟩, rfl, hres⟩ S2 _ ⟨D, rfl, by rw [← S.len]; simp⟩
end
end Mi

noncomputable section
namespace Mi
open PySem PySem.Spec PyProof.Rows L2

/-! ### try: .. except ..: .. whose body raises nothing -/
def sThru (m : MS) : MS := fun env s => (m env s).noex
section
variable {X : Cx} {W : WK} {body : List Stmt} {h₀ : ExceptHandler} {hs : List ExceptHandler} {mb : MS} {pos : Pos}
theorem takes_nox : Takes X.nox WF := fun u s' ⟨_, _, _, _, _, _, _, _, _, _, _, _, _, _, _, _, w⟩ => w.elim
theorem s_tryThru (hb : Takes X.nox WF → PassesOwn (model X.prog X.w) X.A X.env (fun _ _ => False) → MSs X.nox WF body mb) : MSt X W (.Try body (h₀ :: hs) [] [] pos) (sThru mb) := by
  obtain ⟨t, p, s⟩ := hb takes_nox PassesOwn.never
  exact ⟨_, ps_try_thru0 p, fun D σ H ρ env sto h1 h2 h3 => s D σ H ρ env sto h1 h2 (FPost.unex h3)⟩
end

/-! ### C.m(e, ..), C an own class, m a def of it -/
section
variable {X : Cx} {W : WK} {k : Nat} {C f : Addr} {mc : Value} {fd : FuncData} {ps : List Str} {run : GC} {x m : Str} {e : Expr} {es : List Expr} {ms : MA} {p apos pos : Pos}
theorem e_cfn {pl : Sem Bool} (F : FOk X.prog X.w X.K X.mg X.base k f fd ps run) (hr : Room k X.A) (tk : Takes X W) (hg : Gl X x) (hm : X.mg x = some (.ref C)) (r : ClX.CRead X.K C mc) (c : PySem.W.findCls X.K (.ref C) mc m = some (.val (.ref f)))
    (hk : PySem.W.keepIn X.K (.ref f) = true) (hb : Binds X.K fd ps []) (ha : MEs X W (e :: es) ms) {n : Nat} (hn : ps.length = n := by rfl) (hdb : (x == ("__debug__" : Str)) = false := by decide)
    (hst : starEach (e :: es) X.env = (false, eval e X.env) :: starEach es X.env := by rfl) (hpl : (backTo pos (starEach es X.env)).any (·.1) = false := by rfl)
    (ht : eval (.Call (.Attribute (.Name x p) m apos) (e :: es) [] pos) X.env = (do
      let ov ← eval (.Name x p) X.env
      standAt apos.atName
      let (f, first) ← holding [ov] (getMethod ov m pl)
      callWith pos f first (backTo pos (starEach (e :: es) X.env)) (backToKw pos (keywordEach [] X.env))) := by rfl) :
    ME X W (.Call (.Attribute (.Name x p) m apos) (e :: es) [] pos) (mCall (ar n run) ms) := by
  subst hn
  obtain ⟨t, q, s⟩ := ha
  refine ⟨fun σ H Q => t σ H fun vs H1 => spF X.K ps.length run vs H1 Q (WE W σ), ⟨fun pins st σ H Q I h => ?_⟩, fun σ H ρ env sto Q hE hS hP => ?_⟩
  · refine PySem.W.methodCall_KW (pl := pl) (ld_glob I hg hm ?_ hdb) ht
    refine PySem.W.method_cls I.kIn r.ga (PySem.W.cls_value I.kIn r.rd c (handed_of (v := V.ref f) rfl) ?_)
    have I' : Inv X pins σ H { st with toks := st.toks + 1 } := I.tok _
    refine PySem.W.callWith_K (first := []) (h₀ := X.base) I'.ok.mod.kin hk (thn (q.run pos pins _ σ H _ I' h) fun us s1 ⟨vs, H1, I1, rv, q1⟩ => ⟨I1.kIn, ?_⟩) hst hpl
    have hl : us.length = ps.length := by rw [← Paired.length rv]; exact F.len _ _ _ _ q1
    have hbb := hb s1 us I1.kIn (by rw [List.append_nil]; exact hl)
    rw [List.append_nil] at hbb
    refine wpAny_call (codeAny_mono (F.run X.A X.stack s1 H1 ⟨us, []⟩ us vs Q (WE W σ) hr I1.env0 hbb rv q1) fun r' s' z => ?_)
    match r', z with
    | .error er, z => exact passAt tk σ pins _ _ er s' I1 z
    | .ok (.ret u), z => exact I1.after z
    | .ok .next, z => exact z.elim
    | .ok .brk, z => exact z.elim
    | .ok .cont, z => exact z.elim
  · refine s σ H ρ env sto _ hE hS ((hP.bind hS).imp fun v s1 H1 ρ1 x1 S1 P1 ys hys => ?_)
    unfold ar at P1
    cases q : Nat.beq v.length ps.length with
    | false => rw [q] at P1; exact P1.elim
    | true =>
      rw [q] at P1
      exact ⟨by rw [← hys.length]; exact Nat.eq_of_beq_eq_true q, v, ρ1, s1, hys, S1, P1⟩
end
end Mi

noncomputable section
namespace Mi
open PySem PySem.Spec PyProof.Rows L2

/-! ### x = {k: v for ..} -/
section
variable {X : Cx}
theorem ps_setDc {i : Nat} {y : Str} {py : Pos} {kx vx tg iter : Expr} {ifs : List Expr} {scope : Scope} {own : List (Str × Nat)} {pos spos : Pos} {wi : TI} {g : TG} {tt : TT} {tk tv : TE} (hc : X.calm = true) (hN : X.N.Nodup) (hy : X.N[i]? = some y) (hyl : X.env.scope.names.lookup y = some .local)
    (hw : swapsWith (.DictComp kx vx [⟨tg, iter, ifs, 0⟩] scope pos) (some (.Name y py)) spos.line X.env = pure true) (hi : PI X tg iter wi) (ok : BlkOk X.N X.env.scope scope own)
    (hg : ∀ (s : Shared) (H : Hp) (C : Addr) (cl : List (Str × Addr)) (fp : List Addr), PG (X.blk s H scope (compEnvC scope cl C X.env) fp) tg g) (ht : ∀ (s : Shared) (H : Hp) (C : Addr) (cl : List (Str × Addr)) (fp : List Addr), PTs (X.blk s H scope (compEnvC scope cl C X.env) fp) ifs tt)
    (hk : ∀ (s : Shared) (H : Hp) (C : Addr) (cl : List (Str × Addr)) (fp : List Addr), PE (X.blk s H scope (compEnvC scope cl C X.env) fp) kx tk)
    (he : ∀ (s : Shared) (H : Hp) (C : Addr) (cl : List (Str × Addr)) (fp : List Addr), PE (X.blk s H scope (compEnvC scope cl C X.env) fp) vx tv) (hs : ∀ x, foldedSetIterable iter X.env x = pure x := by intro _; rfl) :
    PS X (.Assign [.Name y py] (.DictComp kx vx [⟨tg, iter, ifs, 0⟩] scope pos) spos) (tAsg (tDc wi g tt tk tv (own.map (·.2))) (gName i)) := by
  refine ⟨fun pins s σ H D I h => ?_⟩
  rw [exec_Assign_Name_used _ _ _ _ hw]
  refine wpAny_bind (wpAny_standAt (wpAny_bind ?_))
  have h : tDc wi g tt tk tv (own.map (·.2)) σ H (fun x H1 => gName i x σ H1 D.nx) := h
  refine wpAny_bind (thn (dc_core (Qf := fun _ s' => SP X pins D .next s') hc hN I hi ok hg ht hk he hs h fun L C s' m H' I' q hn f => ?_) fun _ s' hq => wpAny_pure (wpAny_pure hq))
  show wpAny _ _ (assign (.Name y py) X.env (.ref L)) _ _ _
  refine wpAny_assign_Name (store_ok2 (v := V.ref L) I' hN hy (.inl hyl) rfl (fun s2 I2 ⟨a, sb, ha⟩ => ?_) (.inr hyl))
  obtain ⟨f0, f1, f2, f3, f4, f5⟩ := f
  have ne : C ≠ a := ha.elim (fun z => by rw [z]; exact f1) fun z e => f4 y a z e.symm
  exact ⟨m, hn.sameBut sb ne, fun h3 sb3 => ⟨_, H', I2.turned (t' := s2.toks) (fun b o hb e => (sb3.2 b hb).trans e) f0 f1 f3 f4 f5, q⟩⟩
theorem sw_dict {kx vx : Expr} {gs : List Comprehension} {scope : Scope} {pos py : Pos} {y : Str} {l : Nat} {env : PySem.Env} (hk : env.scope.kind = .function) (hy : env.scope.names.lookup y = some .local) (hl : (py.line == pos.line) = true)
    (ha : (scope.names.any fun p => p.1 == y && (p.2 == .local || p.2 == .cell)) = false) : swapsWith (.DictComp kx vx gs scope pos) (some (.Name y py)) l env = pure true := by
  have k1 : env.kindOf y = some .local := hy
  have k2 : env.blockKind = .function := by unfold Env.blockKind; rw [hk]; rfl
  unfold swapsWith
  simp only [k2, k1, ha, Expr.pos, hl]
  rfl
variable {W : WK} {tg iter : Expr} {ifs : List Expr} {scope : Scope} {own : List (Str × Nat)} {pos : Pos} {mi : MI} {g : MG} {tt : MT} {mk me : M} {sl : List Nat} {kx vx : Expr} {i : Nat} {y : Str} {py spos : Pos}
theorem s_dc (N : Nat) (vs : List Nat) (hc : X.calm = true) (hN : X.N.Nodup) (hy : X.N[i]? = some y) (hyl : X.env.scope.names.lookup y = some .local)
    (hw : swapsWith (.DictComp kx vx [⟨tg, iter, ifs, 0⟩] scope pos) (some (.Name y py)) spos.line X.env = pure true) (ok : BlkOk X.N X.env.scope scope own) (hs : ∀ j ∈ sl, j ∈ vs) (hi : MIr X W tg iter mi)
    (hg : InBlk X scope fun Y => MGt Y WF tg g sl) (ht : InBlk X scope fun Y => MTs Y WF ifs tt) (hk : InBlk X scope fun Y => ME Y WF kx mk) (he : InBlk X scope fun Y => ME Y WF vx me) (hv : own.map (·.2) = vs := by rfl)
    (hf : ∀ x, foldedSetIterable iter X.env x = pure x := by intro _; rfl) : MSt X W (.Assign [.Name y py] (.DictComp kx vx [⟨tg, iter, ifs, 0⟩] scope pos) spos) (sAsg (mDc N mi vs g tt mk me) (gNm i)) := by
  subst hv
  obtain ⟨t, q, s⟩ := hi
  refine ⟨_, ps_setDc (g := cG X.K g sl) (tt := cT X.K WF tt) (tk := cE X.K WF mk) (tv := cE X.K WF me) hc hN hy hyl hw q ok (fun s H C cl fp => (hg s H C cl fp).can) (fun s H C cl fp => ht s H C cl fp) (fun s H C cl fp => (hk s H C cl fp).can) (fun s H C cl fp => (he s H C cl fp).can) hf, fun D σ H ρ env sto h1 h2 h3 => ?_⟩
  refine dc_ok N s sg_can st_can se_can se_can hs σ H ρ env sto _ h1 h2 ((FPost.bind h1 h2 h3).imp fun v s1 H1 ρ1 x1 S1 P1 => ?_)
  intro y hy
  exact P1 _ H1 ρ1 .refl S1 (by rw [setR_eq]; exact (h1.mono x1.toExtW).set i hy)
end
end Mi

set_option autoImplicit true
noncomputable section
namespace Lw
open PySem PySem.Spec PyProof.Rows L2 Mi
def topS (i : Nat) : Stmt := PySem.Challenge.pw_plainlock_k01_whole_fractions_beside_own.main.body.getD i (.Pass ⟨0, 0, 0, 0⟩)
abbrev veL : List Value := [.type "ValueError", .type "Exception", .type "BaseException", .type "object"]
abbrev leL : List Value := [.type "LookupError", .type "Exception", .type "BaseException", .type "object"]
theorem ty_ValueError : typeOf (.type "ValueError") = pure (.type "type") := by kernel_rfl
theorem ty_LookupError : typeOf (.type "LookupError") = pure (.type "type") := by kernel_rfl
structure FD (K : PySem.W.Frag) (mg : Str → Option Value) (x : Str) (st : Stmt) (ps : List Str) where
  f : Addr
  fd : FuncData
  F : Fun K x x st f fd
  m : mg x = some (.ref f)
  b : Binds K fd ps []
structure MD (K : PySem.W.Frag) (x q : Str) (st : Stmt) (ps : List Str) where
  f : Addr
  fd : FuncData
  F : Fun K x q st f fd
  b : Binds K fd ps []
structure CD (K : PySem.W.Frag) (mg : Str → Option Value) (n : Str) where
  C : Addr
  ns : PySem.W.nsIn K mainGlobals n = some (some (.ref C))
  m : mg n = some (.ref C)
  c : Cls K C
structure XD (K : PySem.W.Frag) (mg : Str → Option Value) (n : Str) (q : Str) (st : Stmt) (newId : String) (bm : List Value) (ps : List Str) where
  C : Addr
  fI : Addr
  fd : FuncData
  m : mg n = some (.ref C)
  ns : PySem.W.nsIn K mainGlobals n = some (some (.ref C))
  T : OxC K newId bm C
  iC : PySem.W.findIn K (.ref C) "__init__" = some (some (.ref fI))
  tI : PySem.W.typeIn K (.ref fI) = some (.type "function")
  F : Fun K "__init__" q st fI fd
  b : Binds K fd ps []
structure Tx (K : PySem.W.Frag) (mg : Str → Option Value) (base : Heap) where
  d_is_number : FD K mg "is_number" (topS 4) ["thing"]
  d_is_row : FD K mg "is_row" (topS 5) ["many", "thing"]
  d_fraction : FD K mg "fraction" (topS 7) ["top", "below"]
  d_is_fraction : FD K mg "is_fraction" (topS 8) ["thing"]
  d_plus : FD K mg "plus" (topS 9) ["x", "y"]
  d_minus : FD K mg "minus" (topS 10) ["x", "y"]
  d_times : FD K mg "times" (topS 11) ["x", "y"]
  d_over : FD K mg "over" (topS 12) ["x", "y"]
  d_less : FD K mg "less" (topS 13) ["x", "y"]
  d_least : FD K mg "least" (topS 14) ["some"]
  d_greatest : FD K mg "greatest" (topS 15) ["some"]
  d_whole : FD K mg "whole" (topS 17) ["some"]
  d_sum_of : FD K mg "sum_of" (topS 16) ["some"]
  d__law_box : FD K mg "_law_box" (topS 19) ["script", "k"]
  d__law_take : FD K mg "_law_take" (topS 20) ["urn", "below"]
  d__law_cells : FD K mg "_law_cells" (topS 21) ["script", "many"]
  d__law_lists : FD K mg "_law_lists" (topS 22) ["matter"]
  d__law_same : FD K mg "_law_same" (topS 23) ["got", "due"]
  d__law_low : FD K mg "_law_low" (topS 24) ["top", "below"]
  d__law_number : FD K mg "_law_number" (topS 25) ["urn"]
  d__law_drawn : FD K mg "_law_drawn" (topS 26) ["urn"]
  d__law_two_right : FD K mg "_law_two_right" (topS 27) ["one", "two"]
  d__law_many_right : FD K mg "_law_many_right" (topS 28) ["some"]
  d__law_refused : FD K mg "_law_refused" (topS 29) []
  d_law : FD K mg "law" (topS 30) ["script"]
  c_CanNot : XD K mg "CanNot" "CanNot.__init__" (inClass (topS 2) 0) "ValueError.__new__" veL ["self"]
  v_ValueError : PySem.W.findCls K (.type "ValueError") (.type "type") "__init__" = some (.val (.builtin "ValueError.__init__"))
  ox : OxK K
  i_ValueError : IsTab K (.type "ValueError") [("CanNot", true)]
  h_CanNot : XmTab K (.ref c_CanNot.C) [("CanNot", true)]
  w_minus : ∀ (s : Shared) (ws : List Value), ws.length = (["x", "y"] : List Str).length → BindsTo s d_minus.fd ⟨[], (["x", "y"] : List Str).zip ws⟩ ((["x", "y"] : List Str).zip ws)
  w_fraction : ∀ (s : Shared) (ws : List Value), ws.length = (["top", "below"] : List Str).length → BindsTo s d_fraction.fd ⟨[], (["top", "below"] : List Str).zip ws⟩ ((["top", "below"] : List Str).zip ws)
  w_over : ∀ (s : Shared) (ws : List Value), ws.length = (["x", "y"] : List Str).length → BindsTo s d_over.fd ⟨[], (["x", "y"] : List Str).zip ws⟩ ((["x", "y"] : List Str).zip ws)
  w_greatest : ∀ (s : Shared) (ws : List Value), ws.length = (["some"] : List Str).length → BindsTo s d_greatest.fd ⟨[], (["some"] : List Str).zip ws⟩ ((["some"] : List Str).zip ws)
  n_ValueError : mg "ValueError" = none
  n_abs : mg "abs" = none
  n_all : mg "all" = none
  n_bool : mg "bool" = none
  n_enumerate : mg "enumerate" = none
  n_int : mg "int" = none
  n_isinstance : mg "isinstance" = none
  n_len : mg "len" = none
  n_list : mg "list" = none
  n_max : mg "max" = none
  n_min : mg "min" = none
  n_range : mg "range" = none
  n_str : mg "str" = none
  n_sum : mg "sum" = none
  n_tuple : mg "tuple" = none
  n_zip : mg "zip" = none
  m_gcd : mg "gcd" = some (.builtin "math.gcd")
  m_lcm : mg "lcm" = some (.builtin "math.lcm")
section
variable {P : Program} {w : World} {K : PySem.W.Frag} {mg : Str → Option Value} {base : Heap}
theorem scX_CanNot : FnScope ["self"] ["self"] (defScope (inClass (topS 2) 0)) := ⟨rfl, rfl, rfl, by decide +kernel, rfl, by decide +kernel, by decide +kernel⟩
theorem okX_CanNot (T : Tx K mg base) : FnOk P w K mg base (L2.CX P w) 1 T.c_CanNot.fI T.c_CanNot.fd ["self"] (sp0 T.c_CanNot.C) := by
  refine T.c_CanNot.F.okX scX_CanNot (fun _ _ _ _ h => by obtain ⟨_, rfl, _⟩ := h; rfl) fun cdv A outer s H vs Q E hr h => ?_
  obtain ⟨a, rfl, e, q⟩ := h
  refine ⟨_, pss_one (ps_expr (pe_binit F.excBase_ValueError T.c_CanNot.T.ini (gl_of (by kernel_rfl)) T.n_ValueError (by decide +kernel) ty_ValueError (by decide +kernel) T.v_ValueError (by decide +kernel) (pa_cons (pv 0) pa_nil))), ?_⟩
  exact ⟨_, rfl, a, [], rfl, (by show 0 ≤ 1000; decide), e, q⟩
/-! is_number -/
theorem sc_is_number : FnScope ["thing"] ["thing"] (defScope (topS 4)) := ⟨rfl, rfl, rfl, by decide +kernel, rfl, by decide +kernel, by decide +kernel⟩
def b_is_number : MS := (sRet (mAnd (mIsi [.int] (mVar 0)) (mNot (mIsi [.bool] (mVar 0)))))
def r_is_number : GC := runB 0 b_is_number
theorem ok_is_number (T : Tx K mg base) : FOk P w K mg base 1 T.d_is_number.f T.d_is_number.fd ["thing"] r_is_number := by
  refine fn_ok 0 T.d_is_number.F sc_is_number rfl fun cdv A outer s H E hr => ?_
  exact (s_one (s_ret (e_and (e_isi .int (by decide) (gl_of (by kernel_rfl)) T.n_isinstance (gl_of (by kernel_rfl)) T.n_int (by decide +kernel) (e_v 0 rfl (.inl (by kernel_rfl)))) (e_one (e_not (e_isi .bool (by decide) (gl_of (by kernel_rfl)) T.n_isinstance (gl_of (by kernel_rfl)) T.n_bool (by decide +kernel) (e_v 0 rfl (.inl (by kernel_rfl)))))))))
/-! is_row -/
theorem sc_is_row : FnScope ["many", "thing"] ["many", "thing"] (defScope (topS 5)) := ⟨rfl, rfl, rfl, by decide +kernel, rfl, by decide +kernel, by decide +kernel⟩
def b_is_row : MS := (sRet (mAnd (mIsi [.tuple] (mVar 1)) (mBin gEq (mCall gLen (mCons (mVar 1) mNil)) (mVar 0))))
def r_is_row : GC := runB 0 b_is_row
theorem ok_is_row (T : Tx K mg base) : FOk P w K mg base 1 T.d_is_row.f T.d_is_row.fd ["many", "thing"] r_is_row := by
  refine fn_ok 0 T.d_is_row.F sc_is_row rfl fun cdv A outer s H E hr => ?_
  exact (s_one (s_ret (e_and (e_isi .tuple (by decide) (gl_of (by kernel_rfl)) T.n_isinstance (gl_of (by kernel_rfl)) T.n_tuple (by decide +kernel) (e_v 1 rfl (.inl (by kernel_rfl)))) (e_one (e_eq hr.units (e_len (gl_of (by kernel_rfl)) T.n_len (a_cons (e_v 1 rfl (.inl (by kernel_rfl))) a_nil)) (e_v 0 rfl (.inl (by kernel_rfl))))))))
/-! fraction -/
theorem sc_fraction : FnScope ["top", "below", "common"] ["top", "below"] (defScope (topS 7)) := ⟨rfl, rfl, rfl, by decide +kernel, rfl, by decide +kernel, by decide +kernel⟩
def b_fraction : MS := (sSeq (sIf (mT (mBin gEq (mVar 1) (mC (.int 0)))) (sRaise "CanNot") sNil) (sSeq (sAsg (mCall gGcd (mCons (mVar 0) (mCons (mVar 1) mNil))) (gNm 2)) (sSeq (sIf (mT (mBin gLt (mVar 1) (mC (.int 0)))) (sAsg (mUn gNeg (mVar 2)) (gNm 2)) sNil) (sRet (mTup (mCons (mBin gDiv (mVar 0) (mVar 2)) (mCons (mBin gDiv (mVar 1) (mVar 2)) mNil)))))))
def r_fraction : GC := runB 1 b_fraction
theorem ok_fraction (T : Tx K mg base) : FOk P w K mg base 3 T.d_fraction.f T.d_fraction.fd ["top", "below"] r_fraction := by
  refine fn_ok 1 T.d_fraction.F sc_fraction rfl fun cdv A outer s H E hr => ?_
  exact (s_cons (s_if (t_eq hr.units (e_v 1 rfl (.inl (by kernel_rfl))) e_int) (s_one (s_raise0 F.excBase_ValueError T.c_CanNot.T T.c_CanNot.ns T.c_CanNot.iC T.c_CanNot.tI (okX_CanNot (P := P) (w := w) (base := base) T) (hr.mono (by first | decide | omega)) T.c_CanNot.b rfl (takes_of rfl rfl rfl rfl) (gl_of (by kernel_rfl)) T.c_CanNot.m)) s_nil) (s_cons (s_asg (e_gcd (gl_of (by kernel_rfl)) T.m_gcd (a_cons (e_v 0 rfl (.inl (by kernel_rfl))) (a_cons (e_v 1 rfl (.inl (by kernel_rfl))) a_nil))) (g_nm (i := 2) sc_fraction.nd rfl (.inl (by kernel_rfl)) (.inl rfl)) calm_nm) (s_cons (s_if (t_lt (e_v 1 rfl (.inl (by kernel_rfl))) e_int) (s_one (s_asg (e_neg (e_v 2 rfl (.inl (by kernel_rfl)))) (g_nm (i := 2) sc_fraction.nd rfl (.inl (by kernel_rfl)) (.inl rfl)) calm_nm)) s_nil) (s_one (s_ret (e_tup (a_cons (e_div (e_v 0 rfl (.inl (by kernel_rfl))) (e_v 2 rfl (.inl (by kernel_rfl)))) (a_cons (e_div (e_v 1 rfl (.inl (by kernel_rfl))) (e_v 2 rfl (.inl (by kernel_rfl)))) a_nil))))))))
/-! is_fraction -/
theorem sc_is_fraction : FnScope ["thing", "top", "below"] ["thing"] (defScope (topS 8)) := ⟨rfl, rfl, rfl, by decide +kernel, rfl, by decide +kernel, by decide +kernel⟩
def b_is_fraction : MS := (sSeq (sIf (mNotT (mT (mCall (ar 2 r_is_row) (mCons (mC (.int 2)) (mCons (mVar 0) mNil))))) (sRet (mC (.bl false))) sNil) (sSeq (sAsg (mVar 0) (gTp 2 (gC (gNm 1) (gC (gNm 2) gN0)))) (sRet (mAnd (mCall (ar 1 r_is_number) (mCons (mVar 1) mNil)) (mAnd (mCall (ar 1 r_is_number) (mCons (mVar 2) mNil)) (mAnd (mBin gGe (mVar 2) (mC (.int 1))) (mBin gEq (mCall gGcd (mCons (mVar 1) (mCons (mVar 2) mNil))) (mC (.int 1)))))))))
def r_is_fraction : GC := runB 2 b_is_fraction
theorem ok_is_fraction (T : Tx K mg base) : FOk P w K mg base 2 T.d_is_fraction.f T.d_is_fraction.fd ["thing"] r_is_fraction := by
  refine fn_ok 2 T.d_is_fraction.F sc_is_fraction rfl fun cdv A outer s H E hr => ?_
  exact (s_cons (s_if (t_not (t_val (e_call (ok_is_row (P := P) (w := w) (base := base) T) (hr.mono (by first | decide | omega)) (takes_of rfl rfl rfl rfl) (gl_of (by kernel_rfl)) T.d_is_row.m T.d_is_row.F.kp T.d_is_row.b (a_cons e_int (a_cons (e_v 0 rfl (.inl (by kernel_rfl))) a_nil))))) (s_one (s_ret e_bl)) s_nil) (s_cons (s_asg (e_v 0 rfl (.inl (by kernel_rfl))) (g_tp (n := 2) rfl (g_c (g_nm (i := 1) sc_is_fraction.nd rfl (.inl (by kernel_rfl)) (.inl rfl)) (g_c (g_nm (i := 2) sc_is_fraction.nd rfl (.inl (by kernel_rfl)) (.inl rfl)) g_n0))) (calm_tp (calm_c calm_nm (calm_c calm_nm calm_n0)))) (s_one (s_ret (e_and (e_call (ok_is_number (P := P) (w := w) (base := base) T) (hr.mono (by first | decide | omega)) (takes_of rfl rfl rfl rfl) (gl_of (by kernel_rfl)) T.d_is_number.m T.d_is_number.F.kp T.d_is_number.b (a_cons (e_v 1 rfl (.inl (by kernel_rfl))) a_nil)) (e_and (e_call (ok_is_number (P := P) (w := w) (base := base) T) (hr.mono (by first | decide | omega)) (takes_of rfl rfl rfl rfl) (gl_of (by kernel_rfl)) T.d_is_number.m T.d_is_number.F.kp T.d_is_number.b (a_cons (e_v 2 rfl (.inl (by kernel_rfl))) a_nil)) (e_and (e_ge (e_v 2 rfl (.inl (by kernel_rfl))) e_int) (e_one (e_eq hr.units (e_gcd (gl_of (by kernel_rfl)) T.m_gcd (a_cons (e_v 1 rfl (.inl (by kernel_rfl))) (a_cons (e_v 2 rfl (.inl (by kernel_rfl))) a_nil))) e_int)))))))))
/-! plus -/
theorem sc_plus : FnScope ["x", "y", "a", "b", "c", "d"] ["x", "y"] (defScope (topS 9)) := ⟨rfl, rfl, rfl, by decide +kernel, rfl, by decide +kernel, by decide +kernel⟩
def b_plus : MS := (sSeq (sAsg (mVar 0) (gTp 2 (gC (gNm 2) (gC (gNm 3) gN0)))) (sSeq (sAsg (mVar 1) (gTp 2 (gC (gNm 4) (gC (gNm 5) gN0)))) (sRet (mCall (ar 2 r_fraction) (mCons (mBin (gAdd false) (mBin (gMul false) (mVar 2) (mVar 5)) (mBin (gMul false) (mVar 4) (mVar 3))) (mCons (mBin (gMul false) (mVar 3) (mVar 5)) mNil))))))
def r_plus : GC := runB 4 b_plus
theorem ok_plus (T : Tx K mg base) : FOk P w K mg base 4 T.d_plus.f T.d_plus.fd ["x", "y"] r_plus := by
  refine fn_ok 4 T.d_plus.F sc_plus rfl fun cdv A outer s H E hr => ?_
  exact (s_cons (s_asg (e_v 0 rfl (.inl (by kernel_rfl))) (g_tp (n := 2) rfl (g_c (g_nm (i := 2) sc_plus.nd rfl (.inl (by kernel_rfl)) (.inl rfl)) (g_c (g_nm (i := 3) sc_plus.nd rfl (.inl (by kernel_rfl)) (.inl rfl)) g_n0))) (calm_tp (calm_c calm_nm (calm_c calm_nm calm_n0)))) (s_cons (s_asg (e_v 1 rfl (.inl (by kernel_rfl))) (g_tp (n := 2) rfl (g_c (g_nm (i := 4) sc_plus.nd rfl (.inl (by kernel_rfl)) (.inl rfl)) (g_c (g_nm (i := 5) sc_plus.nd rfl (.inl (by kernel_rfl)) (.inl rfl)) g_n0))) (calm_tp (calm_c calm_nm (calm_c calm_nm calm_n0)))) (s_one (s_ret (e_call (ok_fraction (P := P) (w := w) (base := base) T) (hr.mono (by first | decide | omega)) (takes_of rfl rfl rfl rfl) (gl_of (by kernel_rfl)) T.d_fraction.m T.d_fraction.F.kp T.d_fraction.b (a_cons (e_add (fr := false) (e_mul (fr := false) (e_v 2 rfl (.inl (by kernel_rfl))) (e_v 5 rfl (.inl (by kernel_rfl)))) (e_mul (fr := false) (e_v 4 rfl (.inl (by kernel_rfl))) (e_v 3 rfl (.inl (by kernel_rfl))))) (a_cons (e_mul (fr := false) (e_v 3 rfl (.inl (by kernel_rfl))) (e_v 5 rfl (.inl (by kernel_rfl)))) a_nil)))))))
/-! minus -/
theorem sc_minus : FnScope ["x", "y", "a", "b", "c", "d"] ["x", "y"] (defScope (topS 10)) := ⟨rfl, rfl, rfl, by decide +kernel, rfl, by decide +kernel, by decide +kernel⟩
def b_minus : MS := (sSeq (sAsg (mVar 0) (gTp 2 (gC (gNm 2) (gC (gNm 3) gN0)))) (sSeq (sAsg (mVar 1) (gTp 2 (gC (gNm 4) (gC (gNm 5) gN0)))) (sRet (mCall (ar 2 r_fraction) (mCons (mBin gSub (mBin (gMul false) (mVar 2) (mVar 5)) (mBin (gMul false) (mVar 4) (mVar 3))) (mCons (mBin (gMul false) (mVar 3) (mVar 5)) mNil))))))
def r_minus : GC := runB 4 b_minus
theorem ok_minus (T : Tx K mg base) : FOk P w K mg base 4 T.d_minus.f T.d_minus.fd ["x", "y"] r_minus := by
  refine fn_ok 4 T.d_minus.F sc_minus rfl fun cdv A outer s H E hr => ?_
  exact (s_cons (s_asg (e_v 0 rfl (.inl (by kernel_rfl))) (g_tp (n := 2) rfl (g_c (g_nm (i := 2) sc_minus.nd rfl (.inl (by kernel_rfl)) (.inl rfl)) (g_c (g_nm (i := 3) sc_minus.nd rfl (.inl (by kernel_rfl)) (.inl rfl)) g_n0))) (calm_tp (calm_c calm_nm (calm_c calm_nm calm_n0)))) (s_cons (s_asg (e_v 1 rfl (.inl (by kernel_rfl))) (g_tp (n := 2) rfl (g_c (g_nm (i := 4) sc_minus.nd rfl (.inl (by kernel_rfl)) (.inl rfl)) (g_c (g_nm (i := 5) sc_minus.nd rfl (.inl (by kernel_rfl)) (.inl rfl)) g_n0))) (calm_tp (calm_c calm_nm (calm_c calm_nm calm_n0)))) (s_one (s_ret (e_call (ok_fraction (P := P) (w := w) (base := base) T) (hr.mono (by first | decide | omega)) (takes_of rfl rfl rfl rfl) (gl_of (by kernel_rfl)) T.d_fraction.m T.d_fraction.F.kp T.d_fraction.b (a_cons (e_sub (e_mul (fr := false) (e_v 2 rfl (.inl (by kernel_rfl))) (e_v 5 rfl (.inl (by kernel_rfl)))) (e_mul (fr := false) (e_v 4 rfl (.inl (by kernel_rfl))) (e_v 3 rfl (.inl (by kernel_rfl))))) (a_cons (e_mul (fr := false) (e_v 3 rfl (.inl (by kernel_rfl))) (e_v 5 rfl (.inl (by kernel_rfl)))) a_nil)))))))
/-! times -/
theorem sc_times : FnScope ["x", "y", "a", "b", "c", "d"] ["x", "y"] (defScope (topS 11)) := ⟨rfl, rfl, rfl, by decide +kernel, rfl, by decide +kernel, by decide +kernel⟩
def b_times : MS := (sSeq (sAsg (mVar 0) (gTp 2 (gC (gNm 2) (gC (gNm 3) gN0)))) (sSeq (sAsg (mVar 1) (gTp 2 (gC (gNm 4) (gC (gNm 5) gN0)))) (sRet (mCall (ar 2 r_fraction) (mCons (mBin (gMul false) (mVar 2) (mVar 4)) (mCons (mBin (gMul false) (mVar 3) (mVar 5)) mNil))))))
def r_times : GC := runB 4 b_times
theorem ok_times (T : Tx K mg base) : FOk P w K mg base 4 T.d_times.f T.d_times.fd ["x", "y"] r_times := by
  refine fn_ok 4 T.d_times.F sc_times rfl fun cdv A outer s H E hr => ?_
  exact (s_cons (s_asg (e_v 0 rfl (.inl (by kernel_rfl))) (g_tp (n := 2) rfl (g_c (g_nm (i := 2) sc_times.nd rfl (.inl (by kernel_rfl)) (.inl rfl)) (g_c (g_nm (i := 3) sc_times.nd rfl (.inl (by kernel_rfl)) (.inl rfl)) g_n0))) (calm_tp (calm_c calm_nm (calm_c calm_nm calm_n0)))) (s_cons (s_asg (e_v 1 rfl (.inl (by kernel_rfl))) (g_tp (n := 2) rfl (g_c (g_nm (i := 4) sc_times.nd rfl (.inl (by kernel_rfl)) (.inl rfl)) (g_c (g_nm (i := 5) sc_times.nd rfl (.inl (by kernel_rfl)) (.inl rfl)) g_n0))) (calm_tp (calm_c calm_nm (calm_c calm_nm calm_n0)))) (s_one (s_ret (e_call (ok_fraction (P := P) (w := w) (base := base) T) (hr.mono (by first | decide | omega)) (takes_of rfl rfl rfl rfl) (gl_of (by kernel_rfl)) T.d_fraction.m T.d_fraction.F.kp T.d_fraction.b (a_cons (e_mul (fr := false) (e_v 2 rfl (.inl (by kernel_rfl))) (e_v 4 rfl (.inl (by kernel_rfl)))) (a_cons (e_mul (fr := false) (e_v 3 rfl (.inl (by kernel_rfl))) (e_v 5 rfl (.inl (by kernel_rfl)))) a_nil)))))))
/-! over -/
theorem sc_over : FnScope ["x", "y", "a", "b", "c", "d"] ["x", "y"] (defScope (topS 12)) := ⟨rfl, rfl, rfl, by decide +kernel, rfl, by decide +kernel, by decide +kernel⟩
def b_over : MS := (sSeq (sAsg (mVar 0) (gTp 2 (gC (gNm 2) (gC (gNm 3) gN0)))) (sSeq (sAsg (mVar 1) (gTp 2 (gC (gNm 4) (gC (gNm 5) gN0)))) (sRet (mCall (ar 2 r_fraction) (mCons (mBin (gMul false) (mVar 2) (mVar 5)) (mCons (mBin (gMul false) (mVar 3) (mVar 4)) mNil))))))
def r_over : GC := runB 4 b_over
theorem ok_over (T : Tx K mg base) : FOk P w K mg base 4 T.d_over.f T.d_over.fd ["x", "y"] r_over := by
  refine fn_ok 4 T.d_over.F sc_over rfl fun cdv A outer s H E hr => ?_
  exact (s_cons (s_asg (e_v 0 rfl (.inl (by kernel_rfl))) (g_tp (n := 2) rfl (g_c (g_nm (i := 2) sc_over.nd rfl (.inl (by kernel_rfl)) (.inl rfl)) (g_c (g_nm (i := 3) sc_over.nd rfl (.inl (by kernel_rfl)) (.inl rfl)) g_n0))) (calm_tp (calm_c calm_nm (calm_c calm_nm calm_n0)))) (s_cons (s_asg (e_v 1 rfl (.inl (by kernel_rfl))) (g_tp (n := 2) rfl (g_c (g_nm (i := 4) sc_over.nd rfl (.inl (by kernel_rfl)) (.inl rfl)) (g_c (g_nm (i := 5) sc_over.nd rfl (.inl (by kernel_rfl)) (.inl rfl)) g_n0))) (calm_tp (calm_c calm_nm (calm_c calm_nm calm_n0)))) (s_one (s_ret (e_call (ok_fraction (P := P) (w := w) (base := base) T) (hr.mono (by first | decide | omega)) (takes_of rfl rfl rfl rfl) (gl_of (by kernel_rfl)) T.d_fraction.m T.d_fraction.F.kp T.d_fraction.b (a_cons (e_mul (fr := false) (e_v 2 rfl (.inl (by kernel_rfl))) (e_v 5 rfl (.inl (by kernel_rfl)))) (a_cons (e_mul (fr := false) (e_v 3 rfl (.inl (by kernel_rfl))) (e_v 4 rfl (.inl (by kernel_rfl)))) a_nil)))))))
/-! less -/
theorem sc_less : FnScope ["x", "y", "a", "b", "c", "d"] ["x", "y"] (defScope (topS 13)) := ⟨rfl, rfl, rfl, by decide +kernel, rfl, by decide +kernel, by decide +kernel⟩
def b_less : MS := (sSeq (sAsg (mVar 0) (gTp 2 (gC (gNm 2) (gC (gNm 3) gN0)))) (sSeq (sAsg (mVar 1) (gTp 2 (gC (gNm 4) (gC (gNm 5) gN0)))) (sRet (mBin gLt (mBin (gMul false) (mVar 2) (mVar 5)) (mBin (gMul false) (mVar 4) (mVar 3))))))
def r_less : GC := runB 4 b_less
theorem ok_less (T : Tx K mg base) : FOk P w K mg base 1 T.d_less.f T.d_less.fd ["x", "y"] r_less := by
  refine fn_ok 4 T.d_less.F sc_less rfl fun cdv A outer s H E hr => ?_
  exact (s_cons (s_asg (e_v 0 rfl (.inl (by kernel_rfl))) (g_tp (n := 2) rfl (g_c (g_nm (i := 2) sc_less.nd rfl (.inl (by kernel_rfl)) (.inl rfl)) (g_c (g_nm (i := 3) sc_less.nd rfl (.inl (by kernel_rfl)) (.inl rfl)) g_n0))) (calm_tp (calm_c calm_nm (calm_c calm_nm calm_n0)))) (s_cons (s_asg (e_v 1 rfl (.inl (by kernel_rfl))) (g_tp (n := 2) rfl (g_c (g_nm (i := 4) sc_less.nd rfl (.inl (by kernel_rfl)) (.inl rfl)) (g_c (g_nm (i := 5) sc_less.nd rfl (.inl (by kernel_rfl)) (.inl rfl)) g_n0))) (calm_tp (calm_c calm_nm (calm_c calm_nm calm_n0)))) (s_one (s_ret (e_lt (e_mul (fr := false) (e_v 2 rfl (.inl (by kernel_rfl))) (e_v 5 rfl (.inl (by kernel_rfl)))) (e_mul (fr := false) (e_v 4 rfl (.inl (by kernel_rfl))) (e_v 3 rfl (.inl (by kernel_rfl)))))))))
/-! least -/
theorem sc_least : FnScope ["some", "found", "x"] ["some"] (defScope (topS 14)) := ⟨rfl, rfl, rfl, by decide +kernel, rfl, by decide +kernel, by decide +kernel⟩
def b_least : MS := (sSeq (sAsg (mC .non) (gNm 1)) (sSeq (sFor 100000 (iAny (mVar 0)) (gNm 2) (sIf (mOrT (mT (mBin (gIs id) (mVar 1) (mC .non))) (mT (mCall (ar 2 r_less) (mCons (mVar 2) (mCons (mVar 1) mNil))))) (sAsg (mVar 2) (gNm 1)) sNil)) (sRet (mIf (mT (mBin (gIs id) (mVar 1) (mC .non))) (mC .non) (mCall gTuple (mCons (mVar 1) mNil))))))
def r_least : GC := runB 2 b_least
theorem ok_least (T : Tx K mg base) : FOk P w K mg base 2 T.d_least.f T.d_least.fd ["some"] r_least := by
  refine fn_ok 2 T.d_least.F sc_least rfl fun cdv A outer s H E hr => ?_
  exact (s_cons (s_asg e_non (g_nm (i := 1) sc_least.nd rfl (.inl (by kernel_rfl)) (.inl rfl)) calm_nm) (s_cons (s_for 100000 (passes_of rfl) rfl (i_any (e_v 0 rfl (.inl (by kernel_rfl)))) (g_nm (i := 2) sc_least.nd rfl (.inl (by kernel_rfl)) (.inl rfl)) (s_one (s_if (MW.t (w_or (t_is (e_v 1 rfl (.inl (by kernel_rfl))) e_non) (w_or1 (t_val (e_call (ok_less (P := P) (w := w) (base := base) T) (hr.mono (by first | decide | omega)) (takes_of rfl rfl rfl rfl) (gl_of (by kernel_rfl)) T.d_less.m T.d_less.F.kp T.d_less.b (a_cons (e_v 2 rfl (.inl (by kernel_rfl))) (a_cons (e_v 1 rfl (.inl (by kernel_rfl))) a_nil))))))) (s_one (s_asg (e_v 2 rfl (.inl (by kernel_rfl))) (g_nm (i := 1) sc_least.nd rfl (.inl (by kernel_rfl)) (.inl rfl)) calm_nm)) s_nil))) (s_one (s_ret (e_ifx (t_is (e_v 1 rfl (.inl (by kernel_rfl))) e_non) e_non (e_tuple (gl_of (by kernel_rfl)) T.n_tuple (a_cons (e_v 1 rfl (.inl (by kernel_rfl))) a_nil)))))))
/-! greatest -/
theorem sc_greatest : FnScope ["some", "found", "x"] ["some"] (defScope (topS 15)) := ⟨rfl, rfl, rfl, by decide +kernel, rfl, by decide +kernel, by decide +kernel⟩
def b_greatest : MS := (sSeq (sAsg (mC .non) (gNm 1)) (sSeq (sFor 100000 (iAny (mVar 0)) (gNm 2) (sIf (mOrT (mT (mBin (gIs id) (mVar 1) (mC .non))) (mT (mCall (ar 2 r_less) (mCons (mVar 1) (mCons (mVar 2) mNil))))) (sAsg (mVar 2) (gNm 1)) sNil)) (sRet (mIf (mT (mBin (gIs id) (mVar 1) (mC .non))) (mC .non) (mCall gTuple (mCons (mVar 1) mNil))))))
def r_greatest : GC := runB 2 b_greatest
theorem ok_greatest (T : Tx K mg base) : FOk P w K mg base 2 T.d_greatest.f T.d_greatest.fd ["some"] r_greatest := by
  refine fn_ok 2 T.d_greatest.F sc_greatest rfl fun cdv A outer s H E hr => ?_
  exact (s_cons (s_asg e_non (g_nm (i := 1) sc_greatest.nd rfl (.inl (by kernel_rfl)) (.inl rfl)) calm_nm) (s_cons (s_for 100000 (passes_of rfl) rfl (i_any (e_v 0 rfl (.inl (by kernel_rfl)))) (g_nm (i := 2) sc_greatest.nd rfl (.inl (by kernel_rfl)) (.inl rfl)) (s_one (s_if (MW.t (w_or (t_is (e_v 1 rfl (.inl (by kernel_rfl))) e_non) (w_or1 (t_val (e_call (ok_less (P := P) (w := w) (base := base) T) (hr.mono (by first | decide | omega)) (takes_of rfl rfl rfl rfl) (gl_of (by kernel_rfl)) T.d_less.m T.d_less.F.kp T.d_less.b (a_cons (e_v 1 rfl (.inl (by kernel_rfl))) (a_cons (e_v 2 rfl (.inl (by kernel_rfl))) a_nil))))))) (s_one (s_asg (e_v 2 rfl (.inl (by kernel_rfl))) (g_nm (i := 1) sc_greatest.nd rfl (.inl (by kernel_rfl)) (.inl rfl)) calm_nm)) s_nil))) (s_one (s_ret (e_ifx (t_is (e_v 1 rfl (.inl (by kernel_rfl))) e_non) e_non (e_tuple (gl_of (by kernel_rfl)) T.n_tuple (a_cons (e_v 1 rfl (.inl (by kernel_rfl))) a_nil)))))))
/-! whole -/
theorem sc_whole : FnScope ["some", "below", "x"] ["some"] (defScope (topS 17)) := ⟨rfl, rfl, rfl, by decide +kernel, rfl, by decide +kernel, by decide +kernel⟩
def b_whole : MS := (sSeq (sAsg (mC (.int 1)) (gNm 1)) (sSeq (sFor 100000 (iLst (mVar 0)) (gNm 2) (sAsg (mCall gLcm (mCons (mVar 1) (mCons (mBin gIx (mVar 2) (mC (.int 1))) mNil))) (gNm 1))) (sRet (mTup (mCons (mLc 100000 false (iLst (mVar 0)) [2] (gNm 2) mYes (mBin (gMul false) (mBin gIx (mVar 2) (mC (.int 0))) (mBin gDiv (mVar 1) (mBin gIx (mVar 2) (mC (.int 1)))))) (mCons (mVar 1) mNil))))))
def r_whole : GC := runB 2 b_whole
theorem ok_whole (T : Tx K mg base) : FOk P w K mg base 1 T.d_whole.f T.d_whole.fd ["some"] r_whole := by
  refine fn_ok 2 T.d_whole.F sc_whole rfl fun cdv A outer s H E hr => ?_
  exact (s_cons (s_asg e_int (g_nm (i := 1) sc_whole.nd rfl (.inr (by kernel_rfl)) (.inl rfl)) calm_nm) (s_cons (s_for 100000 (passes_of rfl) rfl (i_lst (e_v 0 rfl (.inl (by kernel_rfl)))) (g_nm (i := 2) sc_whole.nd rfl (.inl (by kernel_rfl)) (.inl rfl)) (s_one (s_asg (e_lcm (gl_of (by kernel_rfl)) T.m_lcm (a_cons (e_v 1 rfl (.inr (.inl (by kernel_rfl)))) (a_cons (e_ix (e_v 2 rfl (.inl (by kernel_rfl))) e_int) a_nil))) (g_nm (i := 1) sc_whole.nd rfl (.inr (by kernel_rfl)) (.inl rfl)) calm_nm))) (s_one (s_ret (e_tup (a_cons (e_lcv 100000 false [2] rfl sc_whole.nd (blkOk_by (own := [("x", 2)]) (N := ["some", "below", "x"]) (sc := defScope (topS 17)) (by decide +kernel)) (by decide) (i_lst (e_v 0 rfl (.inl (by kernel_rfl)))) (fun s H C cl fp => (g_nm (i := 2) sc_whole.nd rfl (.inl (by kernel_rfl)) (.inr (by kernel_rfl)))) (fun s H C cl fp => ts_nil) (fun s H C cl fp => (e_mul (fr := false) (e_ix (e_v 2 rfl (.inl (by kernel_rfl))) e_int) (e_div (e_v 1 rfl (.inr (.inl (by kernel_rfl)))) (e_ix (e_v 2 rfl (.inl (by kernel_rfl))) e_int))))) (a_cons (e_v 1 rfl (.inr (.inl (by kernel_rfl)))) a_nil)))))))
/-! sum_of -/
theorem sc_sum_of : FnScope ["some", "tops", "below"] ["some"] (defScope (topS 16)) := ⟨rfl, rfl, rfl, by decide +kernel, rfl, by decide +kernel, by decide +kernel⟩
def b_sum_of : MS := (sSeq (sAsg (mCall (ar 1 r_whole) (mCons (mVar 0) mNil)) (gTp 2 (gC (gNm 1) (gC (gNm 2) gN0)))) (sRet (mCall (ar 2 r_fraction) (mCons (mCall gSum (mCons (mVar 1) mNil)) (mCons (mVar 2) mNil)))))
def r_sum_of : GC := runB 2 b_sum_of
theorem ok_sum_of (T : Tx K mg base) : FOk P w K mg base 4 T.d_sum_of.f T.d_sum_of.fd ["some"] r_sum_of := by
  refine fn_ok 2 T.d_sum_of.F sc_sum_of rfl fun cdv A outer s H E hr => ?_
  exact (s_cons (s_asg (e_call (ok_whole (P := P) (w := w) (base := base) T) (hr.mono (by first | decide | omega)) (takes_of rfl rfl rfl rfl) (gl_of (by kernel_rfl)) T.d_whole.m T.d_whole.F.kp T.d_whole.b (a_cons (e_v 0 rfl (.inl (by kernel_rfl))) a_nil)) (g_tp (n := 2) rfl (g_c (g_nm (i := 1) sc_sum_of.nd rfl (.inl (by kernel_rfl)) (.inl rfl)) (g_c (g_nm (i := 2) sc_sum_of.nd rfl (.inl (by kernel_rfl)) (.inl rfl)) g_n0))) (calm_tp (calm_c calm_nm (calm_c calm_nm calm_n0)))) (s_one (s_ret (e_call (ok_fraction (P := P) (w := w) (base := base) T) (hr.mono (by first | decide | omega)) (takes_of rfl rfl rfl rfl) (gl_of (by kernel_rfl)) T.d_fraction.m T.d_fraction.F.kp T.d_fraction.b (a_cons (e_sum rfl (gl_of (by kernel_rfl)) T.n_sum (a_cons (e_v 1 rfl (.inl (by kernel_rfl))) a_nil)) (a_cons (e_v 2 rfl (.inl (by kernel_rfl))) a_nil))))))
/-! _law_box -/
theorem sc__law_box : FnScope ["script", "k", "cell"] ["script", "k"] (defScope (topS 19)) := ⟨rfl, rfl, rfl, by decide +kernel, rfl, by decide +kernel, by decide +kernel⟩
def b__law_box : MS := (sSeq (sAsg (mIf (mT (mBin gLt (mVar 1) (mCall gLen (mCons (mVar 0) mNil)))) (mBin gIx (mVar 0) (mVar 1)) mBad) (gNm 2)) (sRet (mBox (mCons (mBin (gMul false) (mCall gAbs (mCons (mVar 2) mNil)) (mCall gInt (mCons (mBin gGe (mCall gAbs (mCons (mVar 2) mNil)) (mBin gPow (mC (.int 10)) (mC (.int 18)))) mNil))) (mCons (mBin (gAdd false) (mBin (gAdd false) (mBin gMod (mCall gInt (mCons (mVar 2) mNil)) (mC (.int 2305843009213693951))) (mBin (gMul false) (mC (.int 39373)) (mVar 1))) (mC (.int 2325001))) (mCons (mC (.int 0)) mNil))))))
def r__law_box : GC := runB 1 b__law_box
theorem ok__law_box (T : Tx K mg base) : FOk P w K mg base 1 T.d__law_box.f T.d__law_box.fd ["script", "k"] r__law_box := by
  refine fn_ok 1 T.d__law_box.F sc__law_box rfl fun cdv A outer s H E hr => ?_
  exact (s_cons (s_asg (e_ifx (t_lt (e_v 1 rfl (.inl (by kernel_rfl))) (e_len (gl_of (by kernel_rfl)) T.n_len (a_cons (e_v 0 rfl (.inl (by kernel_rfl))) a_nil))) (e_ix (e_v 0 rfl (.inl (by kernel_rfl))) (e_v 1 rfl (.inl (by kernel_rfl)))) e_bad) (g_nm (i := 2) sc__law_box.nd rfl (.inl (by kernel_rfl)) (.inl rfl)) calm_nm) (s_one (s_ret (e_box (a_cons (e_mul (fr := false) (e_abs (gl_of (by kernel_rfl)) T.n_abs (a_cons (e_v 2 rfl (.inl (by kernel_rfl))) a_nil)) (e_intc (gl_of (by kernel_rfl)) T.n_int (a_cons (e_ge (e_abs (gl_of (by kernel_rfl)) T.n_abs (a_cons (e_v 2 rfl (.inl (by kernel_rfl))) a_nil)) (e_pow e_int e_int)) a_nil))) (a_cons (e_add (fr := false) (e_add (fr := false) (e_mod (e_intc (gl_of (by kernel_rfl)) T.n_int (a_cons (e_v 2 rfl (.inl (by kernel_rfl))) a_nil)) e_int) (e_mul (fr := false) e_int (e_v 1 rfl (.inl (by kernel_rfl))))) e_int) (a_cons e_int a_nil)))))))
/-! _law_take -/
theorem sc__law_take : FnScope ["urn", "below", "drawn", "once", "far", "twice"] ["urn", "below"] (defScope (topS 20)) := ⟨rfl, rfl, rfl, by decide +kernel, rfl, by decide +kernel, by decide +kernel⟩
def b__law_take : MS := (sSeq (sIf (mT (mBin gGt (mBin gIx (mVar 0) (mC (.int 0))) (mC (.int 0)))) (sSeq (sAsg (mBin gMod (mCall gInt (mCons (mBin gIx (mVar 0) (mC (.int 0))) mNil)) (mVar 1)) (gNm 2)) (sSeq (sAsg (mBin gDiv (mBin gIx (mVar 0) (mC (.int 0))) (mVar 1)) (gSb (mVar 0) (mC (.int 0)))) (sRet (mVar 2)))) sNil) (sSeq (sAsg (mBin (gAdd false) (mBin gIx (mVar 0) (mC (.int 2))) (mC (.int 1))) (gSb (mVar 0) (mC (.int 2)))) (sSeq (sAsg (mBin gMod (mCall gInt (mCons (mBin (gMul false) (mBin (gAdd false) (mBin gIx (mVar 0) (mC (.int 1))) (mBin (gMul false) (mC (.int 48271)) (mBin gIx (mVar 0) (mC (.int 2))))) (mBin (gAdd false) (mC (.int 39373)) (mBin gIx (mVar 0) (mC (.int 2))))) mNil)) (mC (.int 2147483647))) (gNm 3)) (sSeq (sAsg (mBin (gAdd false) (mBin gMod (mCall gInt (mCons (mVar 3) mNil)) (mC (.int 40009))) (mC (.int 7))) (gNm 4)) (sSeq (sAsg (mBin gMod (mCall gInt (mCons (mBin (gMul false) (mBin (gAdd false) (mBin (gAdd false) (mVar 3) (mBin gIx (mVar 0) (mC (.int 2)))) (mBin gDiv (mBin gIx (mVar 0) (mC (.int 1))) (mC (.int 1000003)))) (mVar 4)) mNil)) (mC (.int 2147483629))) (gNm 5)) (sRet (mBin gMod (mCall gInt (mCons (mBin gDiv (mBin gMod (mCall gInt (mCons (mBin (gAdd false) (mBin (gMul false) (mVar 5) (mC (.int 48271))) (mVar 3)) mNil)) (mC (.int 2147483587))) (mC (.int 64))) mNil)) (mVar 1))))))))
def r__law_take : GC := runB 4 b__law_take
theorem ok__law_take (T : Tx K mg base) : FOk P w K mg base 1 T.d__law_take.f T.d__law_take.fd ["urn", "below"] r__law_take := by
  refine fn_ok 4 T.d__law_take.F sc__law_take rfl fun cdv A outer s H E hr => ?_
  exact (s_cons (s_if (t_gt (e_ix (e_v 0 rfl (.inl (by kernel_rfl))) e_int) e_int) (s_cons (s_asg (e_mod (e_intc (gl_of (by kernel_rfl)) T.n_int (a_cons (e_ix (e_v 0 rfl (.inl (by kernel_rfl))) e_int) a_nil)) (e_v 1 rfl (.inl (by kernel_rfl)))) (g_nm (i := 2) sc__law_take.nd rfl (.inl (by kernel_rfl)) (.inl rfl)) calm_nm) (s_cons (s_asg (e_div (e_ix (e_v 0 rfl (.inl (by kernel_rfl))) e_int) (e_v 1 rfl (.inl (by kernel_rfl)))) (g_sb (e_v 0 rfl (.inl (by kernel_rfl))) e_int) calm_sb) (s_one (s_ret (e_v 2 rfl (.inl (by kernel_rfl))))))) s_nil) (s_cons (s_asg (e_add (fr := false) (e_ix (e_v 0 rfl (.inl (by kernel_rfl))) e_int) e_int) (g_sb (e_v 0 rfl (.inl (by kernel_rfl))) e_int) calm_sb) (s_cons (s_asg (e_mod (e_intc (gl_of (by kernel_rfl)) T.n_int (a_cons (e_mul (fr := false) (e_add (fr := false) (e_ix (e_v 0 rfl (.inl (by kernel_rfl))) e_int) (e_mul (fr := false) e_int (e_ix (e_v 0 rfl (.inl (by kernel_rfl))) e_int))) (e_add (fr := false) e_int (e_ix (e_v 0 rfl (.inl (by kernel_rfl))) e_int))) a_nil)) e_int) (g_nm (i := 3) sc__law_take.nd rfl (.inl (by kernel_rfl)) (.inl rfl)) calm_nm) (s_cons (s_asg (e_add (fr := false) (e_mod (e_intc (gl_of (by kernel_rfl)) T.n_int (a_cons (e_v 3 rfl (.inl (by kernel_rfl))) a_nil)) e_int) e_int) (g_nm (i := 4) sc__law_take.nd rfl (.inl (by kernel_rfl)) (.inl rfl)) calm_nm) (s_cons (s_asg (e_mod (e_intc (gl_of (by kernel_rfl)) T.n_int (a_cons (e_mul (fr := false) (e_add (fr := false) (e_add (fr := false) (e_v 3 rfl (.inl (by kernel_rfl))) (e_ix (e_v 0 rfl (.inl (by kernel_rfl))) e_int)) (e_div (e_ix (e_v 0 rfl (.inl (by kernel_rfl))) e_int) e_int)) (e_v 4 rfl (.inl (by kernel_rfl)))) a_nil)) e_int) (g_nm (i := 5) sc__law_take.nd rfl (.inl (by kernel_rfl)) (.inl rfl)) calm_nm) (s_one (s_ret (e_mod (e_intc (gl_of (by kernel_rfl)) T.n_int (a_cons (e_div (e_mod (e_intc (gl_of (by kernel_rfl)) T.n_int (a_cons (e_add (fr := false) (e_mul (fr := false) (e_v 5 rfl (.inl (by kernel_rfl))) e_int) (e_v 3 rfl (.inl (by kernel_rfl)))) a_nil)) e_int) e_int) a_nil)) (e_v 1 rfl (.inl (by kernel_rfl)))))))))))
/-! _law_cells -/
theorem sc__law_cells : FnScope ["script", "many", "cells", "k", "cell", "at"] ["script", "many"] (defScope (topS 21)) := ⟨rfl, rfl, rfl, by decide +kernel, rfl, by decide +kernel, by decide +kernel⟩
def b__law_cells : MS := (sSeq (sAsg (mOrV (mCall (gList true) (mCons (mSl false (mVar 0) mPN (mPS (mVar 1))) mNil)) (mLst (mCons (mC (.int 0)) mNil))) (gNm 2)) (sSeq (sFor 100000 (iEnq (mCons (mSl false (mVar 0) (mPS (mVar 1)) (mPS (mC (.int 63)))) mNil)) (gTp 2 (gC (gNm 3) (gC (gNm 4) gN0))) (sSeq (sAsg (mBin gMod (mCall gInt (mCons (mVar 3) mNil)) (mVar 1)) (gNm 5)) (sAsg (mBin (gAdd false) (mBin gIx (mVar 2) (mVar 5)) (mBin (gMul false) (mVar 4) (mBin (gAdd false) (mVar 3) (mC (.int 2))))) (gSb (mVar 2) (mVar 5))))) (sRet (mVar 2))))
def r__law_cells : GC := runB 4 b__law_cells
theorem ok__law_cells (T : Tx K mg base) : FOk P w K mg base 1 T.d__law_cells.f T.d__law_cells.fd ["script", "many"] r__law_cells := by
  refine fn_ok 4 T.d__law_cells.F sc__law_cells rfl fun cdv A outer s H E hr => ?_
  exact (s_cons (s_asg (e_orV (e_list (fr := true) (gl_of (by kernel_rfl)) T.n_list (a_cons (e_sl (fr := false) (e_v 0 rfl (.inl (by kernel_rfl))) p_none (p_some (e_v 1 rfl (.inl (by kernel_rfl))))) a_nil)) (e_one (e_lst (a_cons e_int a_nil)))) (g_nm (i := 2) sc__law_cells.nd rfl (.inl (by kernel_rfl)) (.inl rfl)) calm_nm) (s_cons (s_for 100000 (passes_of rfl) rfl (i_enq (gl_of (by kernel_rfl)) T.n_enumerate (a_cons (e_sl (fr := false) (e_v 0 rfl (.inl (by kernel_rfl))) (p_some (e_v 1 rfl (.inl (by kernel_rfl)))) (p_some e_int)) a_nil)) (g_tp (n := 2) rfl (g_c (g_nm (i := 3) sc__law_cells.nd rfl (.inl (by kernel_rfl)) (.inl rfl)) (g_c (g_nm (i := 4) sc__law_cells.nd rfl (.inl (by kernel_rfl)) (.inl rfl)) g_n0))) (s_cons (s_asg (e_mod (e_intc (gl_of (by kernel_rfl)) T.n_int (a_cons (e_v 3 rfl (.inl (by kernel_rfl))) a_nil)) (e_v 1 rfl (.inl (by kernel_rfl)))) (g_nm (i := 5) sc__law_cells.nd rfl (.inl (by kernel_rfl)) (.inl rfl)) calm_nm) (s_one (s_asg (e_add (fr := false) (e_ix (e_v 2 rfl (.inl (by kernel_rfl))) (e_v 5 rfl (.inl (by kernel_rfl)))) (e_mul (fr := false) (e_v 4 rfl (.inl (by kernel_rfl))) (e_add (fr := false) (e_v 3 rfl (.inl (by kernel_rfl))) e_int))) (g_sb (e_v 2 rfl (.inl (by kernel_rfl))) (e_v 5 rfl (.inl (by kernel_rfl)))) calm_sb)))) (s_one (s_ret (e_v 2 rfl (.inl (by kernel_rfl)))))))
/-! _law_lists -/
theorem sc__law_lists : FnScope ["matter", "own"] ["matter"] (defScope (topS 22)) := ⟨rfl, rfl, rfl, by decide +kernel, rfl, by decide +kernel, by decide +kernel⟩
def b__law_lists (self : GC) : MS := (sRet (mIf (mT (mIsi [.list, .tuple] (mVar 0))) (mLc 100000 false (iTup (mVar 0)) [1] (gNm 1) mYes (mCall (ar 1 self) (mCons (mVar 1) mNil))) (mVar 0)))
def r__law_lists : Nat → GC
  | 0 => fun _ _ => .bad
  | l + 1 => runB 1 (b__law_lists (r__law_lists l))
theorem ok__law_lists (T : Tx K mg base) : ∀ l : Nat, FOk P w K mg base (l + 0) T.d__law_lists.f T.d__law_lists.fd ["matter"] (r__law_lists l)
  | 0 => fn_bad
  | l + 1 => by
    have IH := ok__law_lists T l
    rw [show l + 1 + 0 = (l + 0) + 1 by omega]
    refine fn_ok 1 T.d__law_lists.F sc__law_lists rfl fun cdv A outer s H E hr => ?_
    exact (s_one (s_ret (e_ifx (t_val (e_isi2 .list .tuple (by decide) (by decide) (gl_of (by kernel_rfl)) T.n_isinstance (gl_of (by kernel_rfl)) T.n_list (by decide +kernel) (gl_of (by kernel_rfl)) T.n_tuple (by decide +kernel) (e_v 0 rfl (.inl (by kernel_rfl))))) (e_lcv 100000 false [1] rfl sc__law_lists.nd (blkOk_by (own := [("own", 1)]) (N := ["matter", "own"]) (sc := defScope (topS 22)) (by decide +kernel)) (by decide) (i_tup (e_v 0 rfl (.inl (by kernel_rfl)))) (fun s H C cl fp => (g_nm (i := 1) sc__law_lists.nd rfl (.inl (by kernel_rfl)) (.inr (by kernel_rfl)))) (fun s H C cl fp => ts_nil) (fun s H C cl fp => (e_call IH hr takes0 (gl_of (by kernel_rfl)) T.d__law_lists.m T.d__law_lists.F.kp T.d__law_lists.b (a_cons (e_v 1 rfl (.inl (by kernel_rfl))) a_nil)))) (e_v 0 rfl (.inl (by kernel_rfl))))))
/-! _law_same -/
theorem sc__law_same : FnScope ["got", "due", "mine", "own"] ["got", "due"] (defScope (topS 23)) := ⟨rfl, rfl, rfl, by decide +kernel, rfl, by decide +kernel, by decide +kernel⟩
def b__law_same (self : GC) : MS := (sSeq (sIf (mT (mIsi [.list, .tuple] (mVar 1))) (sSeq (sIf (mOrT (mT (mBin gNe (mIsi [.list] (mVar 0)) (mIsi [.list] (mVar 1)))) (mT (mBin gNe (mIsi [.tuple] (mVar 0)) (mIsi [.tuple] (mVar 1))))) sBad sNil) (sRet (mAnd (mBin gEq (mCall gLen (mCons (mVar 0) mNil)) (mCall gLen (mCons (mVar 1) mNil))) (mCall gAll (mCons (mLc 100000 false (iZq (mCons (mVar 0) (mCons (mVar 1) mNil))) [2, 3] (gTp 2 (gC (gNm 2) (gC (gNm 3) gN0))) mYes (mCall (ar 2 self) (mCons (mVar 2) (mCons (mVar 3) mNil)))) mNil))))) sNil) (sSeq (sIf (mOrT (mT (mBin (gIs id) (mVar 1) (mC .non))) (mT (mIsi [.bool, .str] (mVar 1)))) (sRet (mAnd (mBin gEq (mVar 0) (mVar 1)) (mAnd (mBin gEq (mIsi [.bool] (mVar 0)) (mIsi [.bool] (mVar 1))) (mBin gEq (mBin (gIs id) (mVar 0) (mC .non)) (mBin (gIs id) (mVar 1) (mC .non)))))) sNil) (sRet (mAnd (mIsi [.int] (mVar 0)) (mAnd (mNot (mIsi [.bool] (mVar 0))) (mBin gEq (mVar 0) (mVar 1)))))))
def r__law_same : Nat → GC
  | 0 => fun _ _ => .bad
  | l + 1 => runB 2 (b__law_same (r__law_same l))
theorem ok__law_same (T : Tx K mg base) : ∀ l : Nat, FOk P w K mg base (l + 0) T.d__law_same.f T.d__law_same.fd ["got", "due"] (r__law_same l)
  | 0 => fn_bad
  | l + 1 => by
    have IH := ok__law_same T l
    rw [show l + 1 + 0 = (l + 0) + 1 by omega]
    refine fn_ok 2 T.d__law_same.F sc__law_same rfl fun cdv A outer s H E hr => ?_
    exact (s_cons (s_if (t_val (e_isi2 .list .tuple (by decide) (by decide) (gl_of (by kernel_rfl)) T.n_isinstance (gl_of (by kernel_rfl)) T.n_list (by decide +kernel) (gl_of (by kernel_rfl)) T.n_tuple (by decide +kernel) (e_v 1 rfl (.inl (by kernel_rfl))))) (s_cons (s_if (MW.t (w_or (t_ne hr.units (e_isi .list (by decide) (gl_of (by kernel_rfl)) T.n_isinstance (gl_of (by kernel_rfl)) T.n_list (by decide +kernel) (e_v 0 rfl (.inl (by kernel_rfl)))) (e_isi .list (by decide) (gl_of (by kernel_rfl)) T.n_isinstance (gl_of (by kernel_rfl)) T.n_list (by decide +kernel) (e_v 1 rfl (.inl (by kernel_rfl))))) (w_or1 (t_ne hr.units (e_isi .tuple (by decide) (gl_of (by kernel_rfl)) T.n_isinstance (gl_of (by kernel_rfl)) T.n_tuple (by decide +kernel) (e_v 0 rfl (.inl (by kernel_rfl)))) (e_isi .tuple (by decide) (gl_of (by kernel_rfl)) T.n_isinstance (gl_of (by kernel_rfl)) T.n_tuple (by decide +kernel) (e_v 1 rfl (.inl (by kernel_rfl)))))))) ss_bad s_nil) (s_one (s_ret (e_and (e_eq hr.units (e_len (gl_of (by kernel_rfl)) T.n_len (a_cons (e_v 0 rfl (.inl (by kernel_rfl))) a_nil)) (e_len (gl_of (by kernel_rfl)) T.n_len (a_cons (e_v 1 rfl (.inl (by kernel_rfl))) a_nil))) (e_one (e_all rfl (gl_of (by kernel_rfl)) T.n_all (a_cons (e_lcv 100000 false [2, 3] rfl sc__law_same.nd (blkOk_by (own := [("mine", 2), ("own", 3)]) (N := ["got", "due", "mine", "own"]) (sc := defScope (topS 23)) (by decide +kernel)) (by decide) (i_zq (gl_of (by kernel_rfl)) T.n_zip (a_cons (e_v 0 rfl (.inl (by kernel_rfl))) (a_cons (e_v 1 rfl (.inl (by kernel_rfl))) a_nil))) (fun s H C cl fp => (g_tp (n := 2) rfl (g_c (g_nm (i := 2) sc__law_same.nd rfl (.inl (by kernel_rfl)) (.inr (by kernel_rfl))) (g_c (g_nm (i := 3) sc__law_same.nd rfl (.inl (by kernel_rfl)) (.inr (by kernel_rfl))) g_n0)))) (fun s H C cl fp => ts_nil) (fun s H C cl fp => (e_call IH hr takes0 (gl_of (by kernel_rfl)) T.d__law_same.m T.d__law_same.F.kp T.d__law_same.b (a_cons (e_v 2 rfl (.inl (by kernel_rfl))) (a_cons (e_v 3 rfl (.inl (by kernel_rfl))) a_nil))))) a_nil))))))) s_nil) (s_cons (s_if (MW.t (w_or (t_is (e_v 1 rfl (.inl (by kernel_rfl))) e_non) (w_or1 (t_val (e_isi2 .bool .str (by decide) (by decide) (gl_of (by kernel_rfl)) T.n_isinstance (gl_of (by kernel_rfl)) T.n_bool (by decide +kernel) (gl_of (by kernel_rfl)) T.n_str (by decide +kernel) (e_v 1 rfl (.inl (by kernel_rfl)))))))) (s_one (s_ret (e_and (e_eq hr.units (e_v 0 rfl (.inl (by kernel_rfl))) (e_v 1 rfl (.inl (by kernel_rfl)))) (e_and (e_eq hr.units (e_isi .bool (by decide) (gl_of (by kernel_rfl)) T.n_isinstance (gl_of (by kernel_rfl)) T.n_bool (by decide +kernel) (e_v 0 rfl (.inl (by kernel_rfl)))) (e_isi .bool (by decide) (gl_of (by kernel_rfl)) T.n_isinstance (gl_of (by kernel_rfl)) T.n_bool (by decide +kernel) (e_v 1 rfl (.inl (by kernel_rfl))))) (e_one (e_eq hr.units (e_is (e_v 0 rfl (.inl (by kernel_rfl))) e_non) (e_is (e_v 1 rfl (.inl (by kernel_rfl))) e_non))))))) s_nil) (s_one (s_ret (e_and (e_isi .int (by decide) (gl_of (by kernel_rfl)) T.n_isinstance (gl_of (by kernel_rfl)) T.n_int (by decide +kernel) (e_v 0 rfl (.inl (by kernel_rfl)))) (e_and (e_not (e_isi .bool (by decide) (gl_of (by kernel_rfl)) T.n_isinstance (gl_of (by kernel_rfl)) T.n_bool (by decide +kernel) (e_v 0 rfl (.inl (by kernel_rfl))))) (e_one (e_eq hr.units (e_v 0 rfl (.inl (by kernel_rfl))) (e_v 1 rfl (.inl (by kernel_rfl)))))))))))
/-! _law_low -/
theorem sc__law_low : FnScope ["top", "below", "near", "far", "turn"] ["top", "below"] (defScope (topS 24)) := ⟨rfl, rfl, rfl, by decide +kernel, rfl, by decide +kernel, by decide +kernel⟩
def b__law_low : MS := (sSeq (sPar 2 3 (mCons (mCall gAbs (mCons (mVar 0) mNil)) (mCons (mCall gAbs (mCons (mVar 1) mNil)) mNil))) (sSeq (sWh 100000 (mT (mBin gNe (mVar 3) (mC (.int 0)))) (sPar 2 3 (mCons (mVar 3) (mCons (mBin gMod (mVar 2) (mVar 3)) mNil)))) (sSeq (sAsg (mIf (mT (mBin gLt (mVar 1) (mC (.int 0)))) (mUn gNeg (mVar 2)) (mVar 2)) (gNm 4)) (sRet (mTup (mCons (mBin gDiv (mVar 0) (mVar 4)) (mCons (mBin gDiv (mVar 1) (mVar 4)) mNil)))))))
def r__law_low : GC := runB 3 b__law_low
theorem ok__law_low (T : Tx K mg base) : FOk P w K mg base 1 T.d__law_low.f T.d__law_low.fd ["top", "below"] r__law_low := by
  refine fn_ok 3 T.d__law_low.F sc__law_low rfl fun cdv A outer s H E hr => ?_
  exact (s_cons (s_par (i := 2) (j := 3) rfl sc__law_low.nd rfl rfl (by decide) rfl rfl (a_cons (e_abs (gl_of (by kernel_rfl)) T.n_abs (a_cons (e_v 0 rfl (.inl (by kernel_rfl))) a_nil)) (a_cons (e_abs (gl_of (by kernel_rfl)) T.n_abs (a_cons (e_v 1 rfl (.inl (by kernel_rfl))) a_nil)) a_nil)) (by rfl)) (s_cons (s_wh 100000 (passes_of rfl) (t_ne hr.units (e_v 3 rfl (.inl (by kernel_rfl))) e_int) (s_one (s_par (i := 2) (j := 3) rfl sc__law_low.nd rfl rfl (by decide) rfl rfl (a_cons (e_v 3 rfl (.inl (by kernel_rfl))) (a_cons (e_mod (e_v 2 rfl (.inl (by kernel_rfl))) (e_v 3 rfl (.inl (by kernel_rfl)))) a_nil)) (by rfl)))) (s_cons (s_asg (e_ifx (t_lt (e_v 1 rfl (.inl (by kernel_rfl))) e_int) (e_neg (e_v 2 rfl (.inl (by kernel_rfl)))) (e_v 2 rfl (.inl (by kernel_rfl)))) (g_nm (i := 4) sc__law_low.nd rfl (.inl (by kernel_rfl)) (.inl rfl)) calm_nm) (s_one (s_ret (e_tup (a_cons (e_div (e_v 0 rfl (.inl (by kernel_rfl))) (e_v 4 rfl (.inl (by kernel_rfl)))) (a_cons (e_div (e_v 1 rfl (.inl (by kernel_rfl))) (e_v 4 rfl (.inl (by kernel_rfl)))) a_nil))))))))
/-! _law_number -/
theorem sc__law_number : FnScope ["urn", "size", "own"] ["urn"] (defScope (topS 25)) := ⟨rfl, rfl, rfl, by decide +kernel, rfl, by decide +kernel, by decide +kernel⟩
def b__law_number : MS := (sSeq (sAsg (mBin gIx (mTup (mCons (mC (.int 9)) (mCons (mC (.int 9)) (mCons (mC (.int 9)) (mCons (mC (.int 60)) (mCons (mBin gPow (mC (.int 10)) (mC (.int 30))) mNil)))))) (mCall (ar 2 r__law_take) (mCons (mVar 0) (mCons (mC (.int 5)) mNil)))) (gNm 1)) (sSeq (sAsg (mBin (gAdd false) (mC (.int 1)) (mCall (ar 2 r__law_take) (mCons (mVar 0) (mCons (mVar 1) mNil)))) (gNm 2)) (sRet (mBin (gMul false) (mVar 2) (mBin gIx (mTup (mCons (mC (.int 6)) (mCons (mUn gNeg (mC (.int 6))) (mCons (mC (.int 1)) (mCons (mUn gNeg (mC (.int 1))) (mCons (mC (.int 4)) mNil)))))) (mCall (ar 2 r__law_take) (mCons (mVar 0) (mCons (mC (.int 5)) mNil))))))))
def r__law_number : GC := runB 2 b__law_number
theorem ok__law_number (T : Tx K mg base) : FOk P w K mg base 2 T.d__law_number.f T.d__law_number.fd ["urn"] r__law_number := by
  refine fn_ok 2 T.d__law_number.F sc__law_number rfl fun cdv A outer s H E hr => ?_
  exact (s_cons (s_asg (e_ix (e_tup (a_cons e_int (a_cons e_int (a_cons e_int (a_cons e_int (a_cons (e_pow e_int e_int) a_nil)))))) (e_call (ok__law_take (P := P) (w := w) (base := base) T) (hr.mono (by first | decide | omega)) (takes_of rfl rfl rfl rfl) (gl_of (by kernel_rfl)) T.d__law_take.m T.d__law_take.F.kp T.d__law_take.b (a_cons (e_v 0 rfl (.inl (by kernel_rfl))) (a_cons e_int a_nil)))) (g_nm (i := 1) sc__law_number.nd rfl (.inl (by kernel_rfl)) (.inl rfl)) calm_nm) (s_cons (s_asg (e_add (fr := false) e_int (e_call (ok__law_take (P := P) (w := w) (base := base) T) (hr.mono (by first | decide | omega)) (takes_of rfl rfl rfl rfl) (gl_of (by kernel_rfl)) T.d__law_take.m T.d__law_take.F.kp T.d__law_take.b (a_cons (e_v 0 rfl (.inl (by kernel_rfl))) (a_cons (e_v 1 rfl (.inl (by kernel_rfl))) a_nil)))) (g_nm (i := 2) sc__law_number.nd rfl (.inl (by kernel_rfl)) (.inl rfl)) calm_nm) (s_one (s_ret (e_mul (fr := false) (e_v 2 rfl (.inl (by kernel_rfl))) (e_ix (e_tup (a_cons e_int (a_cons (e_neg e_int) (a_cons e_int (a_cons (e_neg e_int) (a_cons e_int a_nil)))))) (e_call (ok__law_take (P := P) (w := w) (base := base) T) (hr.mono (by first | decide | omega)) (takes_of rfl rfl rfl rfl) (gl_of (by kernel_rfl)) T.d__law_take.m T.d__law_take.F.kp T.d__law_take.b (a_cons (e_v 0 rfl (.inl (by kernel_rfl))) (a_cons e_int a_nil)))))))))
/-! _law_drawn -/
theorem sc__law_drawn : FnScope ["urn", "top"] ["urn"] (defScope (topS 26)) := ⟨rfl, rfl, rfl, by decide +kernel, rfl, by decide +kernel, by decide +kernel⟩
def b__law_drawn : MS := (sSeq (sAsg (mIf (mT (mBin gNe (mCall (ar 2 r__law_take) (mCons (mVar 0) (mCons (mC (.int 6)) mNil))) (mC (.int 0)))) (mCall (ar 1 r__law_number) (mCons (mVar 0) mNil)) (mC (.int 0))) (gNm 1)) (sRet (mTup (mCons (mVar 1) (mCons (mCall (ar 1 r__law_number) (mCons (mVar 0) mNil)) mNil)))))
def r__law_drawn : GC := runB 1 b__law_drawn
theorem ok__law_drawn (T : Tx K mg base) : FOk P w K mg base 3 T.d__law_drawn.f T.d__law_drawn.fd ["urn"] r__law_drawn := by
  refine fn_ok 1 T.d__law_drawn.F sc__law_drawn rfl fun cdv A outer s H E hr => ?_
  exact (s_cons (s_asg (e_ifx (t_ne hr.units (e_call (ok__law_take (P := P) (w := w) (base := base) T) (hr.mono (by first | decide | omega)) (takes_of rfl rfl rfl rfl) (gl_of (by kernel_rfl)) T.d__law_take.m T.d__law_take.F.kp T.d__law_take.b (a_cons (e_v 0 rfl (.inl (by kernel_rfl))) (a_cons e_int a_nil))) e_int) (e_call (ok__law_number (P := P) (w := w) (base := base) T) (hr.mono (by first | decide | omega)) (takes_of rfl rfl rfl rfl) (gl_of (by kernel_rfl)) T.d__law_number.m T.d__law_number.F.kp T.d__law_number.b (a_cons (e_v 0 rfl (.inl (by kernel_rfl))) a_nil)) e_int) (g_nm (i := 1) sc__law_drawn.nd rfl (.inl (by kernel_rfl)) (.inl rfl)) calm_nm) (s_one (s_ret (e_tup (a_cons (e_v 1 rfl (.inl (by kernel_rfl))) (a_cons (e_call (ok__law_number (P := P) (w := w) (base := base) T) (hr.mono (by first | decide | omega)) (takes_of rfl rfl rfl rfl) (gl_of (by kernel_rfl)) T.d__law_number.m T.d__law_number.F.kp T.d__law_number.b (a_cons (e_v 0 rfl (.inl (by kernel_rfl))) a_nil)) a_nil))))))
/-! _law_two_right -/
theorem sc__law_two_right : FnScope ["one", "two", "x", "y", "a", "b", "c", "d", "got", "due", "caught"] ["one", "two"] (defScope (topS 27)) := ⟨rfl, rfl, rfl, by decide +kernel, rfl, by decide +kernel, by decide +kernel⟩
def b__law_two_right : MS := (sSeq (sPar 2 3 (mCons (mCall (ar 2 r__law_low) (mCons (mBin gIx (mVar 0) (mC (.int 0))) (mCons (mBin gIx (mVar 0) (mC (.int 1))) mNil))) (mCons (mCall (ar 2 r__law_low) (mCons (mBin gIx (mVar 1) (mC (.int 0))) (mCons (mBin gIx (mVar 1) (mC (.int 1))) mNil))) mNil))) (sSeq (sAsg (mTup (mCons (mVar 2) (mCons (mVar 3) mNil))) (gTp 2 (gC (gTp 2 (gC (gNm 4) (gC (gNm 5) gN0))) (gC (gTp 2 (gC (gNm 6) (gC (gNm 7) gN0))) gN0)))) (sSeq (sAsg (mBox (mCons (mCall (ar 2 r_fraction) (mCons (mBin gIx (mVar 0) (mC (.int 0))) (mCons (mBin gIx (mVar 0) (mC (.int 1))) mNil))) (mCons (mCall (ar 2 r_fraction) (mCons (mBin gIx (mVar 1) (mC (.int 0))) (mCons (mBin gIx (mVar 1) (mC (.int 1))) mNil))) (mCons (mCall (ar 2 r_plus) (mCons (mVar 2) (mCons (mVar 3) mNil))) (mCons (mCall (ar 2 r_minus) (mCons (mVar 2) (mCons (mVar 3) mNil))) (mCons (mCall (ar 2 r_times) (mCons (mLst (mCons (mVar 4) (mCons (mVar 5) mNil))) (mCons (mLst (mCons (mVar 6) (mCons (mVar 7) mNil))) mNil))) (mCons (mCall (ar 2 r_less) (mCons (mVar 2) (mCons (mVar 3) mNil))) (mCons (mCall (ar 2 r_less) (mCons (mVar 3) (mCons (mVar 2) mNil))) (mCons (mCall (ar 2 r_less) (mCons (mVar 2) (mCons (mVar 2) mNil))) mNil))))))))) (gNm 8)) (sSeq (sAsg (mBox (mCons (mVar 2) (mCons (mVar 3) (mCons (mCall (ar 2 r__law_low) (mCons (mBin (gAdd false) (mBin (gMul false) (mVar 4) (mVar 7)) (mBin (gMul false) (mVar 6) (mVar 5))) (mCons (mBin (gMul false) (mVar 5) (mVar 7)) mNil))) (mCons (mCall (ar 2 r__law_low) (mCons (mBin gSub (mBin (gMul false) (mVar 4) (mVar 7)) (mBin (gMul false) (mVar 6) (mVar 5))) (mCons (mBin (gMul false) (mVar 5) (mVar 7)) mNil))) (mCons (mCall (ar 2 r__law_low) (mCons (mBin (gMul false) (mVar 4) (mVar 6)) (mCons (mBin (gMul false) (mVar 5) (mVar 7)) mNil))) (mCons (mBin gLt (mBin (gMul false) (mVar 4) (mVar 7)) (mBin (gMul false) (mVar 6) (mVar 5))) (mCons (mBin gLt (mBin (gMul false) (mVar 6) (mVar 5)) (mBin (gMul false) (mVar 4) (mVar 7))) (mCons (mC (.bl false)) mNil))))))))) (gNm 9)) (sSeq (sTryAs [("CanNot", true)] 10 (sExp (mApp (mVar 8) (mLst (mCons (mC (.str "told")) (mCons (mCall (ar 2 r_over) (mCons (mVar 2) (mCons (mVar 3) mNil))) mNil))))) (fun k => (sExp (mApp (mVar 8) (mLst (mCons (mC (.str "raised")) (mCons (mIsD (List.lookup k [("CanNot", true)])) mNil))))))) (sSeq (sExp (mApp (mVar 9) (mIf (mT (mBin gNe (mVar 6) (mC (.int 0)))) (mLst (mCons (mC (.str "told")) (mCons (mCall (ar 2 r__law_low) (mCons (mBin (gMul false) (mVar 4) (mVar 7)) (mCons (mBin (gMul false) (mVar 5) (mVar 6)) mNil))) mNil))) (mLst (mCons (mC (.str "raised")) (mCons (mC (.bl true)) mNil)))))) (sRet (mCall (ar 2 (r__law_same 12)) (mCons (mVar 8) (mCons (mVar 9) mNil))))))))))
def r__law_two_right : GC := runB 9 b__law_two_right
theorem ok__law_two_right (T : Tx K mg base) : FOk P w K mg base 13 T.d__law_two_right.f T.d__law_two_right.fd ["one", "two"] r__law_two_right := by
  refine fn_ok 9 T.d__law_two_right.F sc__law_two_right rfl fun cdv A outer s H E hr => ?_
  exact (s_cons (s_par (i := 2) (j := 3) rfl sc__law_two_right.nd rfl rfl (by decide) rfl rfl (a_cons (e_call (ok__law_low (P := P) (w := w) (base := base) T) (hr.mono (by first | decide | omega)) (takes_of rfl rfl rfl rfl) (gl_of (by kernel_rfl)) T.d__law_low.m T.d__law_low.F.kp T.d__law_low.b (a_cons (e_ix (e_v 0 rfl (.inl (by kernel_rfl))) e_int) (a_cons (e_ix (e_v 0 rfl (.inl (by kernel_rfl))) e_int) a_nil))) (a_cons (e_call (ok__law_low (P := P) (w := w) (base := base) T) (hr.mono (by first | decide | omega)) (takes_of rfl rfl rfl rfl) (gl_of (by kernel_rfl)) T.d__law_low.m T.d__law_low.F.kp T.d__law_low.b (a_cons (e_ix (e_v 1 rfl (.inl (by kernel_rfl))) e_int) (a_cons (e_ix (e_v 1 rfl (.inl (by kernel_rfl))) e_int) a_nil))) a_nil)) (by rfl)) (s_cons (s_asg (e_tup (a_cons (e_v 2 rfl (.inl (by kernel_rfl))) (a_cons (e_v 3 rfl (.inl (by kernel_rfl))) a_nil))) (g_tp (n := 2) rfl (g_c (g_tp (n := 2) rfl (g_c (g_nm (i := 4) sc__law_two_right.nd rfl (.inl (by kernel_rfl)) (.inl rfl)) (g_c (g_nm (i := 5) sc__law_two_right.nd rfl (.inl (by kernel_rfl)) (.inl rfl)) g_n0))) (g_c (g_tp (n := 2) rfl (g_c (g_nm (i := 6) sc__law_two_right.nd rfl (.inl (by kernel_rfl)) (.inl rfl)) (g_c (g_nm (i := 7) sc__law_two_right.nd rfl (.inl (by kernel_rfl)) (.inl rfl)) g_n0))) g_n0))) (calm_tp (calm_c (calm_tp (calm_c calm_nm (calm_c calm_nm calm_n0))) (calm_c (calm_tp (calm_c calm_nm (calm_c calm_nm calm_n0))) calm_n0)))) (s_cons (s_asg (e_box (a_cons (e_call (ok_fraction (P := P) (w := w) (base := base) T) (hr.mono (by first | decide | omega)) (takes_of rfl rfl rfl rfl) (gl_of (by kernel_rfl)) T.d_fraction.m T.d_fraction.F.kp T.d_fraction.b (a_cons (e_ix (e_v 0 rfl (.inl (by kernel_rfl))) e_int) (a_cons (e_ix (e_v 0 rfl (.inl (by kernel_rfl))) e_int) a_nil))) (a_cons (e_callW (ok_fraction (P := P) (w := w) (base := base) T) (hr.mono (by first | decide | omega)) (takes_of rfl rfl rfl rfl) (gl_of (by kernel_rfl)) T.d_fraction.m T.d_fraction.F.kp T.w_fraction (k_cons (e_ix (e_v 1 rfl (.inl (by kernel_rfl))) e_int) (k_cons (e_ix (e_v 1 rfl (.inl (by kernel_rfl))) e_int) k_nil))) (a_cons (e_call (ok_plus (P := P) (w := w) (base := base) T) (hr.mono (by first | decide | omega)) (takes_of rfl rfl rfl rfl) (gl_of (by kernel_rfl)) T.d_plus.m T.d_plus.F.kp T.d_plus.b (a_cons (e_v 2 rfl (.inl (by kernel_rfl))) (a_cons (e_v 3 rfl (.inl (by kernel_rfl))) a_nil))) (a_cons (e_callW (ok_minus (P := P) (w := w) (base := base) T) (hr.mono (by first | decide | omega)) (takes_of rfl rfl rfl rfl) (gl_of (by kernel_rfl)) T.d_minus.m T.d_minus.F.kp T.w_minus (k_cons (e_v 2 rfl (.inl (by kernel_rfl))) (k_cons (e_v 3 rfl (.inl (by kernel_rfl))) k_nil))) (a_cons (e_call (ok_times (P := P) (w := w) (base := base) T) (hr.mono (by first | decide | omega)) (takes_of rfl rfl rfl rfl) (gl_of (by kernel_rfl)) T.d_times.m T.d_times.F.kp T.d_times.b (a_cons (e_lst (a_cons (e_v 4 rfl (.inl (by kernel_rfl))) (a_cons (e_v 5 rfl (.inl (by kernel_rfl))) a_nil))) (a_cons (e_lst (a_cons (e_v 6 rfl (.inl (by kernel_rfl))) (a_cons (e_v 7 rfl (.inl (by kernel_rfl))) a_nil))) a_nil))) (a_cons (e_call (ok_less (P := P) (w := w) (base := base) T) (hr.mono (by first | decide | omega)) (takes_of rfl rfl rfl rfl) (gl_of (by kernel_rfl)) T.d_less.m T.d_less.F.kp T.d_less.b (a_cons (e_v 2 rfl (.inl (by kernel_rfl))) (a_cons (e_v 3 rfl (.inl (by kernel_rfl))) a_nil))) (a_cons (e_call (ok_less (P := P) (w := w) (base := base) T) (hr.mono (by first | decide | omega)) (takes_of rfl rfl rfl rfl) (gl_of (by kernel_rfl)) T.d_less.m T.d_less.F.kp T.d_less.b (a_cons (e_v 3 rfl (.inl (by kernel_rfl))) (a_cons (e_v 2 rfl (.inl (by kernel_rfl))) a_nil))) (a_cons (e_call (ok_less (P := P) (w := w) (base := base) T) (hr.mono (by first | decide | omega)) (takes_of rfl rfl rfl rfl) (gl_of (by kernel_rfl)) T.d_less.m T.d_less.F.kp T.d_less.b (a_cons (e_v 2 rfl (.inl (by kernel_rfl))) (a_cons (e_v 2 rfl (.inl (by kernel_rfl))) a_nil))) a_nil))))))))) (g_nm (i := 8) sc__law_two_right.nd rfl (.inl (by kernel_rfl)) (.inl rfl)) calm_nm) (s_cons (s_asg (e_box (a_cons (e_v 2 rfl (.inl (by kernel_rfl))) (a_cons (e_v 3 rfl (.inl (by kernel_rfl))) (a_cons (e_call (ok__law_low (P := P) (w := w) (base := base) T) (hr.mono (by first | decide | omega)) (takes_of rfl rfl rfl rfl) (gl_of (by kernel_rfl)) T.d__law_low.m T.d__law_low.F.kp T.d__law_low.b (a_cons (e_add (fr := false) (e_mul (fr := false) (e_v 4 rfl (.inl (by kernel_rfl))) (e_v 7 rfl (.inl (by kernel_rfl)))) (e_mul (fr := false) (e_v 6 rfl (.inl (by kernel_rfl))) (e_v 5 rfl (.inl (by kernel_rfl))))) (a_cons (e_mul (fr := false) (e_v 5 rfl (.inl (by kernel_rfl))) (e_v 7 rfl (.inl (by kernel_rfl)))) a_nil))) (a_cons (e_call (ok__law_low (P := P) (w := w) (base := base) T) (hr.mono (by first | decide | omega)) (takes_of rfl rfl rfl rfl) (gl_of (by kernel_rfl)) T.d__law_low.m T.d__law_low.F.kp T.d__law_low.b (a_cons (e_sub (e_mul (fr := false) (e_v 4 rfl (.inl (by kernel_rfl))) (e_v 7 rfl (.inl (by kernel_rfl)))) (e_mul (fr := false) (e_v 6 rfl (.inl (by kernel_rfl))) (e_v 5 rfl (.inl (by kernel_rfl))))) (a_cons (e_mul (fr := false) (e_v 5 rfl (.inl (by kernel_rfl))) (e_v 7 rfl (.inl (by kernel_rfl)))) a_nil))) (a_cons (e_call (ok__law_low (P := P) (w := w) (base := base) T) (hr.mono (by first | decide | omega)) (takes_of rfl rfl rfl rfl) (gl_of (by kernel_rfl)) T.d__law_low.m T.d__law_low.F.kp T.d__law_low.b (a_cons (e_mul (fr := false) (e_v 4 rfl (.inl (by kernel_rfl))) (e_v 6 rfl (.inl (by kernel_rfl)))) (a_cons (e_mul (fr := false) (e_v 5 rfl (.inl (by kernel_rfl))) (e_v 7 rfl (.inl (by kernel_rfl)))) a_nil))) (a_cons (e_lt (e_mul (fr := false) (e_v 4 rfl (.inl (by kernel_rfl))) (e_v 7 rfl (.inl (by kernel_rfl)))) (e_mul (fr := false) (e_v 6 rfl (.inl (by kernel_rfl))) (e_v 5 rfl (.inl (by kernel_rfl))))) (a_cons (e_lt (e_mul (fr := false) (e_v 6 rfl (.inl (by kernel_rfl))) (e_v 5 rfl (.inl (by kernel_rfl)))) (e_mul (fr := false) (e_v 4 rfl (.inl (by kernel_rfl))) (e_v 7 rfl (.inl (by kernel_rfl))))) (a_cons e_bl a_nil))))))))) (g_nm (i := 9) sc__law_two_right.nd rfl (.inl (by kernel_rfl)) (.inl rfl)) calm_nm) (s_cons (s_try_as (i := 10) (tab := [("CanNot", true)]) (mu := fun a k => (sExp (mApp (mVar 8) (mLst (mCons (mC (.str "raised")) (mCons (mIsC a 10 (List.lookup k [("CanNot", true)])) mNil)))))) (mu0 := fun k => (sExp (mApp (mVar 8) (mLst (mCons (mC (.str "raised")) (mCons (mIsD (List.lookup k [("CanNot", true)])) mNil)))))) rfl rfl sc__law_two_right.nd rfl (by kernel_rfl) ⟨gl_of (by kernel_rfl), by decide, .inl T.c_CanNot.m⟩ (takes_of rfl rfl rfl rfl) T.h_CanNot (fun W2 pn xe tk po => (s_one (s_exp (e_app (e_v 8 rfl (.inl (by kernel_rfl))) (e_lst (a_cons e_str (a_cons (e_callW (ok_over (P := P) (w := w) (base := base) T) (hr.mono (by first | decide | omega)) tk (gl_of (by kernel_rfl)) T.d_over.m T.d_over.F.kp T.w_over (k_cons (e_v 2 rfl (.inl (by kernel_rfl))) (k_cons (e_v 3 rfl (.inl (by kernel_rfl))) k_nil))) a_nil))))))) (fun k C a oe pn hk hz hv => (s_one (s_exp (e_app (e_v 8 rfl (.inl (by kernel_rfl))) (e_lst (a_cons e_str (a_cons (e_isC (i := 10) (tab := [("CanNot", true)]) hk T.ox T.i_ValueError hz hv (gl_of (by kernel_rfl)) T.n_isinstance (pe_bltn (v := .ty "ValueError") (gl_of (by kernel_rfl)) T.n_ValueError (by decide +kernel) rfl) (fun _ r => r) rfl (.inl (by kernel_rfl))) a_nil))))))) (by intro a k env s hl; simp [setR_eq, nthR_eq, putF_fl, putF_nx, putF_rt, bind_ok, fl_ok, List.getElem?_set, hl, sSeq, sNil, sExp, sRet, mApp, mLst, mBox, mTup, mCall, mCons, mNil, mC, mVar, mIsC, mIsD])) (s_cons (s_exp (e_app (e_v 9 rfl (.inl (by kernel_rfl))) (e_ifx (t_ne hr.units (e_v 6 rfl (.inl (by kernel_rfl))) e_int) (e_lst (a_cons e_str (a_cons (e_call (ok__law_low (P := P) (w := w) (base := base) T) (hr.mono (by first | decide | omega)) (takes_of rfl rfl rfl rfl) (gl_of (by kernel_rfl)) T.d__law_low.m T.d__law_low.F.kp T.d__law_low.b (a_cons (e_mul (fr := false) (e_v 4 rfl (.inl (by kernel_rfl))) (e_v 7 rfl (.inl (by kernel_rfl)))) (a_cons (e_mul (fr := false) (e_v 5 rfl (.inl (by kernel_rfl))) (e_v 6 rfl (.inl (by kernel_rfl)))) a_nil))) a_nil))) (e_lst (a_cons e_str (a_cons e_bl a_nil)))))) (s_one (s_ret (e_call (ok__law_same (P := P) (w := w) (base := base) T 12) (hr.mono (by first | decide | omega)) (takes_of rfl rfl rfl rfl) (gl_of (by kernel_rfl)) T.d__law_same.m T.d__law_same.F.kp T.d__law_same.b (a_cons (e_v 8 rfl (.inl (by kernel_rfl))) (a_cons (e_v 9 rfl (.inl (by kernel_rfl))) a_nil)))))))))))
/-! _law_many_right -/
theorem sc__law_many_right : FnScope ["some", "common", "top", "below", "tops", "due", "kept", "got"] ["some"] (defScope (topS 28)) := ⟨rfl, rfl, rfl, by decide +kernel, rfl, by decide +kernel, by decide +kernel⟩
def b__law_many_right : MS := (sSeq (sAsg (mC (.int 1)) (gNm 1)) (sSeq (sFor 100000 (iLst (mVar 0)) (gTp 2 (gC (gNm 2) (gC (gNm 3) gN0))) (sAsg (mBin (gMul false) (mVar 1) (mVar 3)) (gNm 1))) (sSeq (sAsg (mLc 100000 false (iLst (mVar 0)) [2, 3] (gTp 2 (gC (gNm 2) (gC (gNm 3) gN0))) mYes (mBin (gMul false) (mVar 2) (mBin gDiv (mVar 1) (mVar 3)))) (gNm 4)) (sSeq (sAsg (mLst (mCons (mC .non) (mCons (mC .non) (mCons (mTup (mCons (mC (.int 0)) (mCons (mC (.int 1)) mNil))) mNil)))) (gNm 5)) (sSeq (sIf (mT (mBin gNe (mVar 0) (mLst mNil))) (sAsg (mLst (mCons (mCall (ar 2 r__law_low) (mCons (mCall gMin (mCons (mVar 4) mNil)) (mCons (mVar 1) mNil))) (mCons (mCall (ar 2 r__law_low) (mCons (mCall gMax (mCons (mVar 4) mNil)) (mCons (mVar 1) mNil))) (mCons (mCall (ar 2 r__law_low) (mCons (mCall gSum (mCons (mVar 4) mNil)) (mCons (mVar 1) mNil))) mNil)))) (gNm 5)) sNil) (sSeq (sAsg (mCall gTuple (mCons (mVar 0) mNil)) (gNm 6)) (sSeq (sAsg (mLst (mCons (mCall (ar 1 r_least) (mCons (mVar 6) mNil)) (mCons (mCall (ar 1 r_greatest) (mCons (mVar 6) mNil)) (mCons (mCall (ar 1 r_sum_of) (mCons (mCall (ar 1 (r__law_lists 12)) (mCons (mVar 6) mNil)) mNil)) mNil)))) (gNm 7)) (sRet (mAnd (mCall (ar 2 (r__law_same 12)) (mCons (mVar 7) (mCons (mVar 5) mNil))) (mCall (ar 2 (r__law_same 12)) (mCons (mLst (mCons (mVar 6) (mCons (mCall (ar 1 r_least) (mCons (mCall (ar 1 (r__law_lists 12)) (mCons (mVar 6) mNil)) mNil)) (mCons (mCall (ar 1 r_greatest) (mCons (mCall (gList false) (mCons (mVar 6) mNil)) mNil)) mNil)))) (mCons (mBin (gAdd false) (mLst (mCons (mCall gTuple (mCons (mVar 0) mNil)) mNil)) (mSl false (mVar 5) mPN (mPS (mC (.int 2))))) mNil))))))))))))
def r__law_many_right : GC := runB 7 b__law_many_right
theorem ok__law_many_right (T : Tx K mg base) : FOk P w K mg base 13 T.d__law_many_right.f T.d__law_many_right.fd ["some"] r__law_many_right := by
  refine fn_ok 7 T.d__law_many_right.F sc__law_many_right rfl fun cdv A outer s H E hr => ?_
  exact (s_cons (s_asg e_int (g_nm (i := 1) sc__law_many_right.nd rfl (.inr (by kernel_rfl)) (.inl rfl)) calm_nm) (s_cons (s_for 100000 (passes_of rfl) rfl (i_lst (e_v 0 rfl (.inl (by kernel_rfl)))) (g_tp (n := 2) rfl (g_c (g_nm (i := 2) sc__law_many_right.nd rfl (.inl (by kernel_rfl)) (.inl rfl)) (g_c (g_nm (i := 3) sc__law_many_right.nd rfl (.inl (by kernel_rfl)) (.inl rfl)) g_n0))) (s_one (s_asg (e_mul (fr := false) (e_v 1 rfl (.inr (.inl (by kernel_rfl)))) (e_v 3 rfl (.inl (by kernel_rfl)))) (g_nm (i := 1) sc__law_many_right.nd rfl (.inr (by kernel_rfl)) (.inl rfl)) calm_nm))) (s_cons (s_lcv (i := 4) 100000 false [2, 3] rfl sc__law_many_right.nd rfl rfl (sw_true rfl rfl rfl (by decide +kernel)) (blkOk_by (own := [("top", 2), ("below", 3)]) (N := ["some", "common", "top", "below", "tops", "due", "kept", "got"]) (sc := defScope (topS 28)) (by decide +kernel)) (by decide) (i_lst (e_v 0 rfl (.inl (by kernel_rfl)))) (fun s H C cl fp => (g_tp (n := 2) rfl (g_c (g_nm (i := 2) sc__law_many_right.nd rfl (.inl (by kernel_rfl)) (.inr (by kernel_rfl))) (g_c (g_nm (i := 3) sc__law_many_right.nd rfl (.inl (by kernel_rfl)) (.inr (by kernel_rfl))) g_n0)))) (fun s H C cl fp => ts_nil) (fun s H C cl fp => (e_mul (fr := false) (e_v 2 rfl (.inl (by kernel_rfl))) (e_div (e_v 1 rfl (.inr (.inl (by kernel_rfl)))) (e_v 3 rfl (.inl (by kernel_rfl))))))) (s_cons (s_asg (e_lst (a_cons e_non (a_cons e_non (a_cons (e_tup (a_cons e_int (a_cons e_int a_nil))) a_nil)))) (g_nm (i := 5) sc__law_many_right.nd rfl (.inl (by kernel_rfl)) (.inl rfl)) calm_nm) (s_cons (s_if (t_ne hr.units (e_v 0 rfl (.inl (by kernel_rfl))) (e_lst a_nil)) (s_one (s_asg (e_lst (a_cons (e_call (ok__law_low (P := P) (w := w) (base := base) T) (hr.mono (by first | decide | omega)) (takes_of rfl rfl rfl rfl) (gl_of (by kernel_rfl)) T.d__law_low.m T.d__law_low.F.kp T.d__law_low.b (a_cons (e_min rfl (gl_of (by kernel_rfl)) T.n_min (a_cons (e_v 4 rfl (.inl (by kernel_rfl))) a_nil)) (a_cons (e_v 1 rfl (.inr (.inl (by kernel_rfl)))) a_nil))) (a_cons (e_call (ok__law_low (P := P) (w := w) (base := base) T) (hr.mono (by first | decide | omega)) (takes_of rfl rfl rfl rfl) (gl_of (by kernel_rfl)) T.d__law_low.m T.d__law_low.F.kp T.d__law_low.b (a_cons (e_max rfl (gl_of (by kernel_rfl)) T.n_max (a_cons (e_v 4 rfl (.inl (by kernel_rfl))) a_nil)) (a_cons (e_v 1 rfl (.inr (.inl (by kernel_rfl)))) a_nil))) (a_cons (e_call (ok__law_low (P := P) (w := w) (base := base) T) (hr.mono (by first | decide | omega)) (takes_of rfl rfl rfl rfl) (gl_of (by kernel_rfl)) T.d__law_low.m T.d__law_low.F.kp T.d__law_low.b (a_cons (e_sum rfl (gl_of (by kernel_rfl)) T.n_sum (a_cons (e_v 4 rfl (.inl (by kernel_rfl))) a_nil)) (a_cons (e_v 1 rfl (.inr (.inl (by kernel_rfl)))) a_nil))) a_nil)))) (g_nm (i := 5) sc__law_many_right.nd rfl (.inl (by kernel_rfl)) (.inl rfl)) calm_nm)) s_nil) (s_cons (s_asg (e_tuple (gl_of (by kernel_rfl)) T.n_tuple (a_cons (e_v 0 rfl (.inl (by kernel_rfl))) a_nil)) (g_nm (i := 6) sc__law_many_right.nd rfl (.inl (by kernel_rfl)) (.inl rfl)) calm_nm) (s_cons (s_asg (e_lst (a_cons (e_call (ok_least (P := P) (w := w) (base := base) T) (hr.mono (by first | decide | omega)) (takes_of rfl rfl rfl rfl) (gl_of (by kernel_rfl)) T.d_least.m T.d_least.F.kp T.d_least.b (a_cons (e_v 6 rfl (.inl (by kernel_rfl))) a_nil)) (a_cons (e_callW (ok_greatest (P := P) (w := w) (base := base) T) (hr.mono (by first | decide | omega)) (takes_of rfl rfl rfl rfl) (gl_of (by kernel_rfl)) T.d_greatest.m T.d_greatest.F.kp T.w_greatest (k_cons (e_v 6 rfl (.inl (by kernel_rfl))) k_nil)) (a_cons (e_call (ok_sum_of (P := P) (w := w) (base := base) T) (hr.mono (by first | decide | omega)) (takes_of rfl rfl rfl rfl) (gl_of (by kernel_rfl)) T.d_sum_of.m T.d_sum_of.F.kp T.d_sum_of.b (a_cons (e_call (ok__law_lists (P := P) (w := w) (base := base) T 12) (hr.mono (by first | decide | omega)) (takes_of rfl rfl rfl rfl) (gl_of (by kernel_rfl)) T.d__law_lists.m T.d__law_lists.F.kp T.d__law_lists.b (a_cons (e_v 6 rfl (.inl (by kernel_rfl))) a_nil)) a_nil)) a_nil)))) (g_nm (i := 7) sc__law_many_right.nd rfl (.inl (by kernel_rfl)) (.inl rfl)) calm_nm) (s_one (s_ret (e_and (e_call (ok__law_same (P := P) (w := w) (base := base) T 12) (hr.mono (by first | decide | omega)) (takes_of rfl rfl rfl rfl) (gl_of (by kernel_rfl)) T.d__law_same.m T.d__law_same.F.kp T.d__law_same.b (a_cons (e_v 7 rfl (.inl (by kernel_rfl))) (a_cons (e_v 5 rfl (.inl (by kernel_rfl))) a_nil))) (e_one (e_call (ok__law_same (P := P) (w := w) (base := base) T 12) (hr.mono (by first | decide | omega)) (takes_of rfl rfl rfl rfl) (gl_of (by kernel_rfl)) T.d__law_same.m T.d__law_same.F.kp T.d__law_same.b (a_cons (e_lst (a_cons (e_v 6 rfl (.inl (by kernel_rfl))) (a_cons (e_call (ok_least (P := P) (w := w) (base := base) T) (hr.mono (by first | decide | omega)) (takes_of rfl rfl rfl rfl) (gl_of (by kernel_rfl)) T.d_least.m T.d_least.F.kp T.d_least.b (a_cons (e_call (ok__law_lists (P := P) (w := w) (base := base) T 12) (hr.mono (by first | decide | omega)) (takes_of rfl rfl rfl rfl) (gl_of (by kernel_rfl)) T.d__law_lists.m T.d__law_lists.F.kp T.d__law_lists.b (a_cons (e_v 6 rfl (.inl (by kernel_rfl))) a_nil)) a_nil)) (a_cons (e_call (ok_greatest (P := P) (w := w) (base := base) T) (hr.mono (by first | decide | omega)) (takes_of rfl rfl rfl rfl) (gl_of (by kernel_rfl)) T.d_greatest.m T.d_greatest.F.kp T.d_greatest.b (a_cons (e_list (fr := false) (gl_of (by kernel_rfl)) T.n_list (a_cons (e_v 6 rfl (.inl (by kernel_rfl))) a_nil)) a_nil)) a_nil)))) (a_cons (e_add (fr := false) (e_lst (a_cons (e_tuple (gl_of (by kernel_rfl)) T.n_tuple (a_cons (e_v 0 rfl (.inl (by kernel_rfl))) a_nil)) a_nil)) (e_sl (fr := false) (e_v 5 rfl (.inl (by kernel_rfl))) p_none (p_some e_int))) a_nil))))))))))))))
/-! _law_refused -/
theorem sc__law_refused : FnScope ["top", "below", "bad", "good", "own"] [] (defScope (topS 29)) := ⟨rfl, rfl, rfl, by decide +kernel, rfl, by decide +kernel, by decide +kernel⟩
def b__law_refused : MS := (sSeq (sFor 100000 (iTup (mTup (mCons (mTup (mCons (mC (.int 1)) (mCons (mC (.int 0)) mNil))) (mCons (mTup (mCons (mC (.int 0)) (mCons (mC (.int 0)) mNil))) (mCons (mTup (mCons (mUn gNeg (mC (.int 3))) (mCons (mC (.int 0)) mNil))) mNil))))) (gTp 2 (gC (gNm 0) (gC (gNm 1) gN0))) (sTry [("CanNot", true)] (sSeq (sExp (mCall (ar 2 r_fraction) (mCons (mVar 0) (mCons (mVar 1) mNil)))) sBad) sNil)) (sSeq (sAsg (mLst (mCons (mTup (mCons (mC (.int 2)) (mCons (mC (.int 4)) mNil))) (mCons (mTup (mCons (mC (.int 1)) (mCons (mUn gNeg (mC (.int 2))) mNil))) (mCons (mTup (mCons (mC (.int 0)) (mCons (mC (.int 2)) mNil))) (mCons (mTup (mCons (mC (.int 1)) (mCons (mC (.int 0)) mNil))) (mCons (mTup (mCons (mC (.bl true)) (mCons (mC (.int 1)) mNil))) (mCons (mTup (mCons (mC (.int 1)) (mCons (mC (.bl true)) mNil))) (mCons (mLst (mCons (mC (.int 1)) (mCons (mC (.int 2)) mNil))) (mCons (mTup (mCons (mC (.int 1)) mNil)) (mCons (mTup (mCons (mC (.int 1)) (mCons (mC (.int 2)) (mCons (mC (.int 1)) mNil)))) (mCons (mTup (mCons (mC (.int 1)) (mCons (mC (.str "2")) mNil))) (mCons (mC (.str "1/2")) (mCons (mC .non) (mCons (mC (.int 1)) (mCons (mTup (mCons (mTup (mCons (mC (.int 1)) (mCons (mC (.int 1)) mNil))) (mCons (mC (.int 2)) mNil))) mNil))))))))))))))) (gNm 2)) (sSeq (sAsg (mLst (mCons (mTup (mCons (mC (.int 0)) (mCons (mC (.int 1)) mNil))) (mCons (mTup (mCons (mUn gNeg (mC (.int 3))) (mCons (mC (.int 2)) mNil))) (mCons (mTup (mCons (mBin (gAdd false) (mBin gPow (mC (.int 10)) (mC (.int 40))) (mC (.int 1))) (mCons (mBin gPow (mC (.int 10)) (mC (.int 40))) mNil))) (mCons (mTup (mCons (mC (.int 5)) (mCons (mC (.int 1)) mNil))) mNil))))) (gNm 3)) (sRet (mCall (ar 2 (r__law_same 12)) (mCons (mLc 100000 false (iLst (mBin (gAdd false) (mVar 2) (mVar 3))) [4] (gNm 4) mYes (mCall (ar 1 r_is_fraction) (mCons (mVar 4) mNil))) (mCons (mBin (gAdd false) (mBin (gMul false) (mLst (mCons (mC (.bl false)) mNil)) (mCall gLen (mCons (mVar 2) mNil))) (mBin (gMul false) (mLst (mCons (mC (.bl true)) mNil)) (mCall gLen (mCons (mVar 3) mNil)))) mNil)))))))
def r__law_refused : GC := runB 5 b__law_refused
theorem ok__law_refused (T : Tx K mg base) : FOk P w K mg base 13 T.d__law_refused.f T.d__law_refused.fd [] r__law_refused := by
  refine fn_ok 5 T.d__law_refused.F sc__law_refused rfl fun cdv A outer s H E hr => ?_
  exact (s_cons (s_for 100000 (passes_of rfl) rfl (i_tup (e_tup (a_cons (e_tup (a_cons e_int (a_cons e_int a_nil))) (a_cons (e_tup (a_cons e_int (a_cons e_int a_nil))) (a_cons (e_tup (a_cons (e_neg e_int) (a_cons e_int a_nil))) a_nil))))) (g_tp (n := 2) rfl (g_c (g_nm (i := 0) sc__law_refused.nd rfl (.inl (by kernel_rfl)) (.inl rfl)) (g_c (g_nm (i := 1) sc__law_refused.nd rfl (.inl (by kernel_rfl)) (.inl rfl)) g_n0))) (s_one (s_try (tab := [("CanNot", true)]) rfl rfl ⟨gl_of (by kernel_rfl), by decide, .inl T.c_CanNot.m⟩ (takes_of rfl rfl rfl rfl) T.h_CanNot (fun W2 pn xe tk po => (s_cons (s_exp (e_call (ok_fraction (P := P) (w := w) (base := base) T) (hr.mono (by first | decide | omega)) tk (gl_of (by kernel_rfl)) T.d_fraction.m T.d_fraction.F.kp T.d_fraction.b (a_cons (e_v 0 rfl (.inl (by kernel_rfl))) (a_cons (e_v 1 rfl (.inl (by kernel_rfl))) a_nil)))) ss_bad)) (fun a oe pn => (s_one s_pass))))) (s_cons (s_asg (e_lst (a_cons (e_tup (a_cons e_int (a_cons e_int a_nil))) (a_cons (e_tup (a_cons e_int (a_cons (e_neg e_int) a_nil))) (a_cons (e_tup (a_cons e_int (a_cons e_int a_nil))) (a_cons (e_tup (a_cons e_int (a_cons e_int a_nil))) (a_cons (e_tup (a_cons e_bl (a_cons e_int a_nil))) (a_cons (e_tup (a_cons e_int (a_cons e_bl a_nil))) (a_cons (e_lst (a_cons e_int (a_cons e_int a_nil))) (a_cons (e_tup (a_cons e_int a_nil)) (a_cons (e_tup (a_cons e_int (a_cons e_int (a_cons e_int a_nil)))) (a_cons (e_tup (a_cons e_int (a_cons e_str a_nil))) (a_cons e_str (a_cons e_non (a_cons e_int (a_cons (e_tup (a_cons (e_tup (a_cons e_int (a_cons e_int a_nil))) (a_cons e_int a_nil))) a_nil))))))))))))))) (g_nm (i := 2) sc__law_refused.nd rfl (.inl (by kernel_rfl)) (.inl rfl)) calm_nm) (s_cons (s_asg (e_lst (a_cons (e_tup (a_cons e_int (a_cons e_int a_nil))) (a_cons (e_tup (a_cons (e_neg e_int) (a_cons e_int a_nil))) (a_cons (e_tup (a_cons (e_add (fr := false) (e_pow e_int e_int) e_int) (a_cons (e_pow e_int e_int) a_nil))) (a_cons (e_tup (a_cons e_int (a_cons e_int a_nil))) a_nil))))) (g_nm (i := 3) sc__law_refused.nd rfl (.inl (by kernel_rfl)) (.inl rfl)) calm_nm) (s_one (s_ret (e_call (ok__law_same (P := P) (w := w) (base := base) T 12) (hr.mono (by first | decide | omega)) (takes_of rfl rfl rfl rfl) (gl_of (by kernel_rfl)) T.d__law_same.m T.d__law_same.F.kp T.d__law_same.b (a_cons (e_lcv 100000 false [4] rfl sc__law_refused.nd (blkOk_by (own := [("own", 4)]) (N := ["top", "below", "bad", "good", "own"]) (sc := defScope (topS 29)) (by decide +kernel)) (by decide) (i_lst (e_add (fr := false) (e_v 2 rfl (.inl (by kernel_rfl))) (e_v 3 rfl (.inl (by kernel_rfl))))) (fun s H C cl fp => (g_nm (i := 4) sc__law_refused.nd rfl (.inl (by kernel_rfl)) (.inr (by kernel_rfl)))) (fun s H C cl fp => ts_nil) (fun s H C cl fp => (e_call (ok_is_fraction (P := P) (w := w) (base := base) T) (hr.mono (by first | decide | omega)) takes0 (gl_of (by kernel_rfl)) T.d_is_fraction.m T.d_is_fraction.F.kp T.d_is_fraction.b (a_cons (e_v 4 rfl (.inl (by kernel_rfl))) a_nil)))) (a_cons (e_add (fr := false) (e_mul (fr := false) (e_lst (a_cons e_bl a_nil)) (e_len (gl_of (by kernel_rfl)) T.n_len (a_cons (e_v 2 rfl (.inl (by kernel_rfl))) a_nil))) (e_mul (fr := false) (e_lst (a_cons e_bl a_nil)) (e_len (gl_of (by kernel_rfl)) T.n_len (a_cons (e_v 3 rfl (.inl (by kernel_rfl))) a_nil)))) a_nil))))))))
/-! law -/
theorem sc_law : FnScope ["script", "cells", "k", "urn", "told", "one", "two", "some", "lap", "top", "below"] ["script"] (defScope (topS 30)) := ⟨rfl, rfl, rfl, by decide +kernel, rfl, by decide +kernel, by decide +kernel⟩
def b_law : MS := (sSeq (sAsg (mCall (ar 2 r__law_cells) (mCons (mVar 0) (mCons (mC (.int 3)) mNil))) (gNm 1)) (sSeq (sFor 100000 (iR1 (mCons (mCall gLen (mCons (mVar 1) mNil)) mNil)) (gNm 2) (sSeq (sAsg (mCall (ar 2 r__law_box) (mCons (mVar 1) (mCons (mVar 2) mNil))) (gNm 3)) (sSeq (sAsg (mLc 100000 false (iR1 (mCons (mBin (gAdd false) (mC (.int 2)) (mCall (ar 2 r__law_take) (mCons (mVar 3) (mCons (mC (.int 7)) mNil)))) mNil)) [8] (gNm 8) mYes (mCall (ar 1 r__law_drawn) (mCons (mVar 3) mNil))) (gNm 4)) (sSeq (sFor 100000 (iZq (mCons (mVar 4) (mCons (mSl false (mVar 4) (mPS (mC (.int 1))) mPN) mNil))) (gTp 2 (gC (gNm 5) (gC (gNm 6) gN0))) (sIf (mNotT (mT (mCall (ar 2 (afresh r__law_two_right)) (mCons (mVar 5) (mCons (mVar 6) mNil))))) sBad sNil)) (sSeq (sAsg (mSl false (mLc 100000 false (iLst (mVar 4)) [9, 10] (gTp 2 (gC (gNm 9) (gC (gNm 10) gN0))) mYes (mCall (ar 2 r__law_low) (mCons (mVar 9) (mCons (mVar 10) mNil)))) mPN (mPS (mCall (ar 2 r__law_take) (mCons (mVar 3) (mCons (mC (.int 9)) mNil))))) (gNm 7)) (sIf (mOrT (mNotT (mT (mCall (ar 1 r__law_many_right) (mCons (mVar 7) mNil)))) (mNotT (mT (mCall (ar 1 r__law_many_right) (mCons (mBin (gAdd false) (mVar 7) (mSl false (mVar 7) mPN (mPS (mC (.int 2))))) mNil))))) sBad sNil)))))) (sRet (mAnd (fun _ s => (afresh r__law_refused) [] s) (mAnd (mCall (ar 1 r__law_many_right) (mCons (mLst mNil) mNil)) (mCall (ar 2 (afresh r__law_two_right)) (mCons (mTup (mCons (mC (.int 3)) (mCons (mC (.int 6)) mNil))) (mCons (mTup (mCons (mC (.int 0)) (mCons (mUn gNeg (mC (.int 5))) mNil))) mNil))))))))
def r_law : GC := runB 10 b_law
theorem ok_law (T : Tx K mg base) : FOk P w K mg base 14 T.d_law.f T.d_law.fd ["script"] r_law := by
  refine fn_ok 10 T.d_law.F sc_law rfl fun cdv A outer s H E hr => ?_
  exact (s_cons (s_asg (e_call (ok__law_cells (P := P) (w := w) (base := base) T) (hr.mono (by first | decide | omega)) (takes_of rfl rfl rfl rfl) (gl_of (by kernel_rfl)) T.d__law_cells.m T.d__law_cells.F.kp T.d__law_cells.b (a_cons (e_v 0 rfl (.inl (by kernel_rfl))) (a_cons e_int a_nil))) (g_nm (i := 1) sc_law.nd rfl (.inl (by kernel_rfl)) (.inl rfl)) calm_nm) (s_cons (s_for 100000 (passes_of rfl) rfl (i_r1 (gl_of (by kernel_rfl)) T.n_range (a_cons (e_len (gl_of (by kernel_rfl)) T.n_len (a_cons (e_v 1 rfl (.inl (by kernel_rfl))) a_nil)) a_nil)) (g_nm (i := 2) sc_law.nd rfl (.inl (by kernel_rfl)) (.inl rfl)) (s_cons (s_asg (e_call (ok__law_box (P := P) (w := w) (base := base) T) (hr.mono (by first | decide | omega)) (takes_of rfl rfl rfl rfl) (gl_of (by kernel_rfl)) T.d__law_box.m T.d__law_box.F.kp T.d__law_box.b (a_cons (e_v 1 rfl (.inl (by kernel_rfl))) (a_cons (e_v 2 rfl (.inl (by kernel_rfl))) a_nil))) (g_nm (i := 3) sc_law.nd rfl (.inr (by kernel_rfl)) (.inl rfl)) calm_nm) (s_cons (s_lcv (i := 4) 100000 false [8] rfl sc_law.nd rfl rfl (sw_true rfl rfl rfl (by decide +kernel)) (blkOk_by (own := [("lap", 8)]) (N := ["script", "cells", "k", "urn", "told", "one", "two", "some", "lap", "top", "below"]) (sc := defScope (topS 30)) (by decide +kernel)) (by decide) (i_r1 (gl_of (by kernel_rfl)) T.n_range (a_cons (e_add (fr := false) e_int (e_call (ok__law_take (P := P) (w := w) (base := base) T) (hr.mono (by first | decide | omega)) (takes_of rfl rfl rfl rfl) (gl_of (by kernel_rfl)) T.d__law_take.m T.d__law_take.F.kp T.d__law_take.b (a_cons (e_v 3 rfl (.inr (.inl (by kernel_rfl)))) (a_cons e_int a_nil)))) a_nil)) (fun s H C cl fp => (g_nm (i := 8) sc_law.nd rfl (.inl (by kernel_rfl)) (.inr (by kernel_rfl)))) (fun s H C cl fp => ts_nil) (fun s H C cl fp => (e_call (ok__law_drawn (P := P) (w := w) (base := base) T) (hr.mono (by first | decide | omega)) takes0 (gl_of (by kernel_rfl)) T.d__law_drawn.m T.d__law_drawn.F.kp T.d__law_drawn.b (a_cons (e_v 3 rfl (.inr (.inl (by kernel_rfl)))) a_nil)))) (s_cons (s_for 100000 (passes_of rfl) rfl (i_zq (gl_of (by kernel_rfl)) T.n_zip (a_cons (e_v 4 rfl (.inl (by kernel_rfl))) (a_cons (e_sl (fr := false) (e_v 4 rfl (.inl (by kernel_rfl))) (p_some e_int) p_none) a_nil))) (g_tp (n := 2) rfl (g_c (g_nm (i := 5) sc_law.nd rfl (.inl (by kernel_rfl)) (.inl rfl)) (g_c (g_nm (i := 6) sc_law.nd rfl (.inl (by kernel_rfl)) (.inl rfl)) g_n0))) (s_one (s_if (t_not (t_val (e_call (fok_afresh (ok__law_two_right (P := P) (w := w) (base := base) T)) (hr.mono (by first | decide | omega)) (takes_of rfl rfl rfl rfl) (gl_of (by kernel_rfl)) T.d__law_two_right.m T.d__law_two_right.F.kp T.d__law_two_right.b (a_cons (e_v 5 rfl (.inl (by kernel_rfl))) (a_cons (e_v 6 rfl (.inl (by kernel_rfl))) a_nil))))) ss_bad s_nil))) (s_cons (s_asg (e_sl (fr := false) (e_lcv 100000 false [9, 10] rfl sc_law.nd (blkOk_by (own := [("top", 9), ("below", 10)]) (N := ["script", "cells", "k", "urn", "told", "one", "two", "some", "lap", "top", "below"]) (sc := defScope (topS 30)) (by decide +kernel)) (by decide) (i_lst (e_v 4 rfl (.inl (by kernel_rfl)))) (fun s H C cl fp => (g_tp (n := 2) rfl (g_c (g_nm (i := 9) sc_law.nd rfl (.inl (by kernel_rfl)) (.inr (by kernel_rfl))) (g_c (g_nm (i := 10) sc_law.nd rfl (.inl (by kernel_rfl)) (.inr (by kernel_rfl))) g_n0)))) (fun s H C cl fp => ts_nil) (fun s H C cl fp => (e_call (ok__law_low (P := P) (w := w) (base := base) T) (hr.mono (by first | decide | omega)) takes0 (gl_of (by kernel_rfl)) T.d__law_low.m T.d__law_low.F.kp T.d__law_low.b (a_cons (e_v 9 rfl (.inl (by kernel_rfl))) (a_cons (e_v 10 rfl (.inl (by kernel_rfl))) a_nil))))) p_none (p_some (e_call (ok__law_take (P := P) (w := w) (base := base) T) (hr.mono (by first | decide | omega)) (takes_of rfl rfl rfl rfl) (gl_of (by kernel_rfl)) T.d__law_take.m T.d__law_take.F.kp T.d__law_take.b (a_cons (e_v 3 rfl (.inr (.inl (by kernel_rfl)))) (a_cons e_int a_nil))))) (g_nm (i := 7) sc_law.nd rfl (.inl (by kernel_rfl)) (.inl rfl)) calm_nm) (s_one (s_if (MW.t (w_or (t_not (t_val (e_call (ok__law_many_right (P := P) (w := w) (base := base) T) (hr.mono (by first | decide | omega)) (takes_of rfl rfl rfl rfl) (gl_of (by kernel_rfl)) T.d__law_many_right.m T.d__law_many_right.F.kp T.d__law_many_right.b (a_cons (e_v 7 rfl (.inl (by kernel_rfl))) a_nil)))) (w_or1 (t_not (t_val (e_call (ok__law_many_right (P := P) (w := w) (base := base) T) (hr.mono (by first | decide | omega)) (takes_of rfl rfl rfl rfl) (gl_of (by kernel_rfl)) T.d__law_many_right.m T.d__law_many_right.F.kp T.d__law_many_right.b (a_cons (e_add (fr := false) (e_v 7 rfl (.inl (by kernel_rfl))) (e_sl (fr := false) (e_v 7 rfl (.inl (by kernel_rfl))) p_none (p_some e_int))) a_nil))))))) ss_bad s_nil))))))) (s_one (s_ret (e_and (e_call0 (fok_afresh (ok__law_refused (P := P) (w := w) (base := base) T)) (hr.mono (by first | decide | omega)) (takes_of rfl rfl rfl rfl) (gl_of (by kernel_rfl)) T.d__law_refused.m T.d__law_refused.F.kp T.d__law_refused.b) (e_and (e_call (ok__law_many_right (P := P) (w := w) (base := base) T) (hr.mono (by first | decide | omega)) (takes_of rfl rfl rfl rfl) (gl_of (by kernel_rfl)) T.d__law_many_right.m T.d__law_many_right.F.kp T.d__law_many_right.b (a_cons (e_lst a_nil) a_nil)) (e_one (e_call (fok_afresh (ok__law_two_right (P := P) (w := w) (base := base) T)) (hr.mono (by first | decide | omega)) (takes_of rfl rfl rfl rfl) (gl_of (by kernel_rfl)) T.d__law_two_right.m T.d__law_two_right.F.kp T.d__law_two_right.b (a_cons (e_tup (a_cons e_int (a_cons e_int a_nil))) (a_cons (e_tup (a_cons e_int (a_cons (e_neg e_int) a_nil))) a_nil))))))))))
end
theorem all_mk {P : Program} {w : World} {K : PySem.W.Frag} {h : Heap} {mg : Str → Option Value} {fa : Addr} (X : K.In h) (G : h.Ns mainGlobals mg) (hfa : mg "law" = some (.ref fa))
    {C_CanNot : Addr} {fI_CanNot : Addr} {ocXCanNot kVXCanNot dcXCanNot pmXCanNot cdXCanNot ctXCanNot : Value} {odXCanNot anXCanNot : Option Addr} {slXCanNot : Array (Option Value)} {f_is_number : Addr} {ocDis_number kVDis_number dcDis_number pmDis_number cdDis_number ctDis_number : Value} {odDis_number anDis_number : Option Addr} {slDis_number : Array (Option Value)} {f_is_row : Addr} {ocDis_row kVDis_row dcDis_row pmDis_row cdDis_row ctDis_row : Value} {odDis_row anDis_row : Option Addr} {slDis_row : Array (Option Value)} {f_fraction : Addr} {ocDfraction kVDfraction dcDfraction pmDfraction cdDfraction ctDfraction : Value} {odDfraction anDfraction : Option Addr} {slDfraction : Array (Option Value)} {f_is_fraction : Addr} {ocDis_fraction kVDis_fraction dcDis_fraction pmDis_fraction cdDis_fraction ctDis_fraction : Value} {odDis_fraction anDis_fraction : Option Addr} {slDis_fraction : Array (Option Value)} {f_plus : Addr} {ocDplus kVDplus dcDplus pmDplus cdDplus ctDplus : Value} {odDplus anDplus : Option Addr} {slDplus : Array (Option Value)} {f_minus : Addr} {ocDminus kVDminus dcDminus pmDminus cdDminus ctDminus : Value} {odDminus anDminus : Option Addr} {slDminus : Array (Option Value)} {f_times : Addr} {ocDtimes kVDtimes dcDtimes pmDtimes cdDtimes ctDtimes : Value} {odDtimes anDtimes : Option Addr} {slDtimes : Array (Option Value)} {f_over : Addr} {ocDover kVDover dcDover pmDover cdDover ctDover : Value} {odDover anDover : Option Addr} {slDover : Array (Option Value)} {f_less : Addr} {ocDless kVDless dcDless pmDless cdDless ctDless : Value} {odDless anDless : Option Addr} {slDless : Array (Option Value)} {f_least : Addr} {ocDleast kVDleast dcDleast pmDleast cdDleast ctDleast : Value} {odDleast anDleast : Option Addr} {slDleast : Array (Option Value)} {f_greatest : Addr} {ocDgreatest kVDgreatest dcDgreatest pmDgreatest cdDgreatest ctDgreatest : Value} {odDgreatest anDgreatest : Option Addr} {slDgreatest : Array (Option Value)} {f_whole : Addr} {ocDwhole kVDwhole dcDwhole pmDwhole cdDwhole ctDwhole : Value} {odDwhole anDwhole : Option Addr} {slDwhole : Array (Option Value)} {f_sum_of : Addr} {ocDsum_of kVDsum_of dcDsum_of pmDsum_of cdDsum_of ctDsum_of : Value} {odDsum_of anDsum_of : Option Addr} {slDsum_of : Array (Option Value)} {f__law_box : Addr} {ocD_law_box kVD_law_box dcD_law_box pmD_law_box cdD_law_box ctD_law_box : Value} {odD_law_box anD_law_box : Option Addr} {slD_law_box : Array (Option Value)} {f__law_take : Addr} {ocD_law_take kVD_law_take dcD_law_take pmD_law_take cdD_law_take ctD_law_take : Value} {odD_law_take anD_law_take : Option Addr} {slD_law_take : Array (Option Value)} {f__law_cells : Addr} {ocD_law_cells kVD_law_cells dcD_law_cells pmD_law_cells cdD_law_cells ctD_law_cells : Value} {odD_law_cells anD_law_cells : Option Addr} {slD_law_cells : Array (Option Value)} {f__law_lists : Addr} {ocD_law_lists kVD_law_lists dcD_law_lists pmD_law_lists cdD_law_lists ctD_law_lists : Value} {odD_law_lists anD_law_lists : Option Addr} {slD_law_lists : Array (Option Value)} {f__law_same : Addr} {ocD_law_same kVD_law_same dcD_law_same pmD_law_same cdD_law_same ctD_law_same : Value} {odD_law_same anD_law_same : Option Addr} {slD_law_same : Array (Option Value)} {f__law_low : Addr} {ocD_law_low kVD_law_low dcD_law_low pmD_law_low cdD_law_low ctD_law_low : Value} {odD_law_low anD_law_low : Option Addr} {slD_law_low : Array (Option Value)} {f__law_number : Addr} {ocD_law_number kVD_law_number dcD_law_number pmD_law_number cdD_law_number ctD_law_number : Value} {odD_law_number anD_law_number : Option Addr} {slD_law_number : Array (Option Value)} {f__law_drawn : Addr} {ocD_law_drawn kVD_law_drawn dcD_law_drawn pmD_law_drawn cdD_law_drawn ctD_law_drawn : Value} {odD_law_drawn anD_law_drawn : Option Addr} {slD_law_drawn : Array (Option Value)} {f__law_two_right : Addr} {ocD_law_two_right kVD_law_two_right dcD_law_two_right pmD_law_two_right cdD_law_two_right ctD_law_two_right : Value} {odD_law_two_right anD_law_two_right : Option Addr} {slD_law_two_right : Array (Option Value)} {f__law_many_right : Addr} {ocD_law_many_right kVD_law_many_right dcD_law_many_right pmD_law_many_right cdD_law_many_right ctD_law_many_right : Value} {odD_law_many_right anD_law_many_right : Option Addr} {slD_law_many_right : Array (Option Value)} {f__law_refused : Addr} {ocD_law_refused kVD_law_refused dcD_law_refused pmD_law_refused cdD_law_refused ctD_law_refused : Value} {odD_law_refused anD_law_refused : Option Addr} {slD_law_refused : Array (Option Value)} {f_law : Addr} {ocDlaw kVDlaw dcDlaw pmDlaw cdDlaw ctDlaw : Value} {odDlaw anDlaw : Option Addr} {slDlaw : Array (Option Value)}
    (a_CanNot : PySem.W.nsIn K mainGlobals "CanNot" = some (some (.ref C_CanNot)))
    (b_CanNot : PySem.W.findIn K (.ref C_CanNot) "__init__" = some (some (.ref fI_CanNot)))
    (lXCanNot : K.lookup fI_CanNot = some ⟨ocXCanNot, odXCanNot, .func (PySem.W.fnOf "__init__" "CanNot.__init__" (defArgs (inClass (topS 2) 0)) (defBody (inClass (topS 2) 0)) (defScope (inClass (topS 2) 0)) .none kVXCanNot dcXCanNot pmXCanNot anXCanNot cdXCanNot ctXCanNot), slXCanNot⟩)
    (ccXCanNot : PySem.W.codeIn K cdXCanNot "CanNot.__init__" = true)
    (kkXCanNot : PySem.W.keepIn K (.ref fI_CanNot) = true)
    (c_CanNot : PySem.W.typeIn K (.ref fI_CanNot) = some (.type "function"))
    (d_CanNot : PySem.W.excInitIn K C_CanNot veL "ValueError.__new__" = true)
    (e_CanNot : PySem.W.excOver K C_CanNot veL = true)
    (sa_CanNot : PySem.W.findIn K (.ref C_CanNot) "__setattr__" = some (some (.builtin "object.__setattr__")))
    (ke_CanNot : PySem.W.keepIn K (.ref C_CanNot) = true)
    (hd_CanNot : PySem.W.hasDictIn K C_CanNot = true)
    (ga_CanNot : PySem.W.findIn K (.ref C_CanNot) "__getattribute__" = some (some (.builtin "BaseException.__getattribute__")))
    (gg_CanNot : PySem.W.findIn K (.ref C_CanNot) "__getattr__" = some none)
    (sx_CanNot : PySem.W.subIn K (.ref C_CanNot) (.type "BaseException") = some true)
    (cl_CanNot : PySem.W.findIn K (.ref C_CanNot) "__class__" = some (some (.builtin "object.__class__")))
    (ob_CanNot : PySem.W.mroIn K C_CanNot (.type "object") = some true)
    (ty_CanNot : PySem.W.typeIn K (.ref C_CanNot) = some (.type "type"))
    (v_ValueError : PySem.W.findCls K (.type "ValueError") (.type "type") "__init__" = some (.val (.builtin "ValueError.__init__")))
    (o1 : PySem.W.specialIn K (.builtin "object.__class__") "__get__" = some (some (.builtin "getset_descriptor.__get__")))
    (o2 : PySem.W.takesIn K (.builtin "object.__class__") = some true)
    (nDis_number : PySem.W.nsIn K mainGlobals "is_number" = some (some (.ref f_is_number)))
    (lDis_number : K.lookup f_is_number = some ⟨ocDis_number, odDis_number, .func (PySem.W.fnOf "is_number" "is_number" (defArgs (topS 4)) (defBody (topS 4)) (defScope (topS 4)) .none kVDis_number dcDis_number pmDis_number anDis_number cdDis_number ctDis_number), slDis_number⟩)
    (ccDis_number : PySem.W.codeIn K cdDis_number "is_number" = true)
    (kkDis_number : PySem.W.keepIn K (.ref f_is_number) = true)
    (nDis_row : PySem.W.nsIn K mainGlobals "is_row" = some (some (.ref f_is_row)))
    (lDis_row : K.lookup f_is_row = some ⟨ocDis_row, odDis_row, .func (PySem.W.fnOf "is_row" "is_row" (defArgs (topS 5)) (defBody (topS 5)) (defScope (topS 5)) .none kVDis_row dcDis_row pmDis_row anDis_row cdDis_row ctDis_row), slDis_row⟩)
    (ccDis_row : PySem.W.codeIn K cdDis_row "is_row" = true)
    (kkDis_row : PySem.W.keepIn K (.ref f_is_row) = true)
    (nDfraction : PySem.W.nsIn K mainGlobals "fraction" = some (some (.ref f_fraction)))
    (lDfraction : K.lookup f_fraction = some ⟨ocDfraction, odDfraction, .func (PySem.W.fnOf "fraction" "fraction" (defArgs (topS 7)) (defBody (topS 7)) (defScope (topS 7)) .none kVDfraction dcDfraction pmDfraction anDfraction cdDfraction ctDfraction), slDfraction⟩)
    (ccDfraction : PySem.W.codeIn K cdDfraction "fraction" = true)
    (kkDfraction : PySem.W.keepIn K (.ref f_fraction) = true)
    (nDis_fraction : PySem.W.nsIn K mainGlobals "is_fraction" = some (some (.ref f_is_fraction)))
    (lDis_fraction : K.lookup f_is_fraction = some ⟨ocDis_fraction, odDis_fraction, .func (PySem.W.fnOf "is_fraction" "is_fraction" (defArgs (topS 8)) (defBody (topS 8)) (defScope (topS 8)) .none kVDis_fraction dcDis_fraction pmDis_fraction anDis_fraction cdDis_fraction ctDis_fraction), slDis_fraction⟩)
    (ccDis_fraction : PySem.W.codeIn K cdDis_fraction "is_fraction" = true)
    (kkDis_fraction : PySem.W.keepIn K (.ref f_is_fraction) = true)
    (nDplus : PySem.W.nsIn K mainGlobals "plus" = some (some (.ref f_plus)))
    (lDplus : K.lookup f_plus = some ⟨ocDplus, odDplus, .func (PySem.W.fnOf "plus" "plus" (defArgs (topS 9)) (defBody (topS 9)) (defScope (topS 9)) .none kVDplus dcDplus pmDplus anDplus cdDplus ctDplus), slDplus⟩)
    (ccDplus : PySem.W.codeIn K cdDplus "plus" = true)
    (kkDplus : PySem.W.keepIn K (.ref f_plus) = true)
    (nDminus : PySem.W.nsIn K mainGlobals "minus" = some (some (.ref f_minus)))
    (lDminus : K.lookup f_minus = some ⟨ocDminus, odDminus, .func (PySem.W.fnOf "minus" "minus" (defArgs (topS 10)) (defBody (topS 10)) (defScope (topS 10)) .none kVDminus dcDminus pmDminus anDminus cdDminus ctDminus), slDminus⟩)
    (ccDminus : PySem.W.codeIn K cdDminus "minus" = true)
    (kkDminus : PySem.W.keepIn K (.ref f_minus) = true)
    (nDtimes : PySem.W.nsIn K mainGlobals "times" = some (some (.ref f_times)))
    (lDtimes : K.lookup f_times = some ⟨ocDtimes, odDtimes, .func (PySem.W.fnOf "times" "times" (defArgs (topS 11)) (defBody (topS 11)) (defScope (topS 11)) .none kVDtimes dcDtimes pmDtimes anDtimes cdDtimes ctDtimes), slDtimes⟩)
    (ccDtimes : PySem.W.codeIn K cdDtimes "times" = true)
    (kkDtimes : PySem.W.keepIn K (.ref f_times) = true)
    (nDover : PySem.W.nsIn K mainGlobals "over" = some (some (.ref f_over)))
    (lDover : K.lookup f_over = some ⟨ocDover, odDover, .func (PySem.W.fnOf "over" "over" (defArgs (topS 12)) (defBody (topS 12)) (defScope (topS 12)) .none kVDover dcDover pmDover anDover cdDover ctDover), slDover⟩)
    (ccDover : PySem.W.codeIn K cdDover "over" = true)
    (kkDover : PySem.W.keepIn K (.ref f_over) = true)
    (nDless : PySem.W.nsIn K mainGlobals "less" = some (some (.ref f_less)))
    (lDless : K.lookup f_less = some ⟨ocDless, odDless, .func (PySem.W.fnOf "less" "less" (defArgs (topS 13)) (defBody (topS 13)) (defScope (topS 13)) .none kVDless dcDless pmDless anDless cdDless ctDless), slDless⟩)
    (ccDless : PySem.W.codeIn K cdDless "less" = true)
    (kkDless : PySem.W.keepIn K (.ref f_less) = true)
    (nDleast : PySem.W.nsIn K mainGlobals "least" = some (some (.ref f_least)))
    (lDleast : K.lookup f_least = some ⟨ocDleast, odDleast, .func (PySem.W.fnOf "least" "least" (defArgs (topS 14)) (defBody (topS 14)) (defScope (topS 14)) .none kVDleast dcDleast pmDleast anDleast cdDleast ctDleast), slDleast⟩)
    (ccDleast : PySem.W.codeIn K cdDleast "least" = true)
    (kkDleast : PySem.W.keepIn K (.ref f_least) = true)
    (nDgreatest : PySem.W.nsIn K mainGlobals "greatest" = some (some (.ref f_greatest)))
    (lDgreatest : K.lookup f_greatest = some ⟨ocDgreatest, odDgreatest, .func (PySem.W.fnOf "greatest" "greatest" (defArgs (topS 15)) (defBody (topS 15)) (defScope (topS 15)) .none kVDgreatest dcDgreatest pmDgreatest anDgreatest cdDgreatest ctDgreatest), slDgreatest⟩)
    (ccDgreatest : PySem.W.codeIn K cdDgreatest "greatest" = true)
    (kkDgreatest : PySem.W.keepIn K (.ref f_greatest) = true)
    (nDwhole : PySem.W.nsIn K mainGlobals "whole" = some (some (.ref f_whole)))
    (lDwhole : K.lookup f_whole = some ⟨ocDwhole, odDwhole, .func (PySem.W.fnOf "whole" "whole" (defArgs (topS 17)) (defBody (topS 17)) (defScope (topS 17)) .none kVDwhole dcDwhole pmDwhole anDwhole cdDwhole ctDwhole), slDwhole⟩)
    (ccDwhole : PySem.W.codeIn K cdDwhole "whole" = true)
    (kkDwhole : PySem.W.keepIn K (.ref f_whole) = true)
    (nDsum_of : PySem.W.nsIn K mainGlobals "sum_of" = some (some (.ref f_sum_of)))
    (lDsum_of : K.lookup f_sum_of = some ⟨ocDsum_of, odDsum_of, .func (PySem.W.fnOf "sum_of" "sum_of" (defArgs (topS 16)) (defBody (topS 16)) (defScope (topS 16)) .none kVDsum_of dcDsum_of pmDsum_of anDsum_of cdDsum_of ctDsum_of), slDsum_of⟩)
    (ccDsum_of : PySem.W.codeIn K cdDsum_of "sum_of" = true)
    (kkDsum_of : PySem.W.keepIn K (.ref f_sum_of) = true)
    (nD_law_box : PySem.W.nsIn K mainGlobals "_law_box" = some (some (.ref f__law_box)))
    (lD_law_box : K.lookup f__law_box = some ⟨ocD_law_box, odD_law_box, .func (PySem.W.fnOf "_law_box" "_law_box" (defArgs (topS 19)) (defBody (topS 19)) (defScope (topS 19)) .none kVD_law_box dcD_law_box pmD_law_box anD_law_box cdD_law_box ctD_law_box), slD_law_box⟩)
    (ccD_law_box : PySem.W.codeIn K cdD_law_box "_law_box" = true)
    (kkD_law_box : PySem.W.keepIn K (.ref f__law_box) = true)
    (nD_law_take : PySem.W.nsIn K mainGlobals "_law_take" = some (some (.ref f__law_take)))
    (lD_law_take : K.lookup f__law_take = some ⟨ocD_law_take, odD_law_take, .func (PySem.W.fnOf "_law_take" "_law_take" (defArgs (topS 20)) (defBody (topS 20)) (defScope (topS 20)) .none kVD_law_take dcD_law_take pmD_law_take anD_law_take cdD_law_take ctD_law_take), slD_law_take⟩)
    (ccD_law_take : PySem.W.codeIn K cdD_law_take "_law_take" = true)
    (kkD_law_take : PySem.W.keepIn K (.ref f__law_take) = true)
    (nD_law_cells : PySem.W.nsIn K mainGlobals "_law_cells" = some (some (.ref f__law_cells)))
    (lD_law_cells : K.lookup f__law_cells = some ⟨ocD_law_cells, odD_law_cells, .func (PySem.W.fnOf "_law_cells" "_law_cells" (defArgs (topS 21)) (defBody (topS 21)) (defScope (topS 21)) .none kVD_law_cells dcD_law_cells pmD_law_cells anD_law_cells cdD_law_cells ctD_law_cells), slD_law_cells⟩)
    (ccD_law_cells : PySem.W.codeIn K cdD_law_cells "_law_cells" = true)
    (kkD_law_cells : PySem.W.keepIn K (.ref f__law_cells) = true)
    (nD_law_lists : PySem.W.nsIn K mainGlobals "_law_lists" = some (some (.ref f__law_lists)))
    (lD_law_lists : K.lookup f__law_lists = some ⟨ocD_law_lists, odD_law_lists, .func (PySem.W.fnOf "_law_lists" "_law_lists" (defArgs (topS 22)) (defBody (topS 22)) (defScope (topS 22)) .none kVD_law_lists dcD_law_lists pmD_law_lists anD_law_lists cdD_law_lists ctD_law_lists), slD_law_lists⟩)
    (ccD_law_lists : PySem.W.codeIn K cdD_law_lists "_law_lists" = true)
    (kkD_law_lists : PySem.W.keepIn K (.ref f__law_lists) = true)
    (nD_law_same : PySem.W.nsIn K mainGlobals "_law_same" = some (some (.ref f__law_same)))
    (lD_law_same : K.lookup f__law_same = some ⟨ocD_law_same, odD_law_same, .func (PySem.W.fnOf "_law_same" "_law_same" (defArgs (topS 23)) (defBody (topS 23)) (defScope (topS 23)) .none kVD_law_same dcD_law_same pmD_law_same anD_law_same cdD_law_same ctD_law_same), slD_law_same⟩)
    (ccD_law_same : PySem.W.codeIn K cdD_law_same "_law_same" = true)
    (kkD_law_same : PySem.W.keepIn K (.ref f__law_same) = true)
    (nD_law_low : PySem.W.nsIn K mainGlobals "_law_low" = some (some (.ref f__law_low)))
    (lD_law_low : K.lookup f__law_low = some ⟨ocD_law_low, odD_law_low, .func (PySem.W.fnOf "_law_low" "_law_low" (defArgs (topS 24)) (defBody (topS 24)) (defScope (topS 24)) .none kVD_law_low dcD_law_low pmD_law_low anD_law_low cdD_law_low ctD_law_low), slD_law_low⟩)
    (ccD_law_low : PySem.W.codeIn K cdD_law_low "_law_low" = true)
    (kkD_law_low : PySem.W.keepIn K (.ref f__law_low) = true)
    (nD_law_number : PySem.W.nsIn K mainGlobals "_law_number" = some (some (.ref f__law_number)))
    (lD_law_number : K.lookup f__law_number = some ⟨ocD_law_number, odD_law_number, .func (PySem.W.fnOf "_law_number" "_law_number" (defArgs (topS 25)) (defBody (topS 25)) (defScope (topS 25)) .none kVD_law_number dcD_law_number pmD_law_number anD_law_number cdD_law_number ctD_law_number), slD_law_number⟩)
    (ccD_law_number : PySem.W.codeIn K cdD_law_number "_law_number" = true)
    (kkD_law_number : PySem.W.keepIn K (.ref f__law_number) = true)
    (nD_law_drawn : PySem.W.nsIn K mainGlobals "_law_drawn" = some (some (.ref f__law_drawn)))
    (lD_law_drawn : K.lookup f__law_drawn = some ⟨ocD_law_drawn, odD_law_drawn, .func (PySem.W.fnOf "_law_drawn" "_law_drawn" (defArgs (topS 26)) (defBody (topS 26)) (defScope (topS 26)) .none kVD_law_drawn dcD_law_drawn pmD_law_drawn anD_law_drawn cdD_law_drawn ctD_law_drawn), slD_law_drawn⟩)
    (ccD_law_drawn : PySem.W.codeIn K cdD_law_drawn "_law_drawn" = true)
    (kkD_law_drawn : PySem.W.keepIn K (.ref f__law_drawn) = true)
    (nD_law_two_right : PySem.W.nsIn K mainGlobals "_law_two_right" = some (some (.ref f__law_two_right)))
    (lD_law_two_right : K.lookup f__law_two_right = some ⟨ocD_law_two_right, odD_law_two_right, .func (PySem.W.fnOf "_law_two_right" "_law_two_right" (defArgs (topS 27)) (defBody (topS 27)) (defScope (topS 27)) .none kVD_law_two_right dcD_law_two_right pmD_law_two_right anD_law_two_right cdD_law_two_right ctD_law_two_right), slD_law_two_right⟩)
    (ccD_law_two_right : PySem.W.codeIn K cdD_law_two_right "_law_two_right" = true)
    (kkD_law_two_right : PySem.W.keepIn K (.ref f__law_two_right) = true)
    (nD_law_many_right : PySem.W.nsIn K mainGlobals "_law_many_right" = some (some (.ref f__law_many_right)))
    (lD_law_many_right : K.lookup f__law_many_right = some ⟨ocD_law_many_right, odD_law_many_right, .func (PySem.W.fnOf "_law_many_right" "_law_many_right" (defArgs (topS 28)) (defBody (topS 28)) (defScope (topS 28)) .none kVD_law_many_right dcD_law_many_right pmD_law_many_right anD_law_many_right cdD_law_many_right ctD_law_many_right), slD_law_many_right⟩)
    (ccD_law_many_right : PySem.W.codeIn K cdD_law_many_right "_law_many_right" = true)
    (kkD_law_many_right : PySem.W.keepIn K (.ref f__law_many_right) = true)
    (nD_law_refused : PySem.W.nsIn K mainGlobals "_law_refused" = some (some (.ref f__law_refused)))
    (lD_law_refused : K.lookup f__law_refused = some ⟨ocD_law_refused, odD_law_refused, .func (PySem.W.fnOf "_law_refused" "_law_refused" (defArgs (topS 29)) (defBody (topS 29)) (defScope (topS 29)) .none kVD_law_refused dcD_law_refused pmD_law_refused anD_law_refused cdD_law_refused ctD_law_refused), slD_law_refused⟩)
    (ccD_law_refused : PySem.W.codeIn K cdD_law_refused "_law_refused" = true)
    (kkD_law_refused : PySem.W.keepIn K (.ref f__law_refused) = true)
    (nDlaw : PySem.W.nsIn K mainGlobals "law" = some (some (.ref f_law)))
    (lDlaw : K.lookup f_law = some ⟨ocDlaw, odDlaw, .func (PySem.W.fnOf "law" "law" (defArgs (topS 30)) (defBody (topS 30)) (defScope (topS 30)) .none kVDlaw dcDlaw pmDlaw anDlaw cdDlaw ctDlaw), slDlaw⟩)
    (ccDlaw : PySem.W.codeIn K cdDlaw "law" = true)
    (kkDlaw : PySem.W.keepIn K (.ref f_law) = true)
    (q1ValueError_CanNot : PySem.W.kitOne K (.ref C_CanNot) (.type "ValueError") = some true)
    (q3CanNot_CanNot : PySem.W.subIn K (.ref C_CanNot) (.ref C_CanNot) = some true)
    (n_ValueError : PySem.W.nsIn K mainGlobals "ValueError" = some none)
    (n_abs : PySem.W.nsIn K mainGlobals "abs" = some none)
    (n_all : PySem.W.nsIn K mainGlobals "all" = some none)
    (n_bool : PySem.W.nsIn K mainGlobals "bool" = some none)
    (n_enumerate : PySem.W.nsIn K mainGlobals "enumerate" = some none)
    (n_int : PySem.W.nsIn K mainGlobals "int" = some none)
    (n_isinstance : PySem.W.nsIn K mainGlobals "isinstance" = some none)
    (n_len : PySem.W.nsIn K mainGlobals "len" = some none)
    (n_list : PySem.W.nsIn K mainGlobals "list" = some none)
    (n_max : PySem.W.nsIn K mainGlobals "max" = some none)
    (n_min : PySem.W.nsIn K mainGlobals "min" = some none)
    (n_range : PySem.W.nsIn K mainGlobals "range" = some none)
    (n_str : PySem.W.nsIn K mainGlobals "str" = some none)
    (n_sum : PySem.W.nsIn K mainGlobals "sum" = some none)
    (n_tuple : PySem.W.nsIn K mainGlobals "tuple" = some none)
    (n_zip : PySem.W.nsIn K mainGlobals "zip" = some none)
    (m_gcd : PySem.W.nsIn K mainGlobals "gcd" = some (some (.builtin "math.gcd")))
    (m_lcm : PySem.W.nsIn K mainGlobals "lcm" = some (some (.builtin "math.lcm")))
    (na_is_tuple_of : PySem.W.nsIn K mainGlobals "is_tuple_of" = some none)
    (na_goes_up : PySem.W.nsIn K mainGlobals "goes_up" = some none)
    (na__path : PySem.W.nsIn K mainGlobals "_path" = some none)
    (na_is_answer : PySem.W.nsIn K mainGlobals "is_answer" = some none)
    (na_edges : PySem.W.nsIn K mainGlobals "edges" = some none) :
    ∃ fd : FuncData, (∀ (s : Shared) (v : Value), BindsTo s fd ⟨[v], []⟩ [("script", v)]) ∧ (∀ x ∈ gdefs, x ∈ ([] : List Str) ∨ PySem.W.tabIn K x = none) ∧ ∀ base : Heap, K.In base → base.Ns mainGlobals mg → (∀ p ∈ tabsOf K [], GxR.TabB base mg p.1 p.2) → FnOk P w K mg base (L2.CX P w) 14 fa fd ["script"] (spF K 1 r_law) := by
  have e := hfa.symm.trans (PySem.W.mg_of X G nDlaw)
  cases e
  have A_CanNot : OxA K C_CanNot := ⟨hd_CanNot, ga_CanNot, gg_CanNot, sx_CanNot, cl_CanNot, ob_CanNot, ty_CanNot⟩
  have F_CanNot := fun_mk (st := (inClass (topS 2) 0)) lXCanNot ccXCanNot kkXCanNot
  have F_is_number := fun_mk (st := topS 4) lDis_number ccDis_number kkDis_number
  have F_is_row := fun_mk (st := topS 5) lDis_row ccDis_row kkDis_row
  have F_fraction := fun_mk (st := topS 7) lDfraction ccDfraction kkDfraction
  have F_is_fraction := fun_mk (st := topS 8) lDis_fraction ccDis_fraction kkDis_fraction
  have F_plus := fun_mk (st := topS 9) lDplus ccDplus kkDplus
  have F_minus := fun_mk (st := topS 10) lDminus ccDminus kkDminus
  have F_times := fun_mk (st := topS 11) lDtimes ccDtimes kkDtimes
  have F_over := fun_mk (st := topS 12) lDover ccDover kkDover
  have F_less := fun_mk (st := topS 13) lDless ccDless kkDless
  have F_least := fun_mk (st := topS 14) lDleast ccDleast kkDleast
  have F_greatest := fun_mk (st := topS 15) lDgreatest ccDgreatest kkDgreatest
  have F_whole := fun_mk (st := topS 17) lDwhole ccDwhole kkDwhole
  have F_sum_of := fun_mk (st := topS 16) lDsum_of ccDsum_of kkDsum_of
  have F__law_box := fun_mk (st := topS 19) lD_law_box ccD_law_box kkD_law_box
  have F__law_take := fun_mk (st := topS 20) lD_law_take ccD_law_take kkD_law_take
  have F__law_cells := fun_mk (st := topS 21) lD_law_cells ccD_law_cells kkD_law_cells
  have F__law_lists := fun_mk (st := topS 22) lD_law_lists ccD_law_lists kkD_law_lists
  have F__law_same := fun_mk (st := topS 23) lD_law_same ccD_law_same kkD_law_same
  have F__law_low := fun_mk (st := topS 24) lD_law_low ccD_law_low kkD_law_low
  have F__law_number := fun_mk (st := topS 25) lD_law_number ccD_law_number kkD_law_number
  have F__law_drawn := fun_mk (st := topS 26) lD_law_drawn ccD_law_drawn kkD_law_drawn
  have F__law_two_right := fun_mk (st := topS 27) lD_law_two_right ccD_law_two_right kkD_law_two_right
  have F__law_many_right := fun_mk (st := topS 28) lD_law_many_right ccD_law_many_right kkD_law_many_right
  have F__law_refused := fun_mk (st := topS 29) lD_law_refused ccD_law_refused kkD_law_refused
  have F_law := fun_mk (st := topS 30) lDlaw ccDlaw kkDlaw
  refine ⟨PySem.W.fnOf "law" "law" (defArgs (topS 30)) (defBody (topS 30)) (defScope (topS 30)) .none kVDlaw dcDlaw pmDlaw anDlaw cdDlaw ctDlaw, fun s v => .of_eq rfl, fun x hx => ?_, fun base _ _ TB => ?_⟩
  · simp only [gdefs, List.mem_cons, List.not_mem_nil, or_false] at hx
    rcases hx with rfl | rfl | rfl | rfl | rfl
    · exact .inr (tabIn_no na_is_tuple_of)
    · exact .inr (tabIn_no na_goes_up)
    · exact .inr (tabIn_no na__path)
    · exact .inr (tabIn_no na_is_answer)
    · exact .inr (tabIn_no na_edges)
  have T : Σ' T : Tx K mg base, T.d_law.f = fa ∧ T.d_law.fd = PySem.W.fnOf "law" "law" (defArgs (topS 30)) (defBody (topS 30)) (defScope (topS 30)) .none kVDlaw dcDlaw pmDlaw anDlaw cdDlaw ctDlaw := ⟨{
    d_is_number := ⟨f_is_number, _, F_is_number, PySem.W.mg_of X G nDis_number, F_is_number.binds (ps := ["thing"]) fun _ _ _ _ _ _ us hl => match us, hl with | [_], _ => rfl⟩
    d_is_row := ⟨f_is_row, _, F_is_row, PySem.W.mg_of X G nDis_row, F_is_row.binds (ps := ["many", "thing"]) fun _ _ _ _ _ _ us hl => match us, hl with | [_, _], _ => rfl⟩
    d_fraction := ⟨f_fraction, _, F_fraction, PySem.W.mg_of X G nDfraction, F_fraction.binds (ps := ["top", "below"]) fun _ _ _ _ _ _ us hl => match us, hl with | [_, _], _ => rfl⟩
    d_is_fraction := ⟨f_is_fraction, _, F_is_fraction, PySem.W.mg_of X G nDis_fraction, F_is_fraction.binds (ps := ["thing"]) fun _ _ _ _ _ _ us hl => match us, hl with | [_], _ => rfl⟩
    d_plus := ⟨f_plus, _, F_plus, PySem.W.mg_of X G nDplus, F_plus.binds (ps := ["x", "y"]) fun _ _ _ _ _ _ us hl => match us, hl with | [_, _], _ => rfl⟩
    d_minus := ⟨f_minus, _, F_minus, PySem.W.mg_of X G nDminus, F_minus.binds (ps := ["x", "y"]) fun _ _ _ _ _ _ us hl => match us, hl with | [_, _], _ => rfl⟩
    d_times := ⟨f_times, _, F_times, PySem.W.mg_of X G nDtimes, F_times.binds (ps := ["x", "y"]) fun _ _ _ _ _ _ us hl => match us, hl with | [_, _], _ => rfl⟩
    d_over := ⟨f_over, _, F_over, PySem.W.mg_of X G nDover, F_over.binds (ps := ["x", "y"]) fun _ _ _ _ _ _ us hl => match us, hl with | [_, _], _ => rfl⟩
    d_less := ⟨f_less, _, F_less, PySem.W.mg_of X G nDless, F_less.binds (ps := ["x", "y"]) fun _ _ _ _ _ _ us hl => match us, hl with | [_, _], _ => rfl⟩
    d_least := ⟨f_least, _, F_least, PySem.W.mg_of X G nDleast, F_least.binds (ps := ["some"]) fun _ _ _ _ _ _ us hl => match us, hl with | [_], _ => rfl⟩
    d_greatest := ⟨f_greatest, _, F_greatest, PySem.W.mg_of X G nDgreatest, F_greatest.binds (ps := ["some"]) fun _ _ _ _ _ _ us hl => match us, hl with | [_], _ => rfl⟩
    d_whole := ⟨f_whole, _, F_whole, PySem.W.mg_of X G nDwhole, F_whole.binds (ps := ["some"]) fun _ _ _ _ _ _ us hl => match us, hl with | [_], _ => rfl⟩
    d_sum_of := ⟨f_sum_of, _, F_sum_of, PySem.W.mg_of X G nDsum_of, F_sum_of.binds (ps := ["some"]) fun _ _ _ _ _ _ us hl => match us, hl with | [_], _ => rfl⟩
    d__law_box := ⟨f__law_box, _, F__law_box, PySem.W.mg_of X G nD_law_box, F__law_box.binds (ps := ["script", "k"]) fun _ _ _ _ _ _ us hl => match us, hl with | [_, _], _ => rfl⟩
    d__law_take := ⟨f__law_take, _, F__law_take, PySem.W.mg_of X G nD_law_take, F__law_take.binds (ps := ["urn", "below"]) fun _ _ _ _ _ _ us hl => match us, hl with | [_, _], _ => rfl⟩
    d__law_cells := ⟨f__law_cells, _, F__law_cells, PySem.W.mg_of X G nD_law_cells, F__law_cells.binds (ps := ["script", "many"]) fun _ _ _ _ _ _ us hl => match us, hl with | [_, _], _ => rfl⟩
    d__law_lists := ⟨f__law_lists, _, F__law_lists, PySem.W.mg_of X G nD_law_lists, F__law_lists.binds (ps := ["matter"]) fun _ _ _ _ _ _ us hl => match us, hl with | [_], _ => rfl⟩
    d__law_same := ⟨f__law_same, _, F__law_same, PySem.W.mg_of X G nD_law_same, F__law_same.binds (ps := ["got", "due"]) fun _ _ _ _ _ _ us hl => match us, hl with | [_, _], _ => rfl⟩
    d__law_low := ⟨f__law_low, _, F__law_low, PySem.W.mg_of X G nD_law_low, F__law_low.binds (ps := ["top", "below"]) fun _ _ _ _ _ _ us hl => match us, hl with | [_, _], _ => rfl⟩
    d__law_number := ⟨f__law_number, _, F__law_number, PySem.W.mg_of X G nD_law_number, F__law_number.binds (ps := ["urn"]) fun _ _ _ _ _ _ us hl => match us, hl with | [_], _ => rfl⟩
    d__law_drawn := ⟨f__law_drawn, _, F__law_drawn, PySem.W.mg_of X G nD_law_drawn, F__law_drawn.binds (ps := ["urn"]) fun _ _ _ _ _ _ us hl => match us, hl with | [_], _ => rfl⟩
    d__law_two_right := ⟨f__law_two_right, _, F__law_two_right, PySem.W.mg_of X G nD_law_two_right, F__law_two_right.binds (ps := ["one", "two"]) fun _ _ _ _ _ _ us hl => match us, hl with | [_, _], _ => rfl⟩
    d__law_many_right := ⟨f__law_many_right, _, F__law_many_right, PySem.W.mg_of X G nD_law_many_right, F__law_many_right.binds (ps := ["some"]) fun _ _ _ _ _ _ us hl => match us, hl with | [_], _ => rfl⟩
    d__law_refused := ⟨f__law_refused, _, F__law_refused, PySem.W.mg_of X G nD_law_refused, F__law_refused.binds (ps := []) fun _ _ _ _ _ _ us hl => match us, hl with | [], _ => rfl⟩
    d_law := ⟨fa, _, F_law, PySem.W.mg_of X G nDlaw, F_law.binds (ps := ["script"]) fun _ _ _ _ _ _ us hl => match us, hl with | [_], _ => rfl⟩
    c_CanNot := ⟨C_CanNot, fI_CanNot, _, PySem.W.mg_of X G a_CanNot, a_CanNot, ⟨d_CanNot, e_CanNot, sa_CanNot, ke_CanNot, A_CanNot⟩, b_CanNot, c_CanNot, F_CanNot, F_CanNot.binds (ps := ["self"]) fun _ _ _ _ _ _ us hl => match us, hl with | [_], _ => rfl⟩
    v_ValueError := v_ValueError
    ox := ⟨o1, o2⟩
    i_ValueError := (tab_one [("CanNot", true)] (by refine .cons a_CanNot A_CanNot q1ValueError_CanNot ?_; exact .nil))
    h_CanNot := tab_xm [("CanNot", true)] (by refine .cons a_CanNot (exm_own A_CanNot q3CanNot_CanNot) ?_; exact .nil)
    w_minus := fun _ ws hl => match ws, hl with | [_, _], _ => .of_eq rfl
    w_fraction := fun _ ws hl => match ws, hl with | [_, _], _ => .of_eq rfl
    w_over := fun _ ws hl => match ws, hl with | [_, _], _ => .of_eq rfl
    w_greatest := fun _ ws hl => match ws, hl with | [_], _ => .of_eq rfl
    n_ValueError := PySem.W.mg_none_of X G n_ValueError
    n_abs := PySem.W.mg_none_of X G n_abs
    n_all := PySem.W.mg_none_of X G n_all
    n_bool := PySem.W.mg_none_of X G n_bool
    n_enumerate := PySem.W.mg_none_of X G n_enumerate
    n_int := PySem.W.mg_none_of X G n_int
    n_isinstance := PySem.W.mg_none_of X G n_isinstance
    n_len := PySem.W.mg_none_of X G n_len
    n_list := PySem.W.mg_none_of X G n_list
    n_max := PySem.W.mg_none_of X G n_max
    n_min := PySem.W.mg_none_of X G n_min
    n_range := PySem.W.mg_none_of X G n_range
    n_str := PySem.W.mg_none_of X G n_str
    n_sum := PySem.W.mg_none_of X G n_sum
    n_tuple := PySem.W.mg_none_of X G n_tuple
    n_zip := PySem.W.mg_none_of X G n_zip
    m_gcd := PySem.W.mg_of X G m_gcd
    m_lcm := PySem.W.mg_of X G m_lcm }, rfl, rfl⟩
  obtain ⟨T, t1, t2⟩ := T
  exact t1 ▸ t2 ▸ ok_law (P := P) (w := w) (base := base) T
def isT : R PV → Bool
  | .ok (.bl true) _ => true
  | _ => false

/-! ### the while of _law_low is Euclid -/
def euT : MT := mT (mBin gNe (mVar 3) (mC (.int 0)))
def euB : MS := sPar 2 3 (mCons (mVar 3) (mCons (mBin gMod (mVar 2) (mVar 3)) mNil))
theorem eu_stop (x0 x1 o : Option PV) (a : Nat) (n : Nat) (s : Sto) : whL euT euB (n + 1) [x0, x1, some (.int a), some (.int (0 : Nat)), o] s = .nx [x0, x1, some (.int a), some (.int (0 : Nat)), o] s := by
  simp [nthR_eq, setR_eq, atC_eq, whL, euT, mT, mBin, mVar, mC, gNe, R.bind, R.fl, vB]
theorem eu_step (x0 x1 o : Option PV) (a b : Nat) (n : Nat) (s : Sto) (hb : b ≠ 0) : whL euT euB (n + 1) [x0, x1, some (.int a), some (.int b), o] s = whL euT euB n [x0, x1, some (.int b), some (.int ((a % b : Nat) : Int)), o] s := by
  have hm : cMod (a : Int) (b : Int) = true := by
    show (bif Nat.beq b 0 then false else true) = true
    cases b with
    | zero => exact absurd rfl hb
    | succ m => rfl
  simp [nthR_eq, setR_eq, atC_eq, whL, euT, mT, mBin, mVar, mC, gNe, R.bind, R.fl, vB, hb, euB, sPar, mCons, mNil, gMod, gI, hm]
theorem euclid (x0 x1 o : Option PV) (s : Sto) : ∀ (k n a b : Nat), b < 2 ^ k → 2 * k + 1 ≤ n → whL euT euB n [x0, x1, some (.int a), some (.int b), o] s = .nx [x0, x1, some (.int (Nat.gcd a b : Nat)), some (.int (0 : Nat)), o] s
  | 0, n, a, b, hb, hn => by
    obtain ⟨m, rfl⟩ : ∃ m, n = m + 1 := ⟨n - 1, by omega⟩
    have : b = 0 := by simpa using hb
    subst this
    rw [eu_stop, Nat.gcd_zero_right]
  | k + 1, n, a, b, hb, hn => by
    obtain ⟨m, rfl⟩ : ∃ m, n = m + 1 + 1 := ⟨n - 2, by omega⟩
    by_cases h0 : b = 0
    · subst h0
      rw [eu_stop, Nat.gcd_zero_right]
    · rw [eu_step _ _ _ _ _ _ _ h0]
      have g1 : Nat.gcd a b = Nat.gcd b (a % b) := by rw [Nat.gcd_comm, Nat.gcd_rec, Nat.gcd_comm]
      by_cases h1 : a % b = 0
      · rw [h1, eu_stop, g1, h1, Nat.gcd_zero_right]
      · have hr : a % b < b := Nat.mod_lt _ (Nat.pos_of_ne_zero h0)
        rw [eu_step _ _ _ _ _ _ _ h1]
        have g2 : Nat.gcd b (a % b) = Nat.gcd (a % b) (b % (a % b)) := by rw [Nat.gcd_comm, Nat.gcd_rec, Nat.gcd_comm]
        have h2 : b % (a % b) < a % b := Nat.mod_lt _ (Nat.pos_of_ne_zero h1)
        have h3 : b % (a % b) + (a % b) ≤ b := by
          have e := Nat.mod_add_div b (a % b)
          have q : 1 ≤ b / (a % b) := (Nat.one_le_div_iff (Nat.pos_of_ne_zero h1)).mpr (Nat.le_of_lt hr)
          have q2 : (a % b) * 1 ≤ (a % b) * (b / (a % b)) := Nat.mul_le_mul_left _ q
          omega
        have h4 : b % (a % b) < 2 ^ k := by rw [Nat.pow_succ] at hb; omega
        rw [euclid x0 x1 o s k m (a % b) (b % (a % b)) h4 (by omega), g1, g2]
/-- what both _law_low and fraction give -/
def turn (a b : Int) : Int := if b < 0 then -((Nat.gcd a.natAbs b.natAbs : Nat) : Int) else ((Nat.gcd a.natAbs b.natAbs : Nat) : Int)
def low (a b : Int) : PV := .tup [.int (a.fdiv (turn a b)), .int (b.fdiv (turn a b))]
theorem turn_div (a b : Int) (hb : b ≠ 0) (z : b.natAbs.log2 < 8999) (i : Int) : cDiv i (turn a b) = true := by
  have g0 : Nat.gcd a.natAbs b.natAbs ≠ 0 := fun e => hb (by have := Nat.eq_zero_of_gcd_eq_zero_right e; omega)
  have gl : (Nat.gcd a.natAbs b.natAbs).log2 ≤ b.natAbs.log2 := log2_mono' (Nat.le_of_dvd (by omega) (Nat.gcd_dvd_right _ _))
  unfold turn
  split
  · obtain ⟨m, hm⟩ : ∃ m, Nat.gcd a.natAbs b.natAbs = m + 1 := ⟨Nat.gcd a.natAbs b.natAbs - 1, by omega⟩
    rw [hm] at gl ⊢
    show Nat.ble ((m + 1).log2 + 1) 9000 = true
    exact Nat.ble_eq_true_of_le (by omega)
  · show (bif Nat.beq (Nat.gcd a.natAbs b.natAbs) 0 then false else Nat.ble ((Nat.gcd a.natAbs b.natAbs).log2 + 1) 9000) = true
    have : Nat.beq (Nat.gcd a.natAbs b.natAbs) 0 = false := by
      cases q : Nat.beq (Nat.gcd a.natAbs b.natAbs) 0 with
      | false => rfl
      | true => exact absurd (Nat.eq_of_beq_eq_true q) g0
    rw [this]
    exact Nat.ble_eq_true_of_le (by omega)
theorem fraction_ok (a b : Int) (s : Sto) (hb : b ≠ 0) (z : b.natAbs.log2 < 8999) : r_fraction [.int a, .int b] s = .ok (low a b) s := by
  have h1 := turn_div a b hb z a
  have h2 := turn_div a b hb z b
  unfold turn at h1 h2
  by_cases hn : b < 0
  · rw [if_pos hn] at h1 h2
    simp [nthR_eq, setR_eq, atC_eq, r_fraction, runB, b_fraction, sSeq, sAsg, mVar, start', gNm, R.fl, R.bind, sRet, mBin, gLt, gI0, Mi.ret, sIf, mT, vB, gEq, mC, hb, mCall, mCons, mNil, gGcd, sNil, mTup, gDiv, gI, mUn, gNeg, hn, h1, h2, low, turn]
    rfl
  · rw [if_neg hn] at h1 h2
    simp [nthR_eq, setR_eq, atC_eq, r_fraction, runB, b_fraction, sSeq, sAsg, mVar, start', gNm, R.fl, R.bind, sRet, mBin, gLt, gI0, Mi.ret, sIf, mT, vB, gEq, mC, hb, mCall, mCons, mNil, gGcd, sNil, mTup, gDiv, gI, mUn, gNeg, hn, h1, h2, low, turn]
    rfl
theorem low_ok (a b : Int) (s : Sto) (hb : b ≠ 0) (z : b.natAbs.log2 < 8999) : r__law_low [.int a, .int b] s = .ok (low a b) s := by
  have h1 := turn_div a b hb z a
  have h2 := turn_div a b hb z b
  have hz : b.natAbs < 2 ^ 8999 := (Nat.log2_lt (by omega)).mp z
  have e := fun o => euclid (some (.int a)) (some (.int b)) o s 8999 100000 a.natAbs b.natAbs hz (by decide)
  have ab : ∀ i : Int, (if i < 0 then -i else i) = (i.natAbs : Int) := fun i => by split <;> omega
  have hw : ∀ o, sWh 100000 euT euB [some (.int a), some (.int b), some (.int (a.natAbs : Int)), some (.int (b.natAbs : Int)), o] s = .nx [some (.int a), some (.int b), some (.int (Nat.gcd a.natAbs b.natAbs : Nat)), some (.int (0 : Nat)), o] s := e
  unfold turn at h1 h2
  have eb : b__law_low = (sSeq (sPar 2 3 (mCons (mCall gAbs (mCons (mVar 0) mNil)) (mCons (mCall gAbs (mCons (mVar 1) mNil)) mNil))) (sSeq (sWh 100000 euT euB) (sSeq (sAsg (mIf (mT (mBin gLt (mVar 1) (mC (.int 0)))) (mUn gNeg (mVar 2)) (mVar 2)) (gNm 4)) (sRet (mTup (mCons (mBin gDiv (mVar 0) (mVar 4)) (mCons (mBin gDiv (mVar 1) (mVar 4)) mNil))))))) := rfl
  unfold r__law_low runB
  rw [eb]
  have p1 : sPar 2 3 (mCons (mCall gAbs (mCons (mVar 0) mNil)) (mCons (mCall gAbs (mCons (mVar 1) mNil)) mNil)) (start' 3 [.int a, .int b]) s = .nx [some (.int a), some (.int b), some (.int (a.natAbs : Int)), some (.int (b.natAbs : Int)), none] s := by
    simp [nthR_eq, setR_eq, atC_eq, sPar, mCons, mCall, gAbs, mVar, mNil, start', R.bind, R.fl, ab]
  by_cases hn : b < 0
  · rw [if_pos hn] at h1 h2
    simp only [sSeq, p1, hw]
    simp [nthR_eq, setR_eq, atC_eq, sAsg, mIf, mT, mBin, gLt, gI0, mVar, mC, vB, R.bind, R.fl, hn, mUn, gNeg, gNm, sRet, mTup, mCons, mNil, gDiv, gI, h1, h2, Mi.ret, low, turn]
    rfl
  · rw [if_neg hn] at h1 h2
    simp only [sSeq, p1, hw]
    simp [nthR_eq, setR_eq, atC_eq, sAsg, mIf, mT, mBin, gLt, gI0, mVar, mC, vB, R.bind, R.fl, hn, mUn, gNeg, gNm, sRet, mTup, mCons, mNil, gDiv, gI, h1, h2, Mi.ret, low, turn]
    rfl
/-! ### _law_same of alike values -/
def F2 (R : PV → PV → Prop) (xs ys : List PV) : Prop := xs.length = ys.length ∧ ∀ (i : Nat) (x y : PV), xs[i]? = some x → ys[i]? = some y → R x y
def scal : PV → Bool
  | .int _ | .bl _ | .str _ | .non => true
  | _ => false
/-- v and w are alike as _law_same sees them, at most l deep; s: the lists that change -/
def alk (s : Sto) : Nat → PV → PV → Prop
  | 0 => fun _ _ => False
  | l + 1 => fun v w => (v = w ∧ scal w = true) ∨ (∃ xs ys, v = .tup xs ∧ w = .tup ys ∧ xs.length < 1000 ∧ F2 (alk s l) xs ys) ∨ (∃ xs ys, getF s v = some xs ∧ getF s w = some ys ∧ xs.length < 1000 ∧ F2 (alk s l) xs ys)
theorem bools_rep : ∀ n : Nat, boolsOf (List.replicate n (PV.bl true)) = some (List.replicate n true)
  | 0 => rfl
  | n + 1 => by
    rw [List.replicate_succ, List.replicate_succ]
    simp [nthR_eq, setR_eq, atC_eq, boolsOf, bools_rep n]
theorem all_rep (n : Nat) : (List.replicate n true).all id = true := by
  rw [List.all_eq_true]
  intro x hx
  exact (List.mem_replicate.mp hx).2
theorem lcz (self : GC) (J : MIt) (s : Sto) (n : Nat) (v w : PV) (hJ : ∀ i, i < n → ∃ x y, J i s = some (.tup [x, y]) ∧ self [x, y] s = .ok (.bl true) s) (hn : J n s = none) :
    ∀ (k i m : Nat) (acc : List PV), i + k = n → k + 1 ≤ m → acc.length + k < 1000 →
      lcL J (gTp 2 (gC (gNm 2) (gC (gNm 3) gN0))) mYes (mCall (ar 2 self) (mCons (mVar 2) (mCons (mVar 3) mNil))) [some v, some w, none, none] m i acc s = .ok (acc ++ List.replicate k (.bl true)) s
  | 0, i, m, acc, e, hm, ha => by
    obtain ⟨m, rfl⟩ : ∃ t, m = t + 1 := ⟨m - 1, by omega⟩
    have : i = n := by omega
    subst this
    unfold lcL
    rw [hn]
    simp
  | k + 1, i, m, acc, e, hm, ha => by
    obtain ⟨m, rfl⟩ : ∃ t, m = t + 1 := ⟨m - 1, by omega⟩
    obtain ⟨x, y, h1, h2⟩ := hJ i (by omega)
    have hb : Nat.blt acc.length sizeLine = true := Nat.ble_eq_true_of_le (by have : sizeLine = 16777216 := by decide
                                                                              omega)
    have ih := lcz self J s n v w hJ hn k (i + 1) m (acc ++ [.bl true]) (by omega) (by omega) (by simp; omega)
    unfold lcL
    rw [h1]
    have ht : (gTp 2 (gC (gNm 2) (gC (gNm 3) gN0))) (.tup [x, y]) [some v, some w, none, none] s = .ok [some v, some w, some x, some y] s := by
      simp [nthR_eq, setR_eq, atC_eq, gTp, gC, gNm, gN0, R.bind]
    have he : (mCall (ar 2 self) (mCons (mVar 2) (mCons (mVar 3) mNil))) [some v, some w, some x, some y] s = .ok (.bl true) s := by
      simp [nthR_eq, setR_eq, atC_eq, mCall, mCons, mVar, mNil, R.bind, ar, h2]
    dsimp only
    rw [ht]
    simp only [R.noex, R.bind, mYes, cond_true]
    rw [he]
    simp only [R.noex, R.bind, hb, cond_true]
    rw [ih, List.append_assoc]
    rfl
theorem sIf_ok {t : MT} {a b : MS} {env : Mi.Env} {s s1 : Sto} {c : Bool} (h : t env s = .ok c s1) : sIf t a b env s = bif c then a env s1 else b env s1 := by unfold sIf; rw [h]; rfl
theorem sSeq_nx {m n : MS} {env e : Mi.Env} {s s1 : Sto} (h : m env s = .nx e s1) : sSeq m n env s = n e s1 := by unfold sSeq; rw [h]
theorem sSeq_rt {m n : MS} {env : Mi.Env} {s s1 : Sto} {v : PV} (h : m env s = .rt v s1) : sSeq m n env s = .rt v s1 := by unfold sSeq; rw [h]
theorem sRet_ok {m : M} {env : Mi.Env} {s s1 : Sto} {v : PV} (h : m env s = .ok v s1) : sRet m env s = .rt v s1 := by unfold sRet; rw [h]; rfl
theorem mAnd_t {a b : M} {env : Mi.Env} {s s1 : Sto} (h : a env s = .ok (.bl true) s1) : mAnd a b env s = b env s1 := by unfold mAnd; rw [h]; rfl
theorem seq_of {s : Sto} : ∀ {v : PV} {xs : List PV}, getQ s v = some xs → ∃ t J, seqOf s v = some (t, J) ∧ ∀ i, J i s = xs[i]? := fun {v xs} h => by
  cases v <;> first | (cases h; done) | skip
  · cases h; exact ⟨_, _, rfl, fun i => nthC_eq _ _⟩
  · cases h; exact ⟨_, _, rfl, fun i => nthC_eq _ _⟩
  · cases h; exact ⟨_, _, rfl, fun i => nthC_eq _ _⟩
  · rename_i n
    have h3 : s[n]? = some (.l xs) := lsO_ok h
    exact ⟨false, fun i s => match s[n]? with
      | some (.l xs) => nthC xs i
      | _ => none, (by simp [nthR_eq, setR_eq, atC_eq, seqOf, itOf, h3, lsO]; try rfl), fun i => by simp only [h3]; exact nthC_eq _ _⟩
theorem same_list (l : Nat) (s : Sto) (v w : PV) (xs ys : List PV) (hx : getQ s v = some xs) (hy : getQ s w = some ys) (hl : xs.length < 1000) (hF : F2 (alk s l) xs ys)
    (t : Ty) (k1 : tyOf s v = some t) (k2 : tyOf s w = some t) (ht : t = .list ∨ t = .tuple) (ih : ∀ x y, alk s l x y → r__law_same l [x, y] s = .ok (.bl true) s) :
    r__law_same (l + 1) [v, w] s = .ok (.bl true) s := by
  obtain ⟨J, hz, hJ⟩ : ∃ J : MIt, iZq (mCons (mVar 0) (mCons (mVar 1) mNil)) [some v, some w, none, none] s = .ok J s ∧ ∀ i, J i s = (match xs[i]? with
      | some x => (match ys[i]? with
        | some y => some (.tup [x, y])
        | none => none)
      | none => none) := by
    obtain ⟨t1, J, e1, e2⟩ := seq_of hx
    obtain ⟨t2, L, e3, e4⟩ := seq_of hy
    refine ⟨zipI J L, ?_, fun i => ?_⟩
    · simp [nthR_eq, setR_eq, atC_eq, iZq, mCons, mVar, mNil, R.bind, e1, e3]
    · unfold zipI
      rw [e2, e4]
      try (cases xs[i]? <;> first | rfl | (cases ys[i]? <;> rfl))
  have hlc : mLc 100000 false (iZq (mCons (mVar 0) (mCons (mVar 1) mNil))) [2, 3] (gTp 2 (gC (gNm 2) (gC (gNm 3) gN0))) mYes (mCall (ar 2 (r__law_same l)) (mCons (mVar 2) (mCons (mVar 3) mNil))) [some v, some w, none, none] s = .ok (.lst (List.replicate xs.length (.bl true))) s := by
    have z := lcz (r__law_same l) J s xs.length v w (fun i hi => by
      have hi2 : i < ys.length := hF.1 ▸ hi
      refine ⟨xs[i], ys[i], ?_, ih _ _ (hF.2 i _ _ (List.getElem?_eq_getElem hi) (List.getElem?_eq_getElem hi2))⟩
      rw [hJ, List.getElem?_eq_getElem hi, List.getElem?_eq_getElem hi2]) (by rw [hJ, List.getElem?_eq_none (Nat.le_refl _)]) xs.length 0 100000 [] (by omega) (by omega) (by simpa using hl)
    unfold mLc
    rw [hz]
    simp only [R.bind]
    rw [show wipeE [some v, some w, none, none] [2, 3] = [some v, some w, none, none] from rfl, z]
    rfl
  have hla : (mCall gAll (mCons (mLc 100000 false (iZq (mCons (mVar 0) (mCons (mVar 1) mNil))) [2, 3] (gTp 2 (gC (gNm 2) (gC (gNm 3) gN0))) mYes (mCall (ar 2 (r__law_same l)) (mCons (mVar 2) (mCons (mVar 3) mNil)))) mNil)) [some v, some w, none, none] s = .ok (.bl true) s := by
    simp only [mCall, mCons, R.bind, hlc, mNil, gAll, getF, bools_rep, all_rep]
  have hle : mBin gEq (mCall gLen (mCons (mVar 0) mNil)) (mCall gLen (mCons (mVar 1) mNil)) [some v, some w, none, none] s = .ok (.bl true) s := by
    simp [nthR_eq, setR_eq, atC_eq, mBin, mCall, mCons, mNil, mVar, R.bind, gLen, hx, hy, gEq, hF.1]
  have a0 : ∀ cs, mIsi cs (mVar 0) [some v, some w, none, none] s = .ok (.bl (anyT t cs)) s := fun cs => by simp only [mIsi, mVar, nthR_eq, List.getElem?_cons_zero, R.bind, k1]
  have a1 : ∀ cs, mIsi cs (mVar 1) [some v, some w, none, none] s = .ok (.bl (anyT t cs)) s := fun cs => by simp only [mIsi, mVar, nthR_eq, List.getElem?_cons_zero, List.getElem?_cons_succ, R.bind, k2]
  show Mi.ret (b__law_same (r__law_same l) [some v, some w, none, none] s) = _
  unfold b__law_same
  have c1 : mT (mIsi [.list, .tuple] (mVar 1)) [some v, some w, none, none] s = .ok true s := by
    simp only [mT, a1, R.bind, vB]
    rcases ht with rfl | rfl <;> rfl
  have c2 : mOrT (mT (mBin gNe (mIsi [.list] (mVar 0)) (mIsi [.list] (mVar 1)))) (mT (mBin gNe (mIsi [.tuple] (mVar 0)) (mIsi [.tuple] (mVar 1)))) [some v, some w, none, none] s = .ok false s := by
    simp [nthR_eq, setR_eq, atC_eq, mOrT, mT, mBin, a0, a1, R.bind, vB, gNe]
  rw [sSeq_rt (v := .bl true) (s1 := s) (by
    rw [sIf_ok c1]
    show sSeq _ _ _ _ = _
    rw [sSeq_nx (e := [some v, some w, none, none]) (s1 := s) (by rw [sIf_ok c2]; rfl)]
    exact sRet_ok (by rw [mAnd_t hle]; exact hla))]
  rfl
theorem same_ok : ∀ (l : Nat) (v w : PV) (s : Sto), alk s l v w → r__law_same l [v, w] s = .ok (.bl true) s
  | 0, _, _, _, h => h.elim
  | l + 1, v, w, s, h => by
    have ih := fun x y h => same_ok l x y s h
    rcases h with ⟨rfl, h⟩ | ⟨xs, ys, rfl, rfl, hl, hF⟩ | ⟨xs, ys, hx, hy, hl, hF⟩
    · cases v <;> first | (cases h; done) | skip
      all_goals simp [nthR_eq, setR_eq, atC_eq, r__law_same, runB, b__law_same, sSeq, sIf, mT, mIsi, mVar, start', tyOf, anyT, subT, vB, R.bind, R.fl, sNil, mOrT, mBin, gIs, Mi.isNon, mC, sRet, mAnd, gEq, mNot, Mi.ret]
    · exact same_list l s _ _ xs ys rfl rfl hl hF .tuple rfl rfl (.inr rfl) ih
    · have q : ∀ {v : PV} {xs : List PV}, getF s v = some xs → getQ s v = some xs ∧ tyOf s v = some .list := fun {v xs} h => by
        cases v <;> first | exact ⟨h, rfl⟩ | (cases h; done) | skip
        rename_i n
        refine ⟨h, ?_⟩
        have h3 : s[n]? = some (.l xs) := lsO_ok h
        simp [nthR_eq, setR_eq, atC_eq, tyOf, h3, tyB]
      exact same_list l s v w xs ys (q hx).1 (q hy).1 hl hF .list (q hx).2 (q hy).2 (.inl rfl) ih
/-! ### two fractions -/
def Sz (n : Nat) (x : Int) : Prop := x.natAbs < 2 ^ n
theorem sz_log {n : Nat} {x : Int} (h : Sz n x) (h0 : 0 < n) : x.natAbs.log2 < n := by
  by_cases z : x.natAbs = 0
  · rw [z]; simpa using h0
  · exact (Nat.log2_lt z).mpr h
theorem cMul_of {x y : Int} {a b : Nat} (hx : Sz a x) (hy : Sz b y) (ha : 0 < a) (hb : 0 < b) (h : a + b ≤ 100000000) : cMul x y = true := by
  have h1 := sz_log hx ha
  have h2 := sz_log hy hb
  exact Nat.ble_eq_true_of_le (by omega)
theorem sz_mul {x y : Int} {a b : Nat} (hx : Sz a x) (hy : Sz b y) : Sz (a + b) (x * y) := by
  unfold Sz at *
  rw [Int.natAbs_mul, Nat.pow_add]
  exact Nat.mul_lt_mul'' hx hy
theorem sz_add {x y : Int} {a : Nat} (hx : Sz a x) (hy : Sz a y) : Sz (a + 1) (x + y) := by
  unfold Sz at *
  rw [Nat.pow_succ]
  omega
theorem sz_le {x : Int} {a b : Nat} (hx : Sz a x) (h : a ≤ b) : Sz b x := Nat.lt_of_lt_of_le hx (Nat.pow_le_pow_right (by decide) h)
/-- what is below the line stays above 0 and small -/
theorem low_parts (a b : Int) (hb : b ≠ 0) : ∃ x y : Int, low a b = .tup [.int x, .int y] ∧ 0 < y ∧ x.natAbs ≤ a.natAbs ∧ y.natAbs ≤ b.natAbs ∧ x * b = a * y ∧ x * turn a b = a ∧ y * turn a b = b := by
  have g0 : (Nat.gcd a.natAbs b.natAbs) ≠ 0 := fun e => hb (by have := Nat.eq_zero_of_gcd_eq_zero_right e; omega)
  have t0 : turn a b ≠ 0 := by unfold turn; split <;> omega
  have da : turn a b ∣ a := by
    unfold turn
    split
    · exact Int.neg_dvd.mpr (Int.ofNat_dvd_left.mpr (Nat.gcd_dvd_left _ _))
    · exact Int.ofNat_dvd_left.mpr (Nat.gcd_dvd_left _ _)
  have db : turn a b ∣ b := by
    unfold turn
    split
    · exact Int.neg_dvd.mpr (Int.ofNat_dvd_left.mpr (Nat.gcd_dvd_right _ _))
    · exact Int.ofNat_dvd_left.mpr (Nat.gcd_dvd_right _ _)
  have sg : (b < 0 → turn a b < 0) ∧ (¬ b < 0 → 0 < turn a b) := by
    unfold turn
    constructor
    · intro h; rw [if_pos h]; omega
    · intro h; rw [if_neg h]; omega
  unfold low
  generalize turn a b = t at *
  obtain ⟨x, hx⟩ := da
  obtain ⟨y, hy⟩ := db
  have ex : a.fdiv t = x := by rw [hx, Int.mul_comm]; exact Int.mul_fdiv_cancel _ t0
  have ey : b.fdiv t = y := by rw [hy, Int.mul_comm]; exact Int.mul_fdiv_cancel _ t0
  have t1 : 1 ≤ t.natAbs := by omega
  have abs : ∀ {z w : Int}, w = t * z → z.natAbs ≤ w.natAbs := fun {z w} e => by
    rw [e, Int.natAbs_mul]
    exact Nat.le_mul_of_pos_left _ t1
  refine ⟨x, y, by rw [ex, ey], ?_, abs hx, abs hy, ?_, by rw [Int.mul_comm]; exact hx.symm, by rw [Int.mul_comm]; exact hy.symm⟩
  · by_cases h : b < 0
    · have tn := sg.1 h
      rcases Int.lt_trichotomy y 0 with q | q | q
      · have : 0 < t * y := Int.mul_pos_of_neg_of_neg tn q
        omega
      · rw [q] at hy; omega
      · exact q
    · have tp := sg.2 h
      rcases Int.lt_trichotomy y 0 with q | q | q
      · have : t * y < 0 := Int.mul_neg_of_pos_of_neg tp q
        omega
      · rw [q] at hy; omega
      · exact q
  · rw [hx, hy]
    simp [nthR_eq, setR_eq, atC_eq, Int.mul_comm, Int.mul_left_comm, Int.mul_assoc]
theorem fr2 (a b : Int) (s : Sto) (hb : b ≠ 0) (z : Sz 8000 b) : ar 2 r_fraction [.int a, .int b] s = .ok (low a b) s := fraction_ok a b s hb (Nat.lt_of_lt_of_le (sz_log z (by decide)) (by decide))
theorem low2 (a b : Int) (s : Sto) (hb : b ≠ 0) (z : Sz 8000 b) : ar 2 r__law_low [.int a, .int b] s = .ok (low a b) s := low_ok a b s hb (Nat.lt_of_lt_of_le (sz_log z (by decide)) (by decide))
theorem plus_ok (a b c d : Int) (s : Sto) (h1 : cMul a d = true) (h2 : cMul c b = true) (h3 : cMul b d = true) (hb : b * d ≠ 0) (z : Sz 8000 (b * d)) :
    r_plus [.tup [.int a, .int b], .tup [.int c, .int d]] s = .ok (low (a * d + c * b) (b * d)) s := by
  simp [nthR_eq, setR_eq, atC_eq, r_plus, runB, b_plus, sSeq, sAsg, mVar, start', gTp, gC, gN0, gNm, R.fl, R.bind, sRet, mBin, gMul, gAdd, mCall, mCons, mNil, h1, h2, h3, Mi.ret, fr2 _ _ _ hb z]
theorem minus_ok (a b c d : Int) (s : Sto) (h1 : cMul a d = true) (h2 : cMul c b = true) (h3 : cMul b d = true) (hb : b * d ≠ 0) (z : Sz 8000 (b * d)) :
    r_minus [.tup [.int a, .int b], .tup [.int c, .int d]] s = .ok (low (a * d - c * b) (b * d)) s := by
  simp [nthR_eq, setR_eq, atC_eq, r_minus, runB, b_minus, sSeq, sAsg, mVar, start', gTp, gC, gN0, gNm, R.fl, R.bind, sRet, mBin, gMul, Mi.gSub, gI0, mCall, mCons, mNil, h1, h2, h3, Mi.ret, fr2 _ _ _ hb z]
theorem less_ok (a b c d : Int) (s : Sto) (h1 : cMul a d = true) (h2 : cMul c b = true) : r_less [.tup [.int a, .int b], .tup [.int c, .int d]] s = .ok (.bl (decide (a * d < c * b))) s := by
  simp [nthR_eq, setR_eq, atC_eq, r_less, runB, b_less, sSeq, sAsg, mVar, start', gTp, gC, gN0, gNm, R.fl, R.bind, sRet, mBin, gMul, gLt, gI0, h1, h2, Mi.ret]
theorem times_ok (v w : PV) (a b c d : Int) (s : Sto) (hv : v = .lst [.int a, .int b]) (hw : w = .lst [.int c, .int d]) (h1 : cMul a c = true) (h3 : cMul b d = true) (hb : b * d ≠ 0) (z : Sz 8000 (b * d)) :
    r_times [v, w] s = .ok (low (a * c) (b * d)) s := by
  subst hv; subst hw
  simp [nthR_eq, setR_eq, atC_eq, getF, r_times, runB, b_times, sSeq, sAsg, mVar, start', gTp, gC, gN0, gNm, R.fl, R.bind, sRet, mBin, gMul, mCall, mCons, mNil, h1, h3, Mi.ret, fr2 _ _ _ hb z]
theorem over_ok (a b c d : Int) (s : Sto) (h1 : cMul a d = true) (h3 : cMul b c = true) (hb : b * c ≠ 0) (z : Sz 8000 (b * c)) :
    r_over [.tup [.int a, .int b], .tup [.int c, .int d]] s = .ok (low (a * d) (b * c)) s := by
  simp [nthR_eq, setR_eq, atC_eq, r_over, runB, b_over, sSeq, sAsg, mVar, start', gTp, gC, gN0, gNm, R.fl, R.bind, sRet, mBin, gMul, mCall, mCons, mNil, h1, h3, Mi.ret, fr2 _ _ _ hb z]
theorem over_no (a b c d : Int) (s : Sto) (h1 : cMul a d = true) (h3 : cMul b c = true) (hb : b * c = 0) :
    r_over [.tup [.int a, .int b], .tup [.int c, .int d]] s = .ex ⟨"CanNot", []⟩ s := by
  simp [nthR_eq, setR_eq, atC_eq, r_over, runB, b_over, sSeq, sAsg, mVar, start', gTp, gC, gN0, gNm, R.fl, R.bind, sRet, mBin, gMul, mCall, mCons, mNil, h1, h3, Mi.ret, hb, ar, r_fraction, b_fraction, sIf, mT, gEq, mC, vB, sRaise]
theorem f2_refl {R : PV → PV → Prop} {xs : List PV} (h : ∀ x ∈ xs, R x x) : F2 R xs xs := ⟨rfl, fun i x y e1 e2 => by rw [e1] at e2; cases e2; exact h x (List.mem_of_getElem? e1)⟩
theorem alk_sc {s : Sto} {l : Nat} {v : PV} (h : scal v = true) : alk s (l + 1) v v := .inl ⟨rfl, h⟩
theorem alk_tup {s : Sto} {l : Nat} {xs : List PV} (h : ∀ x ∈ xs, alk s l x x) (hl : xs.length < 1000) : alk s (l + 1) (.tup xs) (.tup xs) := .inr (.inl ⟨xs, xs, rfl, rfl, hl, f2_refl h⟩)
theorem alk_lst {s : Sto} {l : Nat} {xs : List PV} (h : ∀ x ∈ xs, alk s l x x) (hl : xs.length < 1000) : alk s (l + 1) (.lst xs) (.lst xs) := .inr (.inr ⟨xs, xs, rfl, rfl, hl, f2_refl h⟩)
theorem alk_two {s : Sto} {l : Nat} {a b : Int} : alk s (l + 2) (.tup [.int a, .int b]) (.tup [.int a, .int b]) := alk_tup (fun x hx => by
  rcases List.mem_cons.mp hx with rfl | hx
  · exact alk_sc rfl
  · rw [List.mem_singleton.mp hx]; exact alk_sc rfl) (by simp)
theorem alk_low {s : Sto} {l : Nat} {a b : Int} : alk s (l + 2) (low a b) (low a b) := alk_two
/-- behind the try: what is told at the end of the two lists -/
theorem tail_ok (p q u v a b c d : Int) (s : Sto) (G : List PV) (hG : G.length < 100) (aG : ∀ S, ∀ x ∈ G, alk S 11 x x) (m1 : cMul a d = true) (m5 : cMul b c = true) (hb : b ≠ 0) (zbc : Sz 8000 (b * c)) :
    Mi.ret
        (match
          sTryAs [(Str.ofString "CanNot", true)] 10
            (sExp (mApp (mVar 8) (mLst (mCons (mC (PV.str (Str.ofString "told"))) (mCons (mCall (ar 2 r_over) (mCons (mVar 2) (mCons (mVar 3) mNil))) mNil)))))
            (fun k => sExp (mApp (mVar 8) (mLst (mCons (mC (PV.str (Str.ofString "raised"))) (mCons (mIsD (List.lookup k [(Str.ofString "CanNot", true)])) mNil)))))
            [some (PV.tup [PV.int p, PV.int q]), some (PV.tup [PV.int u, PV.int v]), some (PV.tup [PV.int a, PV.int b]), some (PV.tup [PV.int c, PV.int d]), some (PV.int a), some (PV.int b), some (PV.int c), some (PV.int d),
              some (PV.box (List.length s)), some (PV.box (List.length s + 1)), none] (s ++ [.l G, .l G]) with
        | Fl.nx e s1 =>
          match sExp (mApp (mVar 9) (mIf (mT (mBin gNe (mVar 6) (mC (PV.int 0))))
                  (mLst (mCons (mC (PV.str (Str.ofString "told"))) (mCons (mCall (ar 2 r__law_low) (mCons (mBin (gMul false) (mVar 4) (mVar 7)) (mCons (mBin (gMul false) (mVar 5) (mVar 6)) mNil))) mNil)))
                  (mLst (mCons (mC (PV.str (Str.ofString "raised"))) (mCons (mC (PV.bl true)) mNil))))) e s1 with
          | Fl.nx e s1 => sRet (mCall (ar 2 (r__law_same 12)) (mCons (mVar 8) (mCons (mVar 9) mNil))) e s1
          | r => r
        | r => r) = .ok (.bl true) (s ++ [.l (G ++ [if c ≠ 0 then .lst [.str "told", low (a * d) (b * c)] else .lst [.str "raised", .bl true]]), .l (G ++ [if c ≠ 0 then .lst [.str "told", low (a * d) (b * c)] else .lst [.str "raised", .bl true]])]) := by
  have k2 : Nat.ble 2 sizeLine = true := rfl
  have hg : Nat.blt G.length sizeLine = true := Nat.ble_eq_true_of_le (by have : sizeLine = 16777216 := by decide
                                                                          omega)
  have fin : ∀ V : PV, (∀ S, alk S 11 V V) → ar 2 (r__law_same 12) [.box s.length, .box (s.length + 1)] (s ++ [.l (G ++ [V]), .l (G ++ [V])]) = .ok (.bl true) (s ++ [.l (G ++ [V]), .l (G ++ [V])]) := fun V hV => by
    refine same_ok 12 _ _ _ (.inr (.inr ⟨G ++ [V], G ++ [V], by simp [nthR_eq, setR_eq, atC_eq, getF, lsO], by simp [nthR_eq, setR_eq, atC_eq, getF, lsO], by simp; omega, f2_refl fun x hx => ?_⟩))
    rcases List.mem_append.mp hx with h | h
    · exact aG _ x h
    · rw [List.mem_singleton.mp h]; exact hV _
  by_cases hc : c = 0
  · subst hc
    have o1 := fun s => over_no a b 0 d s m1 m5 (by simp)
    have o2 : ∀ s, ar 2 r_over [.tup [.int a, .int b], .tup [.int 0, .int d]] s = .ex ⟨"CanNot", []⟩ s := o1
    have ff := fin (.lst [.str "raised", .bl true]) fun S => alk_lst (fun x hx => by
      rcases List.mem_cons.mp hx with rfl | hx
      · exact alk_sc rfl
      · rw [List.mem_singleton.mp hx]; exact alk_sc rfl) (by simp)
    have kb : Nat.blt 10 11 = true := rfl
    simp [nthR_eq, setR_eq, atC_eq, lsO, kb, sTryAs, sExp, mApp, mVar, mLst, mCons, mC, mCall, mNil, R.bind, R.fl, o2, List.lookup, mIsD, k2, hg, Fl.noex, Mi.putF, mIf, mT, mBin, gNe, vB, sRet, ff, Mi.ret]
  · have o1 := fun s => over_ok a b c d s m1 m5 (fun z => by rcases Int.mul_eq_zero.mp z with z | z <;> contradiction) zbc
    have o2 : ∀ s, ar 2 r_over [.tup [.int a, .int b], .tup [.int c, .int d]] s = .ok (low (a * d) (b * c)) s := o1
    have o3 : ∀ s, ar 2 r__law_low [.int (a * d), .int (b * c)] s = .ok (low (a * d) (b * c)) s := fun s => low2 _ _ s (fun z => by rcases Int.mul_eq_zero.mp z with z | z <;> contradiction) zbc
    have ff := fin (.lst [.str "told", low (a * d) (b * c)]) fun S => alk_lst (fun x hx => by
      rcases List.mem_cons.mp hx with rfl | hx
      · exact alk_sc rfl
      · rw [List.mem_singleton.mp hx]; exact alk_low) (by simp)
    simp [nthR_eq, setR_eq, atC_eq, lsO, sTryAs, sExp, mApp, mVar, mLst, mCons, mC, mCall, mNil, R.bind, R.fl, o2, k2, hg, mIf, mT, mBin, gNe, vB, hc, gMul, m1, m5, o3, sRet, ff, Mi.ret]
theorem two_ok (p q u v : Int) (s : Sto) (hq : q ≠ 0) (hv : v ≠ 0) (z1 : Sz 200 p) (z2 : Sz 200 q) (z3 : Sz 200 u) (z4 : Sz 200 v) :
    ∃ s', r__law_two_right [.tup [.int p, .int q], .tup [.int u, .int v]] s = .ok (.bl true) (s ++ s') := by
  obtain ⟨a, b, e1, hb, la, lb, _⟩ := low_parts p q hq
  obtain ⟨c, d, e2, hd, lc, ld, _⟩ := low_parts u v hv
  have sa : Sz 200 a := Nat.lt_of_le_of_lt la z1
  have sb : Sz 200 b := Nat.lt_of_le_of_lt lb z2
  have sc : Sz 200 c := Nat.lt_of_le_of_lt lc z3
  have sd : Sz 200 d := Nat.lt_of_le_of_lt ld z4
  have mc : ∀ {x y : Int}, Sz 200 x → Sz 200 y → cMul x y = true := fun h1 h2 => cMul_of h1 h2 (by decide) (by decide) (by decide)
  have hbd : b * d ≠ 0 := by have := Int.mul_pos hb hd; omega
  have zbd : Sz 8000 (b * d) := sz_le (sz_mul sb sd) (by decide)
  have zbc : Sz 8000 (b * c) := sz_le (sz_mul sb sc) (by decide)
  have f1 : ∀ s, ar 2 r__law_low [.int p, .int q] s = .ok (.tup [.int a, .int b]) s := fun s => e1 ▸ low2 p q s hq (sz_le z2 (by decide))
  have f2 : ∀ s, ar 2 r__law_low [.int u, .int v] s = .ok (.tup [.int c, .int d]) s := fun s => e2 ▸ low2 u v s hv (sz_le z4 (by decide))
  have f3 : ∀ s, ar 2 r_fraction [.int p, .int q] s = .ok (.tup [.int a, .int b]) s := fun s => e1 ▸ fr2 p q s hq (sz_le z2 (by decide))
  have f4 : ∀ s, ar 2 r_fraction [.int u, .int v] s = .ok (.tup [.int c, .int d]) s := fun s => e2 ▸ fr2 u v s hv (sz_le z4 (by decide))
  have f5 : ∀ s, ar 2 r_plus [.tup [.int a, .int b], .tup [.int c, .int d]] s = .ok (low (a * d + c * b) (b * d)) s := fun s => plus_ok a b c d s (mc sa sd) (mc sc sb) (mc sb sd) hbd zbd
  have f6 : ∀ s, ar 2 r_minus [.tup [.int a, .int b], .tup [.int c, .int d]] s = .ok (low (a * d - c * b) (b * d)) s := fun s => minus_ok a b c d s (mc sa sd) (mc sc sb) (mc sb sd) hbd zbd
  have f7 : ∀ s, ar 2 r_times [.lst [.int a, .int b], .lst [.int c, .int d]] s = .ok (low (a * c) (b * d)) s := fun s => times_ok _ _ a b c d s rfl rfl (mc sa sc) (mc sb sd) hbd zbd
  have f8 : ∀ s, ar 2 r_less [.tup [.int a, .int b], .tup [.int c, .int d]] s = .ok (.bl (decide (a * d < c * b))) s := fun s => less_ok a b c d s (mc sa sd) (mc sc sb)
  have f9 : ∀ s, ar 2 r_less [.tup [.int c, .int d], .tup [.int a, .int b]] s = .ok (.bl (decide (c * b < a * d))) s := fun s => less_ok c d a b s (mc sc sb) (mc sa sd)
  have f10 : ∀ s, ar 2 r_less [.tup [.int a, .int b], .tup [.int a, .int b]] s = .ok (.bl false) s := fun s => by
    have := less_ok a b a b s (mc sa sb) (mc sa sb)
    rw [show decide (a * b < a * b) = false by simp] at this
    exact this
  have g1 : ∀ s, ar 2 r__law_low [.int (a * d + c * b), .int (b * d)] s = .ok (low (a * d + c * b) (b * d)) s := fun s => low2 _ _ s hbd zbd
  have g2 : ∀ s, ar 2 r__law_low [.int (a * d - c * b), .int (b * d)] s = .ok (low (a * d - c * b) (b * d)) s := fun s => low2 _ _ s hbd zbd
  have g3 : ∀ s, ar 2 r__law_low [.int (a * c), .int (b * d)] s = .ok (low (a * c) (b * d)) s := fun s => low2 _ _ s hbd zbd
  have m1 := mc sa sd
  have m2 := mc sc sb
  have m3 := mc sb sd
  have m4 := mc sa sc
  have m5 := mc sb sc
  have k2 : Nat.ble 2 sizeLine = true := rfl
  have k8 : Nat.ble 8 sizeLine = true := rfl
  show ∃ s', Mi.ret (b__law_two_right [some (.tup [.int p, .int q]), some (.tup [.int u, .int v]), none, none, none, none, none, none, none, none, none] s) = _
  unfold b__law_two_right
  simp [nthR_eq, setR_eq, atC_eq, sSeq, sPar, sAsg, mVar, mCall, mCons, mNil, mBin, gIx, getQ, atI, ixN, mC, R.bind, R.fl, mTup, gTp, gC, gN0, gNm, mBox, mLst, gMul, gAdd, Mi.gSub, gI0, gLt, f1, f2, f3, f4, f5, f6, f7, f8, f9, f10, g1, g2, g3, m1, m2, m3, m4, m5, k2, k8]
  have t := tail_ok p q u v a b c d s [.tup [.int a, .int b], .tup [.int c, .int d], low (a * d + c * b) (b * d), low (a * d - c * b) (b * d), low (a * c) (b * d), .bl (decide (a * d < c * b)), .bl (decide (c * b < a * d)), .bl false] (by simp) (fun S x hx => by
    simp only [List.mem_cons, List.not_mem_nil, or_false] at hx
    rcases hx with rfl | rfl | rfl | rfl | rfl | rfl | rfl | rfl
    · exact alk_two
    · exact alk_two
    · exact alk_low
    · exact alk_low
    · exact alk_low
    · exact alk_sc rfl
    · exact alk_sc rfl
    · exact alk_sc rfl) m1 m5 (by omega) zbc
  exact ⟨_, t⟩
/-! ### the urn -/
/-- the n-th list that changes is an urn out of which at most c were drawn by hand -/
def Urn (s : Sto) (n : Nat) (c : Nat) : Prop := ∃ u0 u1 u2 : Int, s[n]? = some (Bx.l [.int u0, .int u1, .int u2]) ∧ 0 ≤ u1 ∧ u1 < 2 ^ 62 ∧ 0 ≤ u2 ∧ u2 ≤ c
theorem take_ok (s : Sto) (n c : Nat) (m : Int) (hu : Urn s n c) (hc : c < 10000) (h0 : 0 < m) (hm : m < 2 ^ 110) :
    ∃ (r : Int) (l : List PV), r__law_take [.box n, .int m] s = .ok (.int r) (s.set n (.l l)) ∧ 0 ≤ r ∧ r < m ∧ Urn (s.set n (.l l)) n (c + 1) := by
  obtain ⟨u0, u1, u2, hs, a1, a2, b1, b2⟩ := hu
  have hn : n < s.length := (List.getElem?_eq_some_iff.mp hs).1
  have cm : ∀ i : Int, cMod i m = true := fun i => by
    obtain ⟨k, rfl⟩ := Int.eq_ofNat_of_zero_le (Int.le_of_lt h0)
    have : k ≠ 0 := by omega
    show (bif Nat.beq k 0 then false else true) = true
    cases k with
    | zero => exact absurd rfl this
    | succ k => rfl
  have cd : ∀ i : Int, cDiv i m = true := fun i => by
    obtain ⟨k, rfl⟩ := Int.eq_ofNat_of_zero_le (Int.le_of_lt h0)
    have : k ≠ 0 := by omega
    have lk : k.log2 < 110 := (Nat.log2_lt this).mpr (by omega)
    show (bif Nat.beq k 0 then false else Nat.ble (k.log2 + 1) 9000) = true
    cases k with
    | zero => exact absurd rfl this
    | succ k => exact Nat.ble_eq_true_of_le (by omega)
  have cc : ∀ (i : Int) (k : Nat), cMod i ((k + 1 : Nat) : Int) = true := fun i k => rfl
  by_cases hp : u0 > 0
  · refine ⟨u0 % m, [.int (u0.fdiv m), .int u1, .int u2], ?_, Int.emod_nonneg _ (by omega), Int.emod_lt_of_pos _ h0, ⟨u0.fdiv m, u1, u2, by simp [nthR_eq, setR_eq, atC_eq, hn], a1, a2, b1, by omega⟩⟩
    simp [nthR_eq, setR_eq, atC_eq, r__law_take, runB, b__law_take, start', sSeq, sIf, mT, mBin, mVar, mC, gIx, getQ, getF, lsO, hs, atI, ixN, R.bind, R.fl, gGt, gI0, vB, hp, sAsg, gMod, gI, mCall, mCons, mNil, gInt, cm, cd, gNm, gDiv, gSb, R.noex, sRet, Mi.ret]
  · have q : ∀ {x y : Int}, 0 ≤ x → x < 2 ^ 100 → 0 ≤ y → y < 2 ^ 100 → cMul x y = true := fun {x y} h1 h2 h3 h4 => cMul_of (a := 100) (b := 100) (by unfold Sz; omega) (by unfold Sz; omega) (by decide) (by decide) (by decide)
    have o0 := Int.emod_nonneg ((u1 + 48271 * (u2 + 1)) * (39373 + (u2 + 1))) (b := 2147483647) (by decide)
    have o1 := Int.emod_lt_of_pos ((u1 + 48271 * (u2 + 1)) * (39373 + (u2 + 1))) (b := 2147483647) (by decide)
    have f0 := Int.emod_nonneg ((u1 + 48271 * (u2 + 1)) * (39373 + (u2 + 1)) % 2147483647) (b := 40009) (by decide)
    have f1 := Int.emod_lt_of_pos ((u1 + 48271 * (u2 + 1)) * (39373 + (u2 + 1)) % 2147483647) (b := 40009) (by decide)
    have d0 : 0 ≤ u1.fdiv 1000003 ∧ u1.fdiv 1000003 ≤ u1 := by
      rw [Int.fdiv_eq_ediv_of_nonneg u1 (by decide)]
      exact ⟨Int.ediv_nonneg a1 (by decide), Int.ediv_le_self _ a1⟩
    have t0 := Int.emod_nonneg ((((u1 + 48271 * (u2 + 1)) * (39373 + (u2 + 1)) % 2147483647) + (u2 + 1) + u1.fdiv 1000003) * (((u1 + 48271 * (u2 + 1)) * (39373 + (u2 + 1)) % 2147483647) % 40009 + 7)) (b := 2147483629) (by decide)
    have t1 := Int.emod_lt_of_pos ((((u1 + 48271 * (u2 + 1)) * (39373 + (u2 + 1)) % 2147483647) + (u2 + 1) + u1.fdiv 1000003) * (((u1 + 48271 * (u2 + 1)) * (39373 + (u2 + 1)) % 2147483647) % 40009 + 7)) (b := 2147483629) (by decide)
    have hset : ∀ l : List PV, (s.set n (Bx.l l))[n]? = some (Bx.l l) := fun l => by simp [nthR_eq, setR_eq, atC_eq, hn]
    have m1 : cMul 48271 (u2 + 1) = true := q (by decide) (by decide) (by omega) (by omega)
    have m2 : cMul (u1 + 48271 * (u2 + 1)) (39373 + (u2 + 1)) = true := q (by omega) (by omega) (by omega) (by omega)
    have m3 : cMul (((u1 + 48271 * (u2 + 1)) * (39373 + (u2 + 1)) % 2147483647) + (u2 + 1) + u1.fdiv 1000003) (((u1 + 48271 * (u2 + 1)) * (39373 + (u2 + 1)) % 2147483647) % 40009 + 7) = true := q (by omega) (by omega) (by omega) (by omega)
    have m4 : cMul ((((u1 + 48271 * (u2 + 1)) * (39373 + (u2 + 1)) % 2147483647) + (u2 + 1) + u1.fdiv 1000003) * (((u1 + 48271 * (u2 + 1)) * (39373 + (u2 + 1)) % 2147483647) % 40009 + 7) % 2147483629) 48271 = true := q t0 (by omega) (by decide) (by decide)
    have c1 : ∀ i, cMod i 2147483647 = true := fun _ => rfl
    have c2 : ∀ i, cMod i 40009 = true := fun _ => rfl
    have c3 : ∀ i, cMod i 2147483629 = true := fun _ => rfl
    have c4 : ∀ i, cMod i 2147483587 = true := fun _ => rfl
    have c5 : ∀ i, cDiv i 1000003 = true := fun _ => rfl
    have c6 : ∀ i, cDiv i 64 = true := fun _ => rfl
    refine ⟨(((((((u1 + 48271 * (u2 + 1)) * (39373 + (u2 + 1)) % 2147483647) + (u2 + 1) + u1.fdiv 1000003) * (((u1 + 48271 * (u2 + 1)) * (39373 + (u2 + 1)) % 2147483647) % 40009 + 7) % 2147483629) * 48271 + ((u1 + 48271 * (u2 + 1)) * (39373 + (u2 + 1)) % 2147483647)) % 2147483587).fdiv 64 % m), [.int u0, .int u1, .int (u2 + 1)], ?_, Int.emod_nonneg _ (by omega), Int.emod_lt_of_pos _ h0, ⟨u0, u1, u2 + 1, by simp [nthR_eq, setR_eq, atC_eq, hn], a1, a2, by omega, by omega⟩⟩
    simp [nthR_eq, setR_eq, atC_eq, r__law_take, runB, b__law_take, start', sSeq, sIf, mT, mBin, mVar, mC, gIx, getQ, getF, lsO, hs, hset, atI, ixN, R.bind, R.fl, gGt, gI0, vB, hp, sAsg, gMod, gI, mCall, mCons, mNil, gInt, cm, gNm, gDiv, gSb, R.noex, sRet, Mi.ret, sNil, gAdd, gMul, m1, m2, m3, m4, c1, c2, c3, c4, c5, c6]
/-- only the n-th list has changed -/
def Fr1 (n : Nat) (s s' : Sto) : Prop := s'.length = s.length ∧ ∀ j, j ≠ n → s'[j]? = s[j]?
theorem Fr1.trans {n : Nat} {s s' s2 : Sto} (h : Fr1 n s s') (k : Fr1 n s' s2) : Fr1 n s s2 := ⟨k.1.trans h.1, fun j hj => (k.2 j hj).trans (h.2 j hj)⟩
theorem take2 (s : Sto) (n c : Nat) (m : Int) (hu : Urn s n c) (hc : c < 10000) (h0 : 0 < m) (hm : m < 2 ^ 110) :
    ∃ (r : Int) (s' : Sto), ar 2 r__law_take [.box n, .int m] s = .ok (.int r) s' ∧ 0 ≤ r ∧ r < m ∧ Urn s' n (c + 1) ∧ Fr1 n s s' := by
  obtain ⟨r, l, h1, h2, h3, h4⟩ := take_ok s n c m hu hc h0 hm
  exact ⟨r, s.set n (.l l), h1, h2, h3, h4, by simp, fun j hj => List.getElem?_set_ne (Ne.symm hj)⟩
theorem number_ok (s : Sto) (n c : Nat) (hu : Urn s n c) (hc : c < 9000) :
    ∃ (x : Int) (s' : Sto), ar 1 r__law_number [.box n] s = .ok (.int x) s' ∧ x ≠ 0 ∧ Sz 110 x ∧ Urn s' n (c + 3) ∧ Fr1 n s s' := by
  obtain ⟨r1, s1, e1, a1, b1, u1, f1⟩ := take2 s n c 5 hu (by omega) (by decide) (by decide)
  obtain ⟨z, hz, z0, z1⟩ : ∃ z : Int, atI [PV.int 9, PV.int 9, PV.int 9, PV.int 60, PV.int 1000000000000000000000000000000] r1 = some (.int z) ∧ 0 < z ∧ z ≤ 10 ^ 30 := by
    rcases (by omega : r1 = 0 ∨ r1 = 1 ∨ r1 = 2 ∨ r1 = 3 ∨ r1 = 4) with rfl | rfl | rfl | rfl | rfl
    · exact ⟨9, rfl, by decide, by decide⟩
    · exact ⟨9, rfl, by decide, by decide⟩
    · exact ⟨9, rfl, by decide, by decide⟩
    · exact ⟨60, rfl, by decide, by decide⟩
    · exact ⟨10 ^ 30, rfl, by decide, by decide⟩
  obtain ⟨r2, s2, e2, a2, b2, u2, f2⟩ := take2 s1 n (c + 1) z u1 (by omega) z0 (by omega)
  obtain ⟨r3, s3, e3, a3, b3, u3, f3⟩ := take2 s2 n (c + 2) 5 u2 (by omega) (by decide) (by decide)
  obtain ⟨y, hy, y0, y1⟩ : ∃ y : Int, atI [PV.int 6, PV.int (-6), PV.int 1, PV.int (-1), PV.int 4] r3 = some (.int y) ∧ y ≠ 0 ∧ y.natAbs ≤ 6 := by
    rcases (by omega : r3 = 0 ∨ r3 = 1 ∨ r3 = 2 ∨ r3 = 3 ∨ r3 = 4) with rfl | rfl | rfl | rfl | rfl
    · exact ⟨6, rfl, by decide, by decide⟩
    · exact ⟨-6, rfl, by decide, by decide⟩
    · exact ⟨1, rfl, by decide, by decide⟩
    · exact ⟨-1, rfl, by decide, by decide⟩
    · exact ⟨4, rfl, by decide, by decide⟩
  have sx : Sz 104 (1 + r2) := by unfold Sz; omega
  have sy : Sz 6 y := by unfold Sz; omega
  have mm : cMul (1 + r2) y = true := cMul_of sx sy (by decide) (by decide) (by decide)
  have k5 : Nat.ble 5 sizeLine = true := rfl
  have kp : cPow 10 30 = true := rfl
  refine ⟨(1 + r2) * y, s3, ?_, fun h => ?_, sz_mul sx sy, u3, (f1.trans f2).trans f3⟩
  · show r__law_number [.box n] s = _
    simp [nthR_eq, setR_eq, atC_eq, r__law_number, runB, b__law_number, start', sSeq, sAsg, mBin, mTup, mCons, mNil, mC, mCall, mVar, gPow, gI, kp, k5, e1, hz, hy, gIx, getQ, R.bind, R.fl, gNm, e2, e3, mUn, gNeg, gAdd, gMul, mm, sRet, Mi.ret]
  · rcases Int.mul_eq_zero.mp h with h | h
    · omega
    · exact y0 h
theorem Urn.more {s : Sto} {n c k : Nat} (h : Urn s n c) (hk : c ≤ k) : Urn s n k := by
  obtain ⟨a, b, d, h1, h2, h3, h4, h5⟩ := h
  exact ⟨a, b, d, h1, h2, h3, h4, by omega⟩
theorem drawn_ok (s : Sto) (n c : Nat) (hu : Urn s n c) (hc : c < 8000) :
    ∃ (p q : Int) (s' : Sto), ar 1 r__law_drawn [.box n] s = .ok (.tup [.int p, .int q]) s' ∧ q ≠ 0 ∧ Sz 110 p ∧ Sz 110 q ∧ Urn s' n (c + 7) ∧ Fr1 n s s' := by
  obtain ⟨r, s1, e1, a1, b1, u1, f1⟩ := take2 s n c 6 hu (by omega) (by decide) (by decide)
  have k2 : Nat.ble 2 sizeLine = true := rfl
  by_cases h : r = 0
  · subst h
    obtain ⟨q, s2, e2, q0, sq, u2, f2⟩ := number_ok s1 n (c + 1) u1 (by omega)
    refine ⟨0, q, s2, ?_, q0, by unfold Sz; decide, sq, u2.more (by omega), f1.trans f2⟩
    show r__law_drawn [.box n] s = _
    simp [nthR_eq, setR_eq, atC_eq, r__law_drawn, runB, b__law_drawn, start', sSeq, sAsg, mIf, mT, mBin, mCall, mCons, mNil, mVar, mC, R.bind, R.fl, e1, gNe, vB, gNm, e2, mTup, k2, sRet, Mi.ret]
  · obtain ⟨p, s2, e2, p0, sp, u2, f2⟩ := number_ok s1 n (c + 1) u1 (by omega)
    obtain ⟨q, s3, e3, q0, sq, u3, f3⟩ := number_ok s2 n (c + 4) u2 (by omega)
    refine ⟨p, q, s3, ?_, q0, sp, sq, u3.more (by omega), (f1.trans f2).trans f3⟩
    show r__law_drawn [.box n] s = _
    simp [nthR_eq, setR_eq, atC_eq, r__law_drawn, runB, b__law_drawn, start', sSeq, sAsg, mIf, mT, mBin, mCall, mCons, mNil, mVar, mC, R.bind, R.fl, e1, gNe, vB, h, gNm, e2, e3, mTup, k2, sRet, Mi.ret]
theorem refused_ok (s : Sto) : r__law_refused [] s = .ok (.bl true) s := by kernel_rfl
theorem many_none (s : Sto) : r__law_many_right [.lst []] s = .ok (.bl true) s := by kernel_rfl
/-! ### equal values have one lowest form -/
theorem turn_pos {a b : Int} (hb : 0 < b) : turn a b = ((Nat.gcd a.natAbs b.natAbs : Nat) : Int) := by unfold turn; rw [if_neg (by omega)]
theorem low_mul (k a b : Int) (hk : 0 < k) (hb : 0 < b) : low (k * a) (k * b) = low a b := by
  have hkb : 0 < k * b := Int.mul_pos hk hb
  have t : turn (k * a) (k * b) = k * turn a b := by
    rw [turn_pos hkb, turn_pos hb, Int.natAbs_mul, Int.natAbs_mul, Nat.gcd_mul_left]
    push_cast
    rw [Int.natAbs_of_nonneg (by omega)]
  unfold low
  rw [t, Int.mul_fdiv_mul_of_pos _ _ hk, Int.mul_fdiv_mul_of_pos _ _ hk]
theorem low_eq {a b c d : Int} (hb : 0 < b) (hd : 0 < d) (h : a * d = c * b) : low a b = low c d := by
  rw [← low_mul d a b hd hb, ← low_mul b c d hb hd, Int.mul_comm d a, h, Int.mul_comm c b, Int.mul_comm d b]
/-- a pair in lowest form -/
def Red (x y : Int) : Prop := 0 < y ∧ low x y = .tup [.int x, .int y]
theorem low_red (a b : Int) (hb : b ≠ 0) : ∃ x y, low a b = .tup [.int x, .int y] ∧ Red x y ∧ x.natAbs ≤ a.natAbs ∧ y.natAbs ≤ b.natAbs := by
  obtain ⟨x, y, e, hy, h1, h2, h3, h4, h5⟩ := low_parts a b hb
  refine ⟨x, y, e, ⟨hy, ?_⟩, h1, h2⟩
  have g1 : Nat.gcd x.natAbs y.natAbs = 1 := by
    have t0 : turn a b ≠ 0 := fun z => hb (by rw [← h5, z]; simp)
    have ta : (turn a b).natAbs = Nat.gcd a.natAbs b.natAbs := by unfold turn; split <;> simp
    have e2 : Nat.gcd a.natAbs b.natAbs = Nat.gcd x.natAbs y.natAbs * (turn a b).natAbs := by
      have ea : a.natAbs = x.natAbs * (turn a b).natAbs := by rw [← Int.natAbs_mul, h4]
      have eb : b.natAbs = y.natAbs * (turn a b).natAbs := by rw [← Int.natAbs_mul, h5]
      generalize (turn a b).natAbs = t at ea eb ⊢
      rw [ea, eb, Nat.gcd_mul_right]
    rw [ta] at e2
    have gp : 0 < Nat.gcd a.natAbs b.natAbs := by omega
    exact Nat.eq_of_mul_eq_mul_right gp (by rw [← e2, Nat.one_mul])
  unfold low
  rw [turn_pos hy, g1]
  simp
/-! ### least, greatest -/
def pr (x : Int × Int) : PV := .tup [.int x.1, .int x.2]
def leB : MS := (sIf (mOrT (mT (mBin (gIs id) (mVar 1) (mC .non))) (mT (mCall (ar 2 r_less) (mCons (mVar 2) (mCons (mVar 1) mNil))))) (sAsg (mVar 2) (gNm 1)) sNil)
theorem le_turn (v o : PV) (oo : Option PV) (x m : Int × Int) (s : Sto) (h1 : cMul x.1 m.2 = true) (h2 : cMul m.1 x.2 = true) :
    leB [some v, some (pr m), some (pr x)] s = .nx [some v, some (pr (if x.1 * m.2 < m.1 * x.2 then x else m)), some (pr x)] s := by
  have e : ∀ s, ar 2 r_less [pr x, pr m] s = .ok (.bl (decide (x.1 * m.2 < m.1 * x.2))) s := fun s => less_ok _ _ _ _ s h1 h2
  have n : Mi.isNon (pr m) = false := rfl
  by_cases c : x.1 * m.2 < m.1 * x.2
  · simp [nthR_eq, setR_eq, atC_eq, leB, sIf, mOrT, mT, mBin, mVar, mC, gIs, n, vB, R.bind, R.fl, mCall, mCons, mNil, e, c, sAsg, gNm, sNil]
  · simp [nthR_eq, setR_eq, atC_eq, leB, sIf, mOrT, mT, mBin, mVar, mC, gIs, n, vB, R.bind, R.fl, mCall, mCons, mNil, e, c, sAsg, gNm, sNil]
/-- a pair as a tuple, as a list -/
def rep (t : Bool) (x : Int × Int) : PV := bif t then .tup [.int x.1, .int x.2] else .lst [.int x.1, .int x.2]
def fov (t : Bool) : Option (Int × Int) → PV
  | none => .non
  | some x => rep t x
def leF (o : Option (Int × Int)) (x : Int × Int) : Option (Int × Int) := match o with
  | none => some x
  | some m => some (if x.1 * m.2 < m.1 * x.2 then x else m)
theorem less_rep (t : Bool) (x m : Int × Int) (s : Sto) (h1 : cMul x.1 m.2 = true) (h2 : cMul m.1 x.2 = true) : ar 2 r_less [rep t x, rep t m] s = .ok (.bl (decide (x.1 * m.2 < m.1 * x.2))) s := by
  cases t with
  | true => exact less_ok _ _ _ _ s h1 h2
  | false =>
    show r_less [.lst [.int x.1, .int x.2], .lst [.int m.1, .int m.2]] s = _
    simp [nthR_eq, setR_eq, atC_eq, getF, r_less, runB, b_less, sSeq, sAsg, mVar, start', gTp, gC, gN0, gNm, R.fl, R.bind, sRet, mBin, gMul, gLt, gI0, h1, h2, Mi.ret]
theorem rep_non (t : Bool) (x : Int × Int) : Mi.isNon (rep t x) = false := by cases t <;> rfl
theorem le_step (t : Bool) (v : PV) (o : Option (Int × Int)) (x : Int × Int) (s : Sto) (h : ∀ m, o = some m → cMul x.1 m.2 = true ∧ cMul m.1 x.2 = true) :
    leB [some v, some (fov t o), some (rep t x)] s = .nx [some v, some (fov t (leF o x)), some (rep t x)] s := by
  cases o with
  | none => simp [nthR_eq, setR_eq, atC_eq, leB, fov, leF, sIf, mOrT, mT, mBin, mVar, mC, gIs, Mi.isNon, vB, R.bind, R.fl, sAsg, gNm]
  | some m =>
    obtain ⟨h1, h2⟩ := h m rfl
    have e := fun s => less_rep t x m s h1 h2
    by_cases c : x.1 * m.2 < m.1 * x.2
    · simp [nthR_eq, setR_eq, atC_eq, leB, fov, leF, sIf, mOrT, mT, mBin, mVar, mC, gIs, rep_non, vB, R.bind, R.fl, mCall, mCons, mNil, e, c, sAsg, gNm, sNil]
    · simp [nthR_eq, setR_eq, atC_eq, leB, fov, leF, sIf, mOrT, mT, mBin, mVar, mC, gIs, rep_non, vB, R.bind, R.fl, mCall, mCons, mNil, e, c, sAsg, gNm, sNil]
theorem leF_mem {xs : List (Int × Int)} {o : Option (Int × Int)} {x : Int × Int} (ho : ∀ p, o = some p → p ∈ xs) (hx : x ∈ xs) : ∀ p, leF o x = some p → p ∈ xs := fun p e => by
  cases o with
  | none => cases e; exact hx
  | some m =>
    unfold leF at e
    dsimp only at e
    split at e
    · cases e; exact hx
    · cases e; exact ho _ rfl
theorem le_loop (t : Bool) (v : PV) (s : Sto) (J : MIt) (xs : List (Int × Int)) (hJ : ∀ i, J i s = (xs.map (rep t))[i]?) (hc : ∀ x ∈ xs, ∀ y ∈ xs, cMul x.1 y.2 = true) :
    ∀ (k i m : Nat) (fo : Option (Int × Int)) (o : Option PV), i + k = xs.length → k + 1 ≤ m → (∀ p, fo = some p → p ∈ xs) →
      ∃ o', forL J (gNm 2) leB m i [some v, some (fov t fo), o] s = .nx [some v, some (fov t ((xs.drop i).foldl leF fo)), o'] s
  | 0, i, m, fo, o, e, hm, hf => by
    obtain ⟨m, rfl⟩ : ∃ q, m = q + 1 := ⟨m - 1, by omega⟩
    refine ⟨o, ?_⟩
    unfold forL
    rw [hJ, List.getElem?_eq_none (by simp; omega), List.drop_eq_nil_of_le (by omega)]
    rfl
  | k + 1, i, m, fo, o, e, hm, hf => by
    obtain ⟨m, rfl⟩ : ∃ q, m = q + 1 := ⟨m - 1, by omega⟩
    have hi : i < xs.length := by omega
    have hx : xs[i] ∈ xs := List.getElem_mem hi
    obtain ⟨o', h⟩ := le_loop t v s J xs hJ hc k (i + 1) m (leF fo xs[i]) (some (rep t xs[i])) (by omega) (by omega) (leF_mem hf hx)
    refine ⟨o', ?_⟩
    have st := le_step t v fo xs[i] s fun p hp => ⟨hc _ hx _ (hf p hp), hc _ (hf p hp) _ hx⟩
    unfold forL
    rw [hJ, List.getElem?_map, List.getElem?_eq_getElem hi]
    simp only [Option.map_some, gNm, R.noex, R.fl, setR_eq, List.set]
    rw [st]
    rw [List.drop_eq_getElem_cons hi, List.foldl_cons]
    exact h
def pv (x : Int × Int) : PV := .tup [.int x.1, .int x.2]
theorem least_ok (t : Bool) (v : PV) (s : Sto) (J : MIt) (xs : List (Int × Int)) (hv : itAny s v = some J) (hJ : ∀ i, J i s = (xs.map (rep t))[i]?) (hc : ∀ x ∈ xs, ∀ y ∈ xs, cMul x.1 y.2 = true) (hl : xs.length < 1000) :
    ar 1 r_least [v] s = .ok (match xs.foldl leF none with
      | none => .non
      | some m => Lw.pv m) s := by
  obtain ⟨o', h⟩ := le_loop t v s J xs hJ hc xs.length 0 100000 none none (by omega) (by omega) (fun _ z => by cases z)
  have hw : sFor 100000 (iAny (mVar 0)) (gNm 2) leB [some v, some .non, none] s = .nx [some v, some (fov t (xs.foldl leF none)), o'] s := by
    unfold sFor iAny
    simp only [mVar, nthR_eq, List.getElem?_cons_zero, R.bind, hv, R.fl]
    exact h
  have eb : b_least = sSeq (sAsg (mC .non) (gNm 1)) (sSeq (sFor 100000 (iAny (mVar 0)) (gNm 2) leB) (sRet (mIf (mT (mBin (gIs id) (mVar 1) (mC .non))) (mC .non) (mCall gTuple (mCons (mVar 1) mNil))))) := rfl
  show Mi.ret (b_least [some v, none, none] s) = _
  rw [eb]
  have p1 : sAsg (mC .non) (gNm 1) [some v, none, none] s = .nx [some v, some .non, none] s := by simp [nthR_eq, setR_eq, atC_eq, sAsg, mC, gNm, R.fl]
  simp only [sSeq, p1, hw]
  cases xs.foldl leF none with
  | none => simp [nthR_eq, setR_eq, atC_eq, fov, sRet, mIf, mT, mBin, mVar, mC, gIs, Mi.isNon, vB, R.bind, R.fl, Mi.ret]
  | some m => cases t <;> simp [nthR_eq, setR_eq, atC_eq, fov, rep, sRet, mIf, mT, mBin, mVar, mC, gIs, Mi.isNon, vB, R.bind, R.fl, mCall, mCons, mNil, gTuple, getF, Lw.pv, Mi.ret]
/-- what the fold gives: one of them, none below it -/
theorem leF_least : ∀ (xs : List (Int × Int)) (o : Option (Int × Int)) (m : Int × Int), (∀ x ∈ xs, 0 < x.2) → (∀ p, o = some p → 0 < p.2) → xs.foldl leF o = some m →
    0 < m.2 ∧ (m ∈ xs ∨ o = some m) ∧ (∀ x ∈ xs, m.1 * x.2 ≤ x.1 * m.2) ∧ (∀ p, o = some p → m.1 * p.2 ≤ p.1 * m.2)
  | [], o, m, _, ho, e => ⟨ho m e, .inr e, fun x hx => by simp at hx, fun p hp => by
      have : o = some m := e
      rw [this] at hp; cases hp; exact Int.le_refl _⟩
  | x :: xs, o, m, hx, ho, e => by
    have e : xs.foldl leF (leF o x) = some m := e
    have x0 := hx x List.mem_cons_self
    have trans : ∀ {a b c : Int × Int}, 0 < b.2 → 0 < a.2 → 0 < c.2 → a.1 * b.2 ≤ b.1 * a.2 → b.1 * c.2 ≤ c.1 * b.2 → a.1 * c.2 ≤ c.1 * a.2 := fun {a b c} hb ha hc h1 h2 => by
      have q1 := Int.mul_le_mul_of_nonneg_right h1 (Int.le_of_lt hc)
      have q2 := Int.mul_le_mul_of_nonneg_right h2 (Int.le_of_lt ha)
      have q3 : (a.1 * c.2) * b.2 ≤ (c.1 * a.2) * b.2 := by
        have e1 : a.1 * b.2 * c.2 = a.1 * c.2 * b.2 := by rw [Int.mul_assoc, Int.mul_comm b.2, ← Int.mul_assoc]
        have e2 : b.1 * a.2 * c.2 = b.1 * c.2 * a.2 := by rw [Int.mul_assoc, Int.mul_comm a.2, ← Int.mul_assoc]
        have e3 : c.1 * b.2 * a.2 = c.1 * a.2 * b.2 := by rw [Int.mul_assoc, Int.mul_comm b.2, ← Int.mul_assoc]
        omega
      exact Int.le_of_mul_le_mul_right q3 hb
    cases o with
    | none =>
      have ih := leF_least xs (some x) m (fun y hy => hx y (List.mem_cons_of_mem _ hy)) (fun p hp => by cases hp; exact x0) e
      refine ⟨ih.1, ?_, fun y hy => ?_, fun p hp => by cases hp⟩
      · rcases ih.2.1 with h | h
        · exact .inl (List.mem_cons_of_mem _ h)
        · cases h; exact .inl List.mem_cons_self
      · rcases List.mem_cons.mp hy with rfl | hy
        · exact ih.2.2.2 _ rfl
        · exact ih.2.2.1 y hy
    | some k =>
      have k0 := ho k rfl
      by_cases c : x.1 * k.2 < k.1 * x.2
      · have e : xs.foldl leF (some x) = some m := by simpa [leF, c] using e
        have ih := leF_least xs (some x) m (fun y hy => hx y (List.mem_cons_of_mem _ hy)) (fun p hp => by cases hp; exact x0) e
        refine ⟨ih.1, ?_, fun y hy => ?_, fun p hp => ?_⟩
        · rcases ih.2.1 with h | h
          · exact .inl (List.mem_cons_of_mem _ h)
          · cases h; exact .inl List.mem_cons_self
        · rcases List.mem_cons.mp hy with rfl | hy
          · exact ih.2.2.2 _ rfl
          · exact ih.2.2.1 y hy
        · cases hp
          exact trans x0 ih.1 k0 (ih.2.2.2 x rfl) (by omega)
      · have e : xs.foldl leF (some k) = some m := by simpa [leF, c] using e
        have ih := leF_least xs (some k) m (fun y hy => hx y (List.mem_cons_of_mem _ hy)) (fun p hp => by cases hp; exact k0) e
        refine ⟨ih.1, ?_, fun y hy => ?_, fun p hp => ?_⟩
        · rcases ih.2.1 with h | h
          · exact .inl (List.mem_cons_of_mem _ h)
          · exact .inr h
        · rcases List.mem_cons.mp hy with rfl | hy
          · exact trans k0 ih.1 x0 (ih.2.2.2 k rfl) (by omega)
          · exact ih.2.2.1 y hy
        · cases hp
          exact ih.2.2.2 _ rfl
/-! ### loops in general -/
theorem for_inv {J : MIt} {g : MG} {body : MS} {s : Sto} {L : List PV} (hJ : ∀ i, J i s = L[i]?) (E : Nat → Mi.Env → Prop)
    (step : ∀ (i : Nat) (hi : i < L.length) (env : Mi.Env), E i env → ∃ env1 env2, g L[i] env s = .ok env1 s ∧ body env1 s = .nx env2 s ∧ E (i + 1) env2) :
    ∀ (k i m : Nat) (env : Mi.Env), i + k = L.length → k + 1 ≤ m → E i env → ∃ env', forL J g body m i env s = .nx env' s ∧ E L.length env'
  | 0, i, m, env, e, hm, h => by
    obtain ⟨m, rfl⟩ : ∃ q, m = q + 1 := ⟨m - 1, by omega⟩
    have : i = L.length := by omega
    subst this
    refine ⟨env, ?_, h⟩
    unfold forL
    rw [hJ, List.getElem?_eq_none (Nat.le_refl _)]
  | k + 1, i, m, env, e, hm, h => by
    obtain ⟨m, rfl⟩ : ∃ q, m = q + 1 := ⟨m - 1, by omega⟩
    have hi : i < L.length := by omega
    obtain ⟨e1, e2, h1, h2, h3⟩ := step i hi env h
    obtain ⟨env', h4, h5⟩ := for_inv hJ E step k (i + 1) m e2 (by omega) (by omega) h3
    refine ⟨env', ?_, h5⟩
    unfold forL
    rw [hJ, List.getElem?_eq_getElem hi]
    dsimp only
    rw [h1]
    show (match body e1 s with | .nx e s2 => _ | .ct e s2 => _ | .bk e s2 => _ | r => r) = _
    rw [h2]
    exact h4
theorem lc_vals {J : MIt} {g : MG} {elt : M} {env : Mi.Env} {s : Sto} {L ys : List PV} (hJ : ∀ i, J i s = L[i]?) (hl : ys.length = L.length) (hz : L.length < 1000)
    (step : ∀ (i : Nat) (h : i < L.length) (h2 : i < ys.length), ∃ env1, g L[i] env s = .ok env1 s ∧ elt env1 s = .ok ys[i] s) :
    ∀ (k i m : Nat) (acc : List PV), i + k = L.length → k + 1 ≤ m → acc.length = i → lcL J g mYes elt env m i acc s = .ok (acc ++ ys.drop i) s
  | 0, i, m, acc, e, hm, ha => by
    obtain ⟨m, rfl⟩ : ∃ q, m = q + 1 := ⟨m - 1, by omega⟩
    unfold lcL
    rw [hJ, List.getElem?_eq_none (by omega), List.drop_eq_nil_of_le (by omega), List.append_nil]
  | k + 1, i, m, acc, e, hm, ha => by
    obtain ⟨m, rfl⟩ : ∃ q, m = q + 1 := ⟨m - 1, by omega⟩
    have hi : i < L.length := by omega
    have hi2 : i < ys.length := by omega
    obtain ⟨e1, h1, h2⟩ := step i hi hi2
    have ih := lc_vals hJ hl hz step k (i + 1) m (acc ++ [ys[i]]) (by omega) (by omega) (by simp [nthR_eq, setR_eq, atC_eq, ha])
    have hb : Nat.blt acc.length sizeLine = true := Nat.ble_eq_true_of_le (by rw [sizeLine_eq]; omega)
    unfold lcL
    rw [hJ, List.getElem?_eq_getElem hi]
    dsimp only
    rw [h1]
    simp only [R.noex, R.bind, mYes, cond_true]
    rw [h2]
    simp only [R.noex, R.bind, hb, cond_true]
    rw [ih, List.drop_eq_getElem_cons hi2, List.append_assoc]
    rfl
theorem mLc_vals {mi : MI} {vs : List Nat} {g : MG} {elt : M} {env : Mi.Env} {s : Sto} {J : MIt} {L ys : List PV} (hi : mi env s = .ok J s) (hJ : ∀ i, J i s = L[i]?) (hl : ys.length = L.length) (hz : L.length < 1000)
    (step : ∀ (i : Nat) (h : i < L.length) (h2 : i < ys.length), ∃ env1, g L[i] (wipeE env vs) s = .ok env1 s ∧ elt env1 s = .ok ys[i] s) :
    mLc 100000 false mi vs g mYes elt env s = .ok (.lst ys) s := by
  have h := lc_vals hJ hl hz step L.length 0 100000 [] (by omega) (by omega) rfl
  unfold mLc
  rw [hi]
  simp only [R.bind]
  rw [h]
  rfl
theorem sFor_env {mi : MI} {g : MG} {b : MS} {env env' : Mi.Env} {s : Sto} {J : MIt} (h : mi env s = .ok J s) (h2 : forL J g b 100000 0 env s = .nx env' s) : sFor 100000 mi g b env s = .nx env' s := by
  unfold sFor
  rw [h]
  exact h2
theorem sAsg_nm {m : M} {i : Nat} {env : Mi.Env} {s s1 : Sto} {v : PV} (h : m env s = .ok v s1) : sAsg m (gNm i) env s = .nx (setR env i (some v)) s1 := by
  unfold sAsg
  rw [h]
  rfl
/-! ### greatest, by least of the contraries -/
def ng (x : Int × Int) : Int × Int := (-x.1, x.2)
def gF (o : Option (Int × Int)) (x : Int × Int) : Option (Int × Int) := match o with
  | none => some x
  | some m => some (if m.1 * x.2 < x.1 * m.2 then x else m)
theorem gF_ng (o : Option (Int × Int)) (x : Int × Int) : (gF o x).map ng = leF (o.map ng) (ng x) := by
  cases o with
  | none => rfl
  | some m =>
    unfold gF leF ng
    simp only [Option.map_some]
    by_cases c : m.1 * x.2 < x.1 * m.2
    · rw [if_pos c, if_pos (by rw [Int.neg_mul, Int.neg_mul]; omega)]
    · rw [if_neg c, if_neg (by rw [Int.neg_mul, Int.neg_mul]; omega)]
theorem gF_fold : ∀ (xs : List (Int × Int)) (o : Option (Int × Int)), (xs.foldl gF o).map ng = (xs.map ng).foldl leF (o.map ng)
  | [], o => rfl
  | x :: xs, o => by rw [List.foldl_cons, gF_fold xs, gF_ng]; rfl
theorem gF_some : ∀ (xs : List (Int × Int)) (m : Int × Int), ∃ k, xs.foldl gF (some m) = some k
  | [], m => ⟨m, rfl⟩
  | x :: xs, m => gF_some xs _
theorem leF_some : ∀ (xs : List (Int × Int)) (m : Int × Int), ∃ k, xs.foldl leF (some m) = some k
  | [], m => ⟨m, rfl⟩
  | x :: xs, m => leF_some xs _
theorem gF_greatest (xs : List (Int × Int)) (m : Int × Int) (hx : ∀ x ∈ xs, 0 < x.2) (e : xs.foldl gF none = some m) : 0 < m.2 ∧ m ∈ xs ∧ ∀ x ∈ xs, x.1 * m.2 ≤ m.1 * x.2 := by
  have e2 : (xs.map ng).foldl leF none = some (ng m) := by
    have := gF_fold xs none
    rw [e] at this
    exact this.symm
  obtain ⟨h1, h2, h3, _⟩ := leF_least (xs.map ng) none (ng m) (fun x hx' => by
    obtain ⟨y, hy, rfl⟩ := List.mem_map.mp hx'
    exact hx y hy) (fun _ z => by cases z) e2
  refine ⟨h1, ?_, fun x hx' => ?_⟩
  · rcases h2 with h2 | h2
    · obtain ⟨y, hy, e3⟩ := List.mem_map.mp h2
      unfold ng at e3
      have e4 : y = m := by
        have e5 := congrArg Prod.fst e3
        have e6 := congrArg Prod.snd e3
        simp only at e5 e6
        exact Prod.ext (by omega) e6
      exact e4 ▸ hy
    · cases h2
  · have := h3 (ng x) (List.mem_map.mpr ⟨x, hx', rfl⟩)
    unfold ng at this
    simp only [Int.neg_mul] at this
    omega
def grB : MS := (sIf (mOrT (mT (mBin (gIs id) (mVar 1) (mC .non))) (mT (mCall (ar 2 r_less) (mCons (mVar 1) (mCons (mVar 2) mNil))))) (sAsg (mVar 2) (gNm 1)) sNil)
theorem gr_step (t : Bool) (v : PV) (o : Option (Int × Int)) (x : Int × Int) (s : Sto) (h : ∀ m, o = some m → cMul x.1 m.2 = true ∧ cMul m.1 x.2 = true) :
    grB [some v, some (fov t o), some (rep t x)] s = .nx [some v, some (fov t (gF o x)), some (rep t x)] s := by
  cases o with
  | none => simp [nthR_eq, setR_eq, atC_eq, grB, fov, gF, sIf, mOrT, mT, mBin, mVar, mC, gIs, Mi.isNon, vB, R.bind, R.fl, sAsg, gNm]
  | some m =>
    obtain ⟨h1, h2⟩ := h m rfl
    have e := fun s => less_rep t m x s h2 h1
    by_cases c : m.1 * x.2 < x.1 * m.2
    · simp [nthR_eq, setR_eq, atC_eq, grB, fov, gF, sIf, mOrT, mT, mBin, mVar, mC, gIs, rep_non, vB, R.bind, R.fl, mCall, mCons, mNil, e, c, sAsg, gNm, sNil]
    · simp [nthR_eq, setR_eq, atC_eq, grB, fov, gF, sIf, mOrT, mT, mBin, mVar, mC, gIs, rep_non, vB, R.bind, R.fl, mCall, mCons, mNil, e, c, sAsg, gNm, sNil]
theorem gF_mem {xs : List (Int × Int)} {o : Option (Int × Int)} {x : Int × Int} (ho : ∀ p, o = some p → p ∈ xs) (hx : x ∈ xs) : ∀ p, gF o x = some p → p ∈ xs := fun p e => by
  cases o with
  | none => cases e; exact hx
  | some m =>
    unfold gF at e
    dsimp only at e
    split at e
    · cases e; exact hx
    · cases e; exact ho _ rfl
theorem greatest_ok (t : Bool) (v : PV) (s : Sto) (J : MIt) (xs : List (Int × Int)) (hv : itAny s v = some J) (hJ : ∀ i, J i s = (xs.map (rep t))[i]?) (hc : ∀ x ∈ xs, ∀ y ∈ xs, cMul x.1 y.2 = true) (hl : xs.length < 1000) :
    ar 1 r_greatest [v] s = .ok (match xs.foldl gF none with
      | none => .non
      | some m => Lw.pv m) s := by
  obtain ⟨env', h, o', fo, he, hf, _⟩ := for_inv (g := gNm 2) (body := grB) hJ (fun i env => ∃ o' fo, env = [some v, some (fov t fo), o'] ∧ (xs.drop i).foldl gF fo = xs.foldl gF none ∧ ∀ p, fo = some p → p ∈ xs) (fun i hi env hE => by
    obtain ⟨o', fo, rfl, hf, hm⟩ := hE
    have hi' : i < xs.length := by simpa using hi
    have hx : xs[i] ∈ xs := List.getElem_mem hi'
    refine ⟨[some v, some (fov t fo), some (rep t xs[i])], _, by simp [nthR_eq, setR_eq, atC_eq, gNm], gr_step t v fo xs[i] s fun p hp => ⟨hc _ hx _ (hm p hp), hc _ (hm p hp) _ hx⟩, some (rep t xs[i]), gF fo xs[i], rfl, ?_, gF_mem hm hx⟩
    rw [List.drop_eq_getElem_cons hi', List.foldl_cons] at hf
    exact hf) xs.length 0 100000 [some v, some .non, none] (by simp) (by omega) ⟨none, none, rfl, rfl, fun _ z => by cases z⟩
  rw [List.length_map, List.drop_length] at hf
  have hf : fo = xs.foldl gF none := hf
  have hw : sFor 100000 (iAny (mVar 0)) (gNm 2) grB [some v, some .non, none] s = .nx env' s := by
    refine sFor_env (J := J) ?_ h
    unfold iAny
    simp only [mVar, nthR_eq, List.getElem?_cons_zero, R.bind, hv]
  have eb : b_greatest = sSeq (sAsg (mC .non) (gNm 1)) (sSeq (sFor 100000 (iAny (mVar 0)) (gNm 2) grB) (sRet (mIf (mT (mBin (gIs id) (mVar 1) (mC .non))) (mC .non) (mCall gTuple (mCons (mVar 1) mNil))))) := rfl
  show Mi.ret (b_greatest [some v, none, none] s) = _
  rw [eb]
  have p1 : sAsg (mC .non) (gNm 1) [some v, none, none] s = .nx [some v, some .non, none] s := by simp [nthR_eq, setR_eq, atC_eq, sAsg, mC, gNm, R.fl]
  simp only [sSeq, p1, hw]
  rw [he, ← hf]
  cases fo with
  | none => simp [nthR_eq, setR_eq, atC_eq, fov, sRet, mIf, mT, mBin, mVar, mC, gIs, Mi.isNon, vB, R.bind, R.fl, Mi.ret]
  | some m => cases t <;> simp [nthR_eq, setR_eq, atC_eq, fov, rep, sRet, mIf, mT, mBin, mVar, mC, gIs, Mi.isNon, vB, R.bind, R.fl, mCall, mCons, mNil, gTuple, getF, Lw.pv, Mi.ret]
/-! ### what is below the line, together -/
def pB : List (Int × Int) → Int → Int
  | [], a => a
  | x :: r, a => pB r (a * x.2)
def lcI (a b : Int) : Int := ((Nat.lcm a.natAbs b.natAbs : Nat) : Int)
def lB : List (Int × Int) → Int → Int
  | [], a => a
  | x :: r, a => lB r (lcI a x.2)
theorem lcI_l (a b : Int) : a ∣ lcI a b := Int.natAbs_dvd.mp (Int.ofNat_dvd.mpr (Nat.dvd_lcm_left _ _))
theorem lcI_r (a b : Int) : b ∣ lcI a b := Int.natAbs_dvd.mp (Int.ofNat_dvd.mpr (Nat.dvd_lcm_right _ _))
theorem lcI_dvd {a b c : Int} (h1 : a ∣ c) (h2 : b ∣ c) : lcI a b ∣ c := by
  refine Int.dvd_natAbs.mp (Int.ofNat_dvd.mpr (Nat.lcm_dvd ?_ ?_))
  · exact Int.natAbs_dvd_natAbs.mpr h1
  · exact Int.natAbs_dvd_natAbs.mpr h2
theorem lcI_pos {a b : Int} (ha : 0 < a) (hb : 0 < b) : 0 < lcI a b := by
  have : 0 < Nat.lcm a.natAbs b.natAbs := Nat.lcm_pos (by omega) (by omega)
  unfold lcI
  omega
theorem lcI_sz {a b : Int} {m n : Nat} (ha0 : 0 < a) (hb0 : 0 < b) (ha : Sz m a) (hb : Sz n b) : Sz (m + n) (lcI a b) := by
  have h1 := sz_mul ha hb
  unfold Sz at *
  have h2 : Nat.lcm a.natAbs b.natAbs ≤ a.natAbs * b.natAbs := Nat.le_of_dvd (Nat.mul_pos (by omega) (by omega)) (Nat.lcm_dvd (Nat.dvd_mul_right _ _) (Nat.dvd_mul_left _ _))
  rw [Int.natAbs_mul] at h1
  unfold lcI
  rw [Int.natAbs_natCast]
  omega
theorem pB_dvd : ∀ (r : List (Int × Int)) (a : Int), a ∣ pB r a
  | [], a => Int.dvd_refl _
  | x :: r, a => Int.dvd_trans (Int.dvd_mul_right _ _) (pB_dvd r (a * x.2))
theorem pB_mem : ∀ (r : List (Int × Int)) (a : Int), ∀ x ∈ r, x.2 ∣ pB r a
  | [], _, _, h => by cases h
  | y :: r, a, x, h => by
    rcases List.mem_cons.mp h with rfl | h
    · exact Int.dvd_trans (Int.dvd_mul_left _ _) (pB_dvd r (a * x.2))
    · exact pB_mem r (a * y.2) x h
theorem pB_pos : ∀ (r : List (Int × Int)) (a : Int), 0 < a → (∀ x ∈ r, 0 < x.2) → 0 < pB r a
  | [], _, h, _ => h
  | x :: r, a, h, hx => pB_pos r (a * x.2) (Int.mul_pos h (hx x List.mem_cons_self)) fun y hy => hx y (List.mem_cons_of_mem _ hy)
theorem pB_sz : ∀ (r : List (Int × Int)) (a : Int) (n : Nat), Sz n a → (∀ x ∈ r, Sz 110 x.2) → Sz (n + 110 * r.length) (pB r a)
  | [], _, _, h, _ => h
  | x :: r, a, n, h, hx => by
    have := pB_sz r (a * x.2) (n + 110) (sz_mul h (hx x List.mem_cons_self)) fun y hy => hx y (List.mem_cons_of_mem _ hy)
    rw [show n + 110 * (x :: r).length = n + 110 + 110 * r.length by rw [List.length_cons]; omega]
    exact this
theorem lB_dvd : ∀ (r : List (Int × Int)) (a : Int), a ∣ lB r a
  | [], a => Int.dvd_refl _
  | x :: r, a => Int.dvd_trans (lcI_l _ _) (lB_dvd r (lcI a x.2))
theorem lB_mem : ∀ (r : List (Int × Int)) (a : Int), ∀ x ∈ r, x.2 ∣ lB r a
  | [], _, _, h => by cases h
  | y :: r, a, x, h => by
    rcases List.mem_cons.mp h with rfl | h
    · exact Int.dvd_trans (lcI_r _ _) (lB_dvd r (lcI a x.2))
    · exact lB_mem r (lcI a y.2) x h
theorem lB_pos : ∀ (r : List (Int × Int)) (a : Int), 0 < a → (∀ x ∈ r, 0 < x.2) → 0 < lB r a
  | [], _, h, _ => h
  | x :: r, a, h, hx => lB_pos r (lcI a x.2) (lcI_pos h (hx x List.mem_cons_self)) fun y hy => hx y (List.mem_cons_of_mem _ hy)
theorem lB_sz : ∀ (r : List (Int × Int)) (a : Int) (n : Nat), 0 < a → Sz n a → (∀ x ∈ r, 0 < x.2 ∧ Sz 110 x.2) → Sz (n + 110 * r.length) (lB r a)
  | [], _, _, _, h, _ => h
  | x :: r, a, n, h0, h, hx => by
    have hx0 := hx x List.mem_cons_self
    have := lB_sz r (lcI a x.2) (n + 110) (lcI_pos h0 hx0.1) (lcI_sz h0 hx0.1 h hx0.2) fun y hy => hx y (List.mem_cons_of_mem _ hy)
    rw [show n + 110 * (x :: r).length = n + 110 + 110 * r.length by rw [List.length_cons]; omega]
    exact this
theorem lB_pB : ∀ (r : List (Int × Int)) (a b : Int), a ∣ b → lB r a ∣ pB r b
  | [], _, _, h => h
  | x :: r, a, b, h => lB_pB r _ _ (lcI_dvd (Int.dvd_trans h (Int.dvd_mul_right _ _)) (Int.dvd_mul_left _ _))
/-- all the tops over one common bottom -/
def tps (C : Int) (xs : List (Int × Int)) : List Int := xs.map fun x => x.1 * C.fdiv x.2
theorem fdiv_of {y q : Int} (hy : y ≠ 0) : (y * q).fdiv y = q := by rw [Int.mul_comm]; exact Int.mul_fdiv_cancel _ hy
theorem tps_mul (k : Int) : ∀ (xs : List (Int × Int)) (L : Int), (∀ x ∈ xs, x.2 ∣ L ∧ 0 < x.2) → (tps (L * k) xs).sum = (tps L xs).sum * k
  | [], _, _ => by simp [nthR_eq, setR_eq, atC_eq, tps]
  | x :: xs, L, h => by
    obtain ⟨⟨q, rfl⟩, h0⟩ := h x List.mem_cons_self
    have ih := tps_mul k xs (x.2 * q) fun y hy => h y (List.mem_cons_of_mem _ hy)
    unfold tps at ih ⊢
    rw [List.map_cons, List.map_cons, List.sum_cons, List.sum_cons, ih, Int.mul_assoc x.2 q k, fdiv_of (by omega), fdiv_of (by omega), Int.add_mul, ← Int.mul_assoc]
theorem seq_asg {m : M} {n : MS} {i : Nat} {env e : Mi.Env} {s s1 : Sto} {v : PV} (h : m env s = .ok v s1) (he : setR env i (some v) = e) : sSeq (sAsg m (gNm i)) n env s = n e s1 := by
  rw [sSeq_nx (sAsg_nm h), he]
def Gd (x : Int × Int) : Prop := Red x.1 x.2 ∧ Sz 110 x.1 ∧ Sz 110 x.2
theorem ints_map : ∀ l : List Int, intsOf (l.map PV.int) = some l
  | [] => rfl
  | a :: l => by
    show (match intsOf (l.map PV.int) with | some is => some (a :: is) | none => none) = _
    rw [ints_map l]
theorem low_top {C : Int} {x : Int × Int} (hx : Red x.1 x.2) (hd : x.2 ∣ C) (hC : 0 < C) : low (x.1 * C.fdiv x.2) C = pv x := by
  obtain ⟨q, rfl⟩ := hd
  have h0 := hx.1
  have hq : 0 < q := by
    rcases Int.lt_trichotomy q 0 with h | h | h
    · have := Int.mul_neg_of_pos_of_neg h0 h; omega
    · rw [h] at hC; omega
    · exact h
  rw [fdiv_of (by omega), Int.mul_comm x.1 q, Int.mul_comm x.2 q, low_mul q _ _ hq h0, hx.2]
  rfl
theorem pv_eq {x m : Int × Int} (hx : Red x.1 x.2) (hm : Red m.1 m.2) (h : x.1 * m.2 = m.1 * x.2) : pv x = pv m := by
  have e := low_eq hx.1 hm.1 h
  rw [hx.2, hm.2] at e
  exact e
theorem top_le {C : Int} {x m : Int × Int} (hC : 0 < C) (hx : x.2 ∣ C) (hm : m.2 ∣ C) (x0 : 0 < x.2) (m0 : 0 < m.2) (h : x.1 * C.fdiv x.2 ≤ m.1 * C.fdiv m.2) : x.1 * m.2 ≤ m.1 * x.2 := by
  obtain ⟨q, hq⟩ := hx
  obtain ⟨p, hp⟩ := hm
  have e1 : C.fdiv x.2 = q := by rw [hq]; exact fdiv_of (by omega)
  have e2 : C.fdiv m.2 = p := by rw [hp]; exact fdiv_of (by omega)
  rw [e1, e2] at h
  have h2 := Int.mul_le_mul_of_nonneg_right h (Int.le_of_lt (Int.mul_pos x0 m0))
  have e3 : x.1 * q * (x.2 * m.2) = x.1 * m.2 * C := by rw [hq]; ac_rfl
  have e4 : m.1 * p * (x.2 * m.2) = m.1 * x.2 * C := by rw [hp]; ac_rfl
  rw [e3, e4] at h2
  exact Int.le_of_mul_le_mul_right h2 hC
section
variable {xs : List (Int × Int)} (h : ∀ x ∈ xs, Gd x)
include h
theorem C_pos : 0 < pB xs 1 := pB_pos xs 1 (by decide) fun x hx => (h x hx).1.1
theorem L_pos : 0 < lB xs 1 := lB_pos xs 1 (by decide) fun x hx => (h x hx).1.1
theorem C_sz (hl : xs.length ≤ 10) : Sz 1101 (pB xs 1) := sz_le (pB_sz xs 1 1 (by unfold Sz; decide) fun x hx => (h x hx).2.2) (by omega)
theorem L_sz (hl : xs.length ≤ 10) : Sz 1101 (lB xs 1) := sz_le (lB_sz xs 1 1 (by decide) (by unfold Sz; decide) fun x hx => ⟨(h x hx).1.1, (h x hx).2.2⟩) (by omega)
theorem min_eq {t : Int} (ht : t ∈ tps (pB xs 1) xs) (hm : ∀ y ∈ tps (pB xs 1) xs, t ≤ y) {m : Int × Int} (e : xs.foldl leF none = some m) : low t (pB xs 1) = pv m := by
  obtain ⟨x, hx, rfl⟩ := List.mem_map.mp ht
  have hC := C_pos h
  rw [low_top (h x hx).1 (pB_mem xs 1 x hx) hC]
  obtain ⟨m0, hmem, hle, _⟩ := leF_least xs none m (fun x hx => (h x hx).1.1) (fun _ z => by cases z) e
  have mx : m ∈ xs := hmem.elim id fun z => by cases z
  have h1 := hle x hx
  have h2 := top_le hC (pB_mem xs 1 x hx) (pB_mem xs 1 m mx) (h x hx).1.1 m0 (hm _ (List.mem_map.mpr ⟨m, mx, rfl⟩))
  exact pv_eq (h x hx).1 (h m mx).1 (by omega)
theorem max_eq {t : Int} (ht : t ∈ tps (pB xs 1) xs) (hm : ∀ y ∈ tps (pB xs 1) xs, y ≤ t) {m : Int × Int} (e : xs.foldl gF none = some m) : low t (pB xs 1) = pv m := by
  obtain ⟨x, hx, rfl⟩ := List.mem_map.mp ht
  have hC := C_pos h
  rw [low_top (h x hx).1 (pB_mem xs 1 x hx) hC]
  obtain ⟨m0, mx, hle⟩ := gF_greatest xs m (fun x hx => (h x hx).1.1) e
  have h1 := hle x hx
  have h2 := top_le hC (pB_mem xs 1 m mx) (pB_mem xs 1 x hx) m0 (h x hx).1.1 (hm _ (List.mem_map.mpr ⟨m, mx, rfl⟩))
  exact pv_eq (h x hx).1 (h m mx).1 (by omega)
theorem sum_eq : low (tps (lB xs 1) xs).sum (lB xs 1) = low (tps (pB xs 1) xs).sum (pB xs 1) := by
  have hL := L_pos h
  have hC := C_pos h
  obtain ⟨k, hk⟩ := lB_pB xs 1 1 (Int.dvd_refl _)
  have k0 : 0 < k := by
    rw [hk] at hC
    rcases Int.lt_trichotomy k 0 with q | q | q
    · have := Int.mul_neg_of_pos_of_neg hL q; omega
    · rw [q] at hC; omega
    · exact q
  rw [hk, tps_mul k xs (lB xs 1) fun x hx => ⟨lB_mem xs 1 x hx, (h x hx).1.1⟩, Int.mul_comm _ k, Int.mul_comm (lB xs 1) k, low_mul k _ _ k0 hL]
omit h in
theorem fdiv_abs {C y : Int} (hd : y ∣ C) (y0 : 0 < y) : (C.fdiv y).natAbs ≤ C.natAbs := by
  obtain ⟨q, rfl⟩ := hd
  rw [fdiv_of (by omega), Int.natAbs_mul]
  exact Nat.le_mul_of_pos_left _ (by omega)
omit h in
theorem cDiv_of {C y : Int} (y0 : 0 < y) (z : Sz 110 y) : cDiv C y = true := by
  obtain ⟨k, rfl⟩ := Int.eq_ofNat_of_zero_le (Int.le_of_lt y0)
  have : k ≠ 0 := by omega
  have lk : k.log2 < 110 := sz_log z (by decide)
  show (bif Nat.beq k 0 then false else Nat.ble (k.log2 + 1) 9000) = true
  cases k with
  | zero => exact absurd rfl this
  | succ k => exact Nat.ble_eq_true_of_le (by omega)
omit h in
theorem top_sz {C : Int} {x : Int × Int} (hC : Sz 1101 C) (hd : x.2 ∣ C) (hx : Gd x) : Sz 1211 (x.1 * C.fdiv x.2) ∧ cMul x.1 (C.fdiv x.2) = true := by
  have q : Sz 1101 (C.fdiv x.2) := Nat.lt_of_le_of_lt (fdiv_abs hd hx.1.1) hC
  exact ⟨sz_mul hx.2.1 q, cMul_of hx.2.1 q (by decide) (by decide) (by decide)⟩
end
theorem pvs_at (xs : List (Int × Int)) (f : Int × Int → PV) (i : Nat) (hi : i < (xs.map f).length) : (xs.map f)[i] = f (xs[i]'(by simpa using hi)) := by simp
/-! ### whole, sum_of -/
theorem whole_ok (xs : List (Int × Int)) (h : ∀ x ∈ xs, Gd x) (hl : xs.length ≤ 10) (s : Sto) :
    ar 1 r_whole [.lst (xs.map (rep false))] s = .ok (.tup [.lst ((tps (lB xs 1) xs).map .int), .int (lB xs 1)]) s := by
  let V : PV := .lst (xs.map (rep false))
  obtain ⟨env', hL, a, o2, rfl, ha, -, -⟩ := for_inv (J := fun i _ => nthC (xs.map (rep false)) i) (g := gNm 2) (body := sAsg (mCall gLcm (mCons (mVar 1) (mCons (mBin gIx (mVar 2) (mC (.int 1))) mNil))) (gNm 1)) (s := s) (L := xs.map (rep false)) (fun i => nthC_eq _ _)
    (fun i env => ∃ a o2, env = [some V, some (.int a), o2] ∧ lB (xs.drop i) a = lB xs 1 ∧ 0 < a ∧ Sz (1 + 110 * i) a) (fun i hi env hE => by
      obtain ⟨a, o2, rfl, ha, a0, az⟩ := hE
      have hi' : i < xs.length := by simpa using hi
      have hx := h _ (List.getElem_mem hi')
      have z2 := lcI_sz a0 hx.1.1 az hx.2.2
      have l1 : (max 1 a.natAbs).log2 < 13000 := by
        have : Sz (1 + 110 * i) (max 1 a.natAbs : Nat) := by
          unfold Sz at az ⊢
          have : 0 < 2 ^ (110 * i) := Nat.two_pow_pos _
          rw [Nat.pow_add]
          rw [Nat.pow_add] at az
          omega
        have := sz_log this (by omega)
        rw [Int.natAbs_natCast] at this
        omega
      have l2 : (max a.natAbs xs[i].2.natAbs).log2 < 13000 := by
        have : Sz (1 + 110 * i + 110) (max a.natAbs xs[i].2.natAbs : Nat) := by
          have y1 := sz_le az (show 1 + 110 * i ≤ 1 + 110 * i + 110 by omega)
          have y2 := sz_le hx.2.2 (show 110 ≤ 1 + 110 * i + 110 by omega)
          unfold Sz at y1 y2 ⊢
          omega
        have := sz_log this (by omega)
        rw [Int.natAbs_natCast] at this
        omega
      have ok : okL a xs[i].2 = true := by
        unfold okL
        rw [Bool.and_eq_true]
        exact ⟨Nat.ble_eq_true_of_le l1, Nat.ble_eq_true_of_le l2⟩
      refine ⟨[some V, some (.int a), some (rep false xs[i])], [some V, some (.int (lcI a xs[i].2)), some (rep false xs[i])], by simp [nthR_eq, setR_eq, atC_eq, gNm], ?_, lcI a xs[i].2, some (rep false xs[i]), rfl, ?_, lcI_pos a0 hx.1.1, z2⟩
      · simp [nthR_eq, setR_eq, atC_eq, sAsg, mCall, mCons, mVar, mBin, mC, mNil, gIx, rep, getQ, getF, atI, ixN, R.bind, R.fl, gLcm, ok, gNm, lcI]
      · rw [List.drop_eq_getElem_cons hi'] at ha
        exact ha) xs.length 0 100000 [some V, some (.int 1), none] (by simp) (by omega) ⟨1, none, rfl, rfl, by decide, by unfold Sz; decide⟩
  have ha : a = lB xs 1 := by
    rw [List.length_map, List.drop_length] at ha
    exact ha
  subst ha
  have hw : sFor 100000 (iLst (mVar 0)) (gNm 2) (sAsg (mCall gLcm (mCons (mVar 1) (mCons (mBin gIx (mVar 2) (mC (.int 1))) mNil))) (gNm 1)) [some V, some (.int 1), none] s = .nx [some V, some (.int (lB xs 1)), o2] s := sFor_env (J := fun i _ => nthC (xs.map (rep false)) i) rfl hL
  have ht : mLc 100000 false (iLst (mVar 0)) [2] (gNm 2) mYes (mBin (gMul false) (mBin gIx (mVar 2) (mC (.int 0))) (mBin gDiv (mVar 1) (mBin gIx (mVar 2) (mC (.int 1))))) [some V, some (.int (lB xs 1)), o2] s = .ok (.lst ((tps (lB xs 1) xs).map .int)) s := by
    refine mLc_vals (J := fun i _ => nthC (xs.map (rep false)) i) (L := xs.map (rep false)) rfl (fun i => nthC_eq _ _) (by simp [nthR_eq, setR_eq, atC_eq, tps]) (by simp; omega) fun i hi h2 => ?_
    have hi' : i < xs.length := by simpa using hi
    have hx := h _ (List.getElem_mem hi')
    obtain ⟨_, m1⟩ := top_sz (L_sz h hl) (lB_mem xs 1 _ (List.getElem_mem hi')) hx
    have d1 := cDiv_of (C := lB xs 1) hx.1.1 hx.2.2
    refine ⟨[some V, some (.int (lB xs 1)), some (rep false xs[i])], by simp [nthR_eq, setR_eq, atC_eq, wipeE, gNm], ?_⟩
    simp [nthR_eq, setR_eq, atC_eq, mBin, mVar, mC, gIx, rep, getQ, getF, atI, ixN, R.bind, gDiv, gI, d1, gMul, m1, tps]
  show Mi.ret (b_whole [some V, none, none] s) = _
  unfold b_whole
  rw [seq_asg (e := [some V, some (.int 1), none]) (v := .int 1) (s1 := s) rfl rfl, sSeq_nx hw]
  have k2 : Nat.ble 2 sizeLine = true := rfl
  simp [nthR_eq, setR_eq, atC_eq, sRet, mTup, mCons, ht, mVar, mNil, R.bind, R.fl, k2, Mi.ret]
theorem sums_sz : ∀ (l : List Int) (n : Nat), (∀ x ∈ l, Sz n x) → Sz (n + l.length) l.sum
  | [], n, _ => by unfold Sz; simp; exact Nat.two_pow_pos _
  | a :: l, n, h => by
    have h1 := sums_sz l n fun x hx => h x (List.mem_cons_of_mem _ hx)
    have h2 := sz_le (h a List.mem_cons_self) (show n ≤ n + l.length by omega)
    rw [List.sum_cons, List.length_cons]
    exact sz_add h2 h1
theorem sum_of_ok (xs : List (Int × Int)) (h : ∀ x ∈ xs, Gd x) (hl : xs.length ≤ 10) (s : Sto) : ar 1 r_sum_of [.lst (xs.map (rep false))] s = .ok (low (tps (lB xs 1) xs).sum (lB xs 1)) s := by
  have hw := whole_ok xs h hl s
  have hL := L_pos h
  have f := fr2 (tps (lB xs 1) xs).sum (lB xs 1) s (by omega) (sz_le (L_sz h hl) (by decide))
  show Mi.ret (b_sum_of [some (.lst (xs.map (rep false))), none, none] s) = _
  simp [nthR_eq, setR_eq, atC_eq, b_sum_of, sSeq, sAsg, mCall, mCons, mVar, mNil, R.bind, R.fl, hw, gTp, gC, gN0, gNm, sRet, gSum, getF, ints_map, f, Mi.ret]
/-! ### _law_lists of a tuple of pairs -/
theorem lists_int (l : Nat) (i : Int) (s : Sto) : ar 1 (r__law_lists (l + 1)) [.int i] s = .ok (.int i) s := rfl
theorem lists_tup (l : Nat) (vs ys : List PV) (s : Sto) (hl : ys.length = vs.length) (hz : vs.length < 1000) (h : ∀ (i : Nat) (h1 : i < vs.length) (h2 : i < ys.length), ar 1 (r__law_lists l) [vs[i]] s = .ok ys[i] s) :
    ar 1 (r__law_lists (l + 1)) [.tup vs] s = .ok (.lst ys) s := by
  have e : mLc 100000 false (iTup (mVar 0)) [1] (gNm 1) mYes (mCall (ar 1 (r__law_lists l)) (mCons (mVar 1) mNil)) [some (.tup vs), none] s = .ok (.lst ys) s :=
    mLc_vals (J := fun i _ => nthC vs i) (L := vs) rfl (fun i => nthC_eq _ _) hl hz fun i hi h2 => ⟨[some (.tup vs), some vs[i]], by simp [nthR_eq, setR_eq, atC_eq, wipeE, gNm], by
      have := h i hi h2
      simp [nthR_eq, setR_eq, atC_eq, mCall, mCons, mVar, mNil, R.bind, this]⟩
  show Mi.ret (b__law_lists (r__law_lists l) [some (.tup vs), none] s) = _
  have c1 : mT (mIsi [.list, .tuple] (mVar 0)) [some (.tup vs), none] s = .ok true s := rfl
  unfold b__law_lists
  unfold sRet mIf
  rw [c1]
  simp only [R.bind, cond_true]
  rw [e]
  rfl
theorem lists_ok (xs : List (Int × Int)) (hl : xs.length ≤ 10) (s : Sto) : ar 1 (r__law_lists 12) [.tup (xs.map pv)] s = .ok (.lst (xs.map (rep false))) s := by
  refine lists_tup 11 _ _ s (by simp) (by simp; omega) fun i h1 h2 => ?_
  rw [pvs_at, pvs_at]
  refine lists_tup 10 _ _ s rfl (by simp) fun j h3 h4 => ?_
  have : j = 0 ∨ j = 1 := by simp at h3; omega
  rcases this with rfl | rfl <;> rfl
/-! ### many -/
theorem ne_nil (x : Int × Int) (r : List (Int × Int)) (hl : (x :: r).length ≤ 10) (s : Sto) : gNe (.lst ((x :: r).map pv)) (.lst []) s = .ok (.bl true) s := by
  have ds : ∀ l : List (Int × Int), ∃ d, toDs s (l.map pv) = some d ∧ PyData.canLayAll0 d = true ∧ PyData.depthAll d ≤ 2 := fun l => by
    induction l with
    | nil => exact ⟨[], rfl, by simp [nthR_eq, setR_eq, atC_eq, PyData.canLayAll0], by simp [nthR_eq, setR_eq, atC_eq, PyData.depthAll]⟩
    | cons y l ih =>
      obtain ⟨d, h1, h2, h3⟩ := ih
      refine ⟨.tuple [.int y.1, .int y.2] :: d, ?_, ?_, ?_⟩
      · simp [nthR_eq, setR_eq, atC_eq, toDs, toD, pv, h1]
      · simp [nthR_eq, setR_eq, atC_eq, PyData.canLayAll0, PyData.canLay0, h2]
      · simp [nthR_eq, setR_eq, atC_eq, PyData.depthAll, PyData.depth]; omega
  obtain ⟨d, h1, h2, h3⟩ := ds r
  have e1 : toD s (.lst ((x :: r).map pv)) = some (.list (.tuple [.int x.1, .int x.2] :: d)) := by simp [nthR_eq, setR_eq, atC_eq, toDs, toD, pv, h1]
  have e2 : toD s (.lst []) = some (.list []) := rfl
  have k1 : SeqAt.shaped (.list (.tuple [.int x.1, .int x.2] :: d)) = true := by
    simp [nthR_eq, setR_eq, atC_eq, SeqAt.shaped, PyData.canLayAll0, PyData.canLay0, h2, PyData.depthAll, PyData.depth]
    omega
  have k2 : SeqAt.shaped (.list []) = true := by decide +kernel
  show gEqD not (.lst ((x :: r).map pv)) (.lst []) s = _
  unfold gEqD
  rw [e1, e2]
  simp only [k1, k2]
  simp [nthR_eq, setR_eq, atC_eq, PyData.eqv, PyData.eqvAll]
theorem alk_pvs (s : Sto) (l : Nat) (xs : List (Int × Int)) (hl : xs.length ≤ 10) : alk s (l + 3) (.tup (xs.map pv)) (.tup (xs.map pv)) := alk_tup (fun x hx => by
  obtain ⟨y, _, rfl⟩ := List.mem_map.mp hx
  exact alk_two) (by simp; omega)
theorem tops_cons (C : Int) (x : Int × Int) (r : List (Int × Int)) : ∃ i is, tps C (x :: r) = i :: is := ⟨_, _, rfl⟩
section
variable {xs : List (Int × Int)}
theorem prod_ok (h : ∀ x ∈ xs, Gd x) (hl : xs.length ≤ 10) (s : Sto) : ∃ o2 o3, sFor 100000 (iLst (mVar 0)) (gTp 2 (gC (gNm 2) (gC (gNm 3) gN0))) (sAsg (mBin (gMul false) (mVar 1) (mVar 3)) (gNm 1)) [some (.lst (xs.map pv)), some (.int 1), none, none, none, none, none, none] s = .nx [some (.lst (xs.map pv)), some (.int (pB xs 1)), o2, o3, none, none, none, none] s := by
  obtain ⟨env', hL, a, o2, o3, rfl, ha, -⟩ := for_inv (J := fun i _ => nthC (xs.map pv) i) (g := gTp 2 (gC (gNm 2) (gC (gNm 3) gN0))) (body := sAsg (mBin (gMul false) (mVar 1) (mVar 3)) (gNm 1)) (s := s) (L := xs.map pv) (fun i => nthC_eq _ _)
    (fun i env => ∃ a o2 o3, env = [some (.lst (xs.map pv)), some (.int a), o2, o3, none, none, none, none] ∧ pB (xs.drop i) a = pB xs 1 ∧ Sz (1 + 110 * i) a) (fun i hi env hE => by
      obtain ⟨a, o2, o3, rfl, ha, az⟩ := hE
      have hi' : i < xs.length := by simpa using hi
      have hx := h _ (List.getElem_mem hi')
      have m1 : cMul a xs[i].2 = true := cMul_of az hx.2.2 (by omega) (by decide) (by omega)
      have z2 : Sz (1 + 110 * (i + 1)) (a * xs[i].2) := sz_le (sz_mul az hx.2.2) (by omega)
      refine ⟨[some (.lst (xs.map pv)), some (.int a), some (.int xs[i].1), some (.int xs[i].2), none, none, none, none], [some (.lst (xs.map pv)), some (.int (a * xs[i].2)), some (.int xs[i].1), some (.int xs[i].2), none, none, none, none], by simp [nthR_eq, setR_eq, atC_eq, pv, gTp, gC, gN0, gNm, R.bind], by simp [nthR_eq, setR_eq, atC_eq, sAsg, mBin, mVar, R.bind, R.fl, gMul, m1, gNm], _, _, _, rfl, ?_, z2⟩
      rw [List.drop_eq_getElem_cons hi'] at ha
      exact ha) xs.length 0 100000 [some (.lst (xs.map pv)), some (.int 1), none, none, none, none, none, none] (by simp) (by omega) ⟨1, none, none, rfl, rfl, by unfold Sz; decide⟩
  have ha : a = pB xs 1 := by
    rw [List.length_map, List.drop_length] at ha
    exact ha
  subst ha
  exact ⟨o2, o3, sFor_env (J := fun i _ => nthC (xs.map pv) i) rfl hL⟩
theorem tops_ok (h : ∀ x ∈ xs, Gd x) (hl : xs.length ≤ 10) (s : Sto) (o2 o3 : Option PV) : mLc 100000 false (iLst (mVar 0)) [2, 3] (gTp 2 (gC (gNm 2) (gC (gNm 3) gN0))) mYes (mBin (gMul false) (mVar 2) (mBin gDiv (mVar 1) (mVar 3))) [some (.lst (xs.map pv)), some (.int (pB xs 1)), o2, o3, none, none, none, none] s = .ok (.lst ((tps (pB xs 1) xs).map .int)) s := by
  refine mLc_vals (J := fun i _ => nthC (xs.map pv) i) (L := xs.map pv) rfl (fun i => nthC_eq _ _) (by simp [nthR_eq, setR_eq, atC_eq, tps]) (by simp; omega) fun i hi h2 => ?_
  have hi' : i < xs.length := by simpa using hi
  have hx := h _ (List.getElem_mem hi')
  obtain ⟨_, m1⟩ := top_sz (C_sz h hl) (pB_mem xs 1 _ (List.getElem_mem hi')) hx
  have d1 := cDiv_of (C := pB xs 1) hx.1.1 hx.2.2
  refine ⟨[some (.lst (xs.map pv)), some (.int (pB xs 1)), some (.int xs[i].1), some (.int xs[i].2), none, none, none, none], by simp [nthR_eq, setR_eq, atC_eq, wipeE, pv, gTp, gC, gN0, gNm, R.bind], ?_⟩
  simp [nthR_eq, setR_eq, atC_eq, mBin, mVar, R.bind, gDiv, gI, d1, gMul, m1, tps]
/-- what the calls give: m, M, S are the least, the greatest, the sum -/
structure Vals (xs : List (Int × Int)) (m M : Int × Int) (S : PV) (t : List Int) : Prop where
  low : ∃ i is, t = i :: is ∧ (∀ s, ar 2 r__law_low [.int (imin i is), .int (pB xs 1)] s = .ok (pv m) s) ∧ (∀ s, ar 2 r__law_low [.int (imax i is), .int (pB xs 1)] s = .ok (pv M) s)
  sm : ∀ s, ar 2 r__law_low [.int t.sum, .int (pB xs 1)] s = .ok S s
  l1 : ∀ s, ar 1 r_least [.tup (xs.map pv)] s = .ok (pv m) s
  l2 : ∀ s, ar 1 r_least [.lst (xs.map (rep false))] s = .ok (pv m) s
  g1 : ∀ s, ar 1 r_greatest [.tup (xs.map pv)] s = .ok (pv M) s
  g2 : ∀ s, ar 1 r_greatest [.lst (xs.map pv)] s = .ok (pv M) s
  so : ∀ s, ar 1 r_sum_of [.lst (xs.map (rep false))] s = .ok S s
  s1 : ∀ s, ar 2 (r__law_same 12) [.lst [pv m, pv M, S], .lst [pv m, pv M, S]] s = .ok (.bl true) s
  s2 : ∀ s, ar 2 (r__law_same 12) [.lst [.tup (xs.map pv), pv m, pv M], .lst [.tup (xs.map pv), pv m, pv M]] s = .ok (.bl true) s
theorem vals_ok (hne : xs ≠ []) (hl : xs.length ≤ 10) (h : ∀ x ∈ xs, Gd x) : ∃ m M S, Vals xs m M S (tps (pB xs 1) xs) := by
  have hC0 := C_pos h
  have hCz := C_sz h hl
  have cm : ∀ x ∈ xs, ∀ y ∈ xs, cMul x.1 y.2 = true := fun x hx y hy => cMul_of (h x hx).2.1 (h y hy).2.2 (by decide) (by decide) (by decide)
  obtain ⟨m, hm⟩ : ∃ m, xs.foldl leF none = some m := by cases xs with
    | nil => exact absurd rfl hne
    | cons x r => exact leF_some r x
  obtain ⟨M, hM⟩ : ∃ m, xs.foldl gF none = some m := by cases xs with
    | nil => exact absurd rfl hne
    | cons x r => exact gF_some r x
  obtain ⟨i, is, ht⟩ : ∃ i is, tps (pB xs 1) xs = i :: is := by cases xs with
    | nil => exact absurd rfl hne
    | cons x r => exact ⟨_, _, rfl⟩
  have hmin : low (imin i is) (pB xs 1) = pv m := by
    obtain ⟨q1, q2, q3⟩ := imin_ok is i
    refine min_eq h (by rw [ht]; rcases q1 with q1 | q1 <;> simp [nthR_eq, setR_eq, atC_eq, q1]) (fun y hy => ?_) hm
    rw [ht] at hy
    rcases List.mem_cons.mp hy with rfl | hy
    · exact q2
    · exact q3 y hy
  have hmax : low (imax i is) (pB xs 1) = pv M := by
    obtain ⟨q1, q2, q3⟩ := imax_ok is i
    refine max_eq h (by rw [ht]; rcases q1 with q1 | q1 <;> simp [nthR_eq, setR_eq, atC_eq, q1]) (fun y hy => ?_) hM
    rw [ht] at hy
    rcases List.mem_cons.mp hy with rfl | hy
    · exact q2
    · exact q3 y hy
  have lw : ∀ t s, ar 2 r__law_low [.int t, .int (pB xs 1)] s = .ok (low t (pB xs 1)) s := fun t s => low2 t (pB xs 1) s (by omega) (sz_le hCz (by decide))
  refine ⟨m, M, low (tps (pB xs 1) xs).sum (pB xs 1), ⟨⟨i, is, ht, fun s => by rw [lw, hmin], fun s => by rw [lw, hmax]⟩, fun s => lw _ s, fun s => ?_, fun s => ?_, fun s => ?_, fun s => ?_, fun s => ?_, fun s => ?_, fun s => ?_⟩⟩
  · have := least_ok true (.tup (xs.map pv)) s (fun i _ => nthC (xs.map pv) i) xs rfl (fun i => nthC_eq _ _) cm (by omega)
    rw [hm] at this
    exact this
  · have := least_ok false (.lst (xs.map (rep false))) s (fun i _ => nthC (xs.map (rep false)) i) xs rfl (fun i => nthC_eq _ _) cm (by omega)
    rw [hm] at this
    exact this
  · have := greatest_ok true (.tup (xs.map pv)) s (fun i _ => nthC (xs.map pv) i) xs rfl (fun i => nthC_eq _ _) cm (by omega)
    rw [hM] at this
    exact this
  · have := greatest_ok true (.lst (xs.map pv)) s (fun i _ => nthC (xs.map pv) i) xs rfl (fun i => nthC_eq _ _) cm (by omega)
    rw [hM] at this
    exact this
  · rw [← sum_eq h]
    exact sum_of_ok xs h hl s
  · refine same_ok 12 (.lst [pv m, pv M, low (tps (pB xs 1) xs).sum (pB xs 1)]) (.lst [pv m, pv M, low (tps (pB xs 1) xs).sum (pB xs 1)]) s (alk_lst (xs := [pv m, pv M, low (tps (pB xs 1) xs).sum (pB xs 1)]) (fun x hx => ?_) (by simp))
    simp only [List.mem_cons, List.not_mem_nil, or_false] at hx
    rcases hx with rfl | rfl | rfl
    · exact alk_two
    · exact alk_two
    · exact alk_low
  · refine same_ok 12 (.lst [.tup (xs.map pv), pv m, pv M]) (.lst [.tup (xs.map pv), pv m, pv M]) s (alk_lst (xs := [.tup (xs.map pv), pv m, pv M]) (fun x hx => ?_) (by simp))
    simp only [List.mem_cons, List.not_mem_nil, or_false] at hx
    rcases hx with rfl | rfl | rfl
    · exact alk_pvs s 8 xs hl
    · exact alk_two
    · exact alk_two
end
theorem cut2 (a b c : PV) : cutP [a, b, c] none (some 2) = [a, b] := by simp [nthR_eq, setR_eq, atC_eq, cutP, HT.sIx]
theorem many_run (V K Lf : PV) (vs ts : List PV) (t : List Int) (C : Int) (o2 o3 : Option PV) (m M S : PV) (s : Sto) (i : Int) (is : List Int) (hV : V = .lst vs) (hK : K = .tup vs) (hts : ts = t.map .int)
    (hne : gNe V (.lst []) s = .ok (.bl true) s) (ht : t = i :: is)
    (hw : sFor 100000 (iLst (mVar 0)) (gTp 2 (gC (gNm 2) (gC (gNm 3) gN0))) (sAsg (mBin (gMul false) (mVar 1) (mVar 3)) (gNm 1)) [some V, some (.int 1), none, none, none, none, none, none] s = .nx [some V, some (.int C), o2, o3, none, none, none, none] s)
    (htp : mLc 100000 false (iLst (mVar 0)) [2, 3] (gTp 2 (gC (gNm 2) (gC (gNm 3) gN0))) mYes (mBin (gMul false) (mVar 2) (mBin gDiv (mVar 1) (mVar 3))) [some V, some (.int C), o2, o3, none, none, none, none] s = .ok (.lst ts) s)
    (lmin : ar 2 r__law_low [.int (imin i is), .int C] s = .ok m s) (lmax : ar 2 r__law_low [.int (imax i is), .int C] s = .ok M s) (lsum : ar 2 r__law_low [.int t.sum, .int C] s = .ok S s)
    (ll : ar 1 (r__law_lists 12) [K] s = .ok Lf s) (l1 : ar 1 r_least [K] s = .ok m s) (l2 : ar 1 r_least [Lf] s = .ok m s) (g1 : ar 1 r_greatest [K] s = .ok M s) (g2 : ar 1 r_greatest [V] s = .ok M s) (so : ar 1 r_sum_of [Lf] s = .ok S s)
    (s1 : ar 2 (r__law_same 12) [.lst [m, M, S], .lst [m, M, S]] s = .ok (.bl true) s) (s2 : ar 2 (r__law_same 12) [.lst [K, m, M], .lst [K, m, M]] s = .ok (.bl true) s) :
    ar 1 r__law_many_right [V] s = .ok (.bl true) s := by
  have k0 : Nat.ble 0 sizeLine = true := rfl
  have k1 : Nat.ble 1 sizeLine = true := rfl
  have k3 : Nat.ble 3 sizeLine = true := rfl
  have ft : gTuple [V] s = .ok K s := by rw [hV, hK]; rfl
  have fl : gList false [K] s = .ok V s := by rw [hV, hK]; rfl
  have gm : gMin [.lst ts] s = .ok (.int (imin i is)) s := by
    unfold gMin
    simp only [getF, hts, ints_map, ht]
  have gM : gMax [.lst ts] s = .ok (.int (imax i is)) s := by
    unfold gMax
    simp only [getF, hts, ints_map, ht]
  have gs : gSum [.lst ts] s = .ok (.int t.sum) s := by
    unfold gSum
    simp only [getF, hts, ints_map]
  clear hV hK hts ht
  show Mi.ret (b__law_many_right [some V, none, none, none, none, none, none, none] s) = _
  unfold b__law_many_right
  rw [seq_asg (e := [some V, some (.int 1), none, none, none, none, none, none]) (v := .int 1) (s1 := s) rfl rfl, sSeq_nx hw, seq_asg (e := [some V, some (.int C), o2, o3, some (.lst ts), none, none, none]) htp rfl]
  rw [seq_asg (e := [some V, some (.int C), o2, o3, some (.lst ts), some (.lst [.non, .non, .tup [.int 0, .int 1]]), none, none]) (v := .lst [.non, .non, .tup [.int 0, .int 1]]) (s1 := s) rfl rfl]
  have cI : mT (mBin gNe (mVar 0) (mLst mNil)) [some V, some (.int C), o2, o3, some (.lst ts), some (.lst [.non, .non, .tup [.int 0, .int 1]]), none, none] s = .ok true s := by
    simp [nthR_eq, setR_eq, atC_eq, mT, mBin, mVar, mLst, mNil, R.bind, k0, hne, vB]
  rw [sSeq_nx (e := [some V, some (.int C), o2, o3, some (.lst ts), some (.lst [m, M, S]), none, none]) (s1 := s) (by
    rw [sIf_ok cI]
    refine (sAsg_nm (v := .lst [m, M, S]) (s1 := s) ?_).trans (by simp [setR_eq])
    simp [nthR_eq, setR_eq, atC_eq, mLst, mCons, mCall, mVar, mNil, R.bind, gm, gM, gs, lmin, lmax, lsum, k3])]
  rw [seq_asg (e := [some V, some (.int C), o2, o3, some (.lst ts), some (.lst [m, M, S]), some K, none]) (v := K) (s1 := s) (by simp [nthR_eq, setR_eq, atC_eq, mCall, mCons, mVar, mNil, R.bind, ft]) (by simp [setR_eq])]
  rw [seq_asg (e := [some V, some (.int C), o2, o3, some (.lst ts), some (.lst [m, M, S]), some K, some (.lst [m, M, S])]) (v := .lst [m, M, S]) (s1 := s) (by
    simp [nthR_eq, setR_eq, atC_eq, mLst, mCons, mCall, mVar, mNil, R.bind, l1, g1, ll, so, k3]) (by simp [setR_eq])]
  have e1 : mCall (ar 2 (r__law_same 12)) (mCons (mVar 7) (mCons (mVar 5) mNil)) [some V, some (.int C), o2, o3, some (.lst ts), some (.lst [m, M, S]), some K, some (.lst [m, M, S])] s = .ok (.bl true) s := by
    simp [nthR_eq, setR_eq, atC_eq, mCall, mCons, mVar, mNil, R.bind, s1]
  rw [sRet_ok (v := .bl true) (s1 := s) (by
    rw [mAnd_t e1]
    simp [nthR_eq, setR_eq, atC_eq, mCall, mCons, mVar, mNil, mLst, R.bind, ll, l2, fl, g2, k3, ft, mBin, gAdd, getL, k1, mSl, mPN, mPS, mC, getF, cut2, Mi.fresh, s2])]
  rfl
theorem many_ok (xs : List (Int × Int)) (hne : xs ≠ []) (hl : xs.length ≤ 10) (h : ∀ x ∈ xs, Gd x) (s : Sto) : ar 1 r__law_many_right [.lst (xs.map pv)] s = .ok (.bl true) s := by
  obtain ⟨m, M, S, v⟩ := vals_ok hne hl h
  obtain ⟨i, is, ht, h1, h2⟩ := v.low
  obtain ⟨o2, o3, hw⟩ := prod_ok h hl s
  have hn : gNe (.lst (xs.map pv)) (.lst []) s = .ok (.bl true) s := by cases xs with
    | nil => exact absurd rfl hne
    | cons x r => exact ne_nil x r hl s
  exact many_run _ _ _ _ _ (tps (pB xs 1) xs) (pB xs 1) o2 o3 (pv m) (pv M) S s i is rfl rfl rfl hn ht hw (tops_ok h hl s o2 o3) (h1 s) (h2 s) (v.sm s) (lists_ok xs hl s) (v.l1 s) (v.l2 s) (v.g1 s) (v.g2 s) (v.so s) (v.s1 s) (v.s2 s)
/-! ### the cells of the script, the urn -/
theorem bits_lt {z : Int} {n : Nat} (h : Builtin.Int.intBits z ≤ n) : z.natAbs < 2 ^ n := by
  unfold Builtin.Int.intBits at h
  by_cases q : (z == 0) = true
  · have : z = 0 := by simpa using q
    subst this
    exact Nat.two_pow_pos n
  · rw [if_neg q] at h
    have hz : z ≠ 0 := fun e => q (by simp [nthR_eq, setR_eq, atC_eq, e])
    have h0 : z.natAbs ≠ 0 := by omega
    have h1 := Nat.lt_log2_self (n := z.natAbs)
    exact Nat.lt_of_lt_of_le h1 (Nat.pow_le_pow_right (by decide) h)
theorem getR {s : Sto} (b : Bx) : (s ++ [b])[s.length]? = some b := by simp
def BIG : Nat := 2 ^ 1048576
theorem big_pow (k : Nat) : BIG * 2 ^ k = 2 ^ (1048576 + k) := (Nat.pow_add 2 1048576 k).symm
def cellI (J : List PV) : MIt := enuI fun i _ => nthC J i
theorem cellI_eq (J : List PV) (i : Nat) (s : Sto) : cellI J i s = match J[i]? with | some v => some (.tup [.int (i : Nat), v]) | none => none := by
  unfold cellI enuI
  simp only [nthC_eq]
  try (cases J[i]? <;> rfl)
def cellB : MS := (sSeq (sAsg (mBin gMod (mCall gInt (mCons (mVar 3) mNil)) (mVar 1)) (gNm 5)) (sAsg (mBin (gAdd false) (mBin gIx (mVar 2) (mVar 5)) (mBin (gMul false) (mVar 4) (mBin (gAdd false) (mVar 3) (mC (.int 2))))) (gSb (mVar 2) (mVar 5))))
def Bd (B : Nat) (c : Int) : Prop := c.natAbs ≤ B
theorem bd_add {B : Nat} {c z : Int} {i : Nat} (hc : c.natAbs ≤ B * (1 + 64 * i)) (hz : z.natAbs < B) (hi : i ≤ 60) : (c + z * ((i : Nat) + 2)).natAbs ≤ B * (1 + 64 * (i + 1)) := by
  have h1 := Int.natAbs_add_le c (z * ((i : Nat) + 2))
  rw [Int.natAbs_mul] at h1
  have h2 : ((i : Nat) + 2 : Int).natAbs = i + 2 := by omega
  rw [h2] at h1
  have h3 : z.natAbs * (i + 2) ≤ B * 64 := Nat.mul_le_mul (Nat.le_of_lt hz) (by omega)
  have h4 : B * (1 + 64 * (i + 1)) = B * (1 + 64 * i) + B * 64 := by rw [← Nat.mul_add]; congr 1
  omega
theorem bd_up {B : Nat} {c : Int} {i : Nat} (hc : c.natAbs ≤ B * (1 + 64 * i)) : c.natAbs ≤ B * (1 + 64 * (i + 1)) := Nat.le_trans hc (Nat.mul_le_mul (Nat.le_refl _) (by omega))
theorem cell_turn (s : Sto) (m i : Nat) (c0 c1 c2 z : Int) (B : Nat) (a : PV) (o : Option PV) (hs : s[m]? = some (.l [.int c0, .int c1, .int c2])) (hc : cMul z ((i : Nat) + 2) = true)
    (b0 : c0.natAbs ≤ B * (1 + 64 * i)) (b1 : c1.natAbs ≤ B * (1 + 64 * i)) (b2 : c2.natAbs ≤ B * (1 + 64 * i)) (hz : z.natAbs < B) (hi : i ≤ 60) :
    ∃ (d0 d1 d2 : Int) (o' : Option PV), cellB [some a, some (.int 3), some (.box m), some (.int (i : Nat)), some (.int z), o] s = .nx [some a, some (.int 3), some (.box m), some (.int (i : Nat)), some (.int z), o'] (s.set m (.l [.int d0, .int d1, .int d2])) ∧ d0.natAbs ≤ B * (1 + 64 * (i + 1)) ∧ d1.natAbs ≤ B * (1 + 64 * (i + 1)) ∧ d2.natAbs ≤ B * (1 + 64 * (i + 1)) := by
  have e1 : cMod (i : Int) 3 = true := rfl
  have hm : m < s.length := (List.getElem?_eq_some_iff.mp hs).1
  rcases (by omega : ((i : Nat) : Int) % 3 = 0 ∨ ((i : Nat) : Int) % 3 = 1 ∨ ((i : Nat) : Int) % 3 = 2) with e3 | e3 | e3
  · refine ⟨c0 + z * ((i : Nat) + 2), c1, c2, some (.int 0), ?_, bd_add b0 hz hi, bd_up b1, bd_up b2⟩
    unfold cellB
    simp [nthR_eq, setR_eq, atC_eq, sSeq, sAsg, mBin, mVar, mC, mCall, mCons, mNil, gInt, gMod, gI, e1, e3, R.bind, R.fl, gNm, gSb, R.noex, gLen, getQ, getF, lsO, hs, gIx, atI, ixN, gAdd, gMul, hc]
  · refine ⟨c0, c1 + z * ((i : Nat) + 2), c2, some (.int 1), ?_, bd_up b0, bd_add b1 hz hi, bd_up b2⟩
    unfold cellB
    simp [nthR_eq, setR_eq, atC_eq, sSeq, sAsg, mBin, mVar, mC, mCall, mCons, mNil, gInt, gMod, gI, e1, e3, R.bind, R.fl, gNm, gSb, R.noex, gLen, getQ, getF, lsO, hs, gIx, atI, ixN, gAdd, gMul, hc]
  · refine ⟨c0, c1, c2 + z * ((i : Nat) + 2), some (.int 2), ?_, bd_up b0, bd_up b1, bd_add b2 hz hi⟩
    unfold cellB
    simp [nthR_eq, setR_eq, atC_eq, sSeq, sAsg, mBin, mVar, mC, mCall, mCons, mNil, gInt, gMod, gI, e1, e3, R.bind, R.fl, gNm, gSb, R.noex, gLen, getQ, getF, lsO, hs, gIx, atI, ixN, gAdd, gMul, hc]
theorem cell_loop (B : Nat) (hB : ∀ z : Int, z.natAbs < B → ∀ i : Nat, i ≤ 62 → cMul z ((i : Nat) + 2) = true) (L : List Int) (a : PV) : ∀ (k i N m : Nat) (c0 c1 c2 : Int) (s : Sto) (o3 o4 o5 : Option PV), i + k = L.length → L.length ≤ 60 → (∀ z ∈ L, z.natAbs < B) → k + 1 ≤ N → s[m]? = some (.l [.int c0, .int c1, .int c2]) →
    c0.natAbs ≤ B * (1 + 64 * i) → c1.natAbs ≤ B * (1 + 64 * i) → c2.natAbs ≤ B * (1 + 64 * i) →
    ∃ (d0 d1 d2 : Int) (o3' o4' o5' : Option PV), forL (cellI (L.map .int)) (gTp 2 (gC (gNm 3) (gC (gNm 4) gN0))) cellB N i [some a, some (.int 3), some (.box m), o3, o4, o5] s = .nx [some a, some (.int 3), some (.box m), o3', o4', o5'] (s.set m (.l [.int d0, .int d1, .int d2])) ∧ d0.natAbs ≤ B * (1 + 64 * L.length) ∧ d1.natAbs ≤ B * (1 + 64 * L.length) ∧ d2.natAbs ≤ B * (1 + 64 * L.length)
  | 0, i, N, m, c0, c1, c2, s, o3, o4, o5, e, hL, hz, hN, hs, b0, b1, b2 => by
    obtain ⟨N, rfl⟩ : ∃ q, N = q + 1 := ⟨N - 1, by omega⟩
    refine ⟨c0, c1, c2, o3, o4, o5, ?_, by rw [← e]; exact b0, by rw [← e]; exact b1, by rw [← e]; exact b2⟩
    unfold forL
    rw [cellI_eq, List.getElem?_eq_none (by simp; omega)]
    show Fl.nx _ s = Fl.nx _ _
    congr 1
    have hm := (List.getElem?_eq_some_iff.mp hs).1
    apply List.ext_getElem?
    intro j
    by_cases q : m = j
    · subst q; rw [List.getElem?_set_self hm, hs]
    · rw [List.getElem?_set_ne q]
  | k + 1, i, N, m, c0, c1, c2, s, o3, o4, o5, e, hL, hz, hN, hs, b0, b1, b2 => by
    obtain ⟨N, rfl⟩ : ∃ q, N = q + 1 := ⟨N - 1, by omega⟩
    have hi : i < L.length := by omega
    have hzi := hz L[i] (List.getElem_mem hi)
    have hm : m < s.length := (List.getElem?_eq_some_iff.mp hs).1
    have cm : cMul L[i] ((i : Nat) + 2) = true := hB _ hzi i (by omega)
    obtain ⟨d0, d1, d2, o', st, q0, q1, q2⟩ := cell_turn s m i c0 c1 c2 L[i] B a o5 hs cm b0 b1 b2 hzi (by omega)
    obtain ⟨f0, f1, f2, o3', o4', o5', h, r0, r1, r2⟩ := cell_loop B hB L a k (i + 1) N m d0 d1 d2 (s.set m (.l [.int d0, .int d1, .int d2])) (some (.int (i : Nat))) (some (.int L[i])) o' (by omega) hL hz (by omega) (by simp [nthR_eq, setR_eq, atC_eq, hm]) q0 q1 q2
    refine ⟨f0, f1, f2, o3', o4', o5', ?_, r0, r1, r2⟩
    unfold forL
    rw [cellI_eq, List.getElem?_map, List.getElem?_eq_getElem hi]
    simp only [Option.map_some, gTp, gC, gNm, gN0, R.bind, R.noex, R.fl, setR_eq, List.set, List.length_cons, List.length_nil]
    show (match cellB [some a, some (.int 3), some (.box m), some (.int (i : Nat)), some (.int L[i]), o5] s with | _ => _) = _
    rw [st]
    rw [List.set_set] at h
    exact h
theorem first_ok (b : M) (xs : List PV) (env : Mi.Env) (s : Sto) (hm : mSl false (mVar 0) mPN (mPS (mVar 1)) env s = .ok (.lst xs) s) :
    mOrV (mCall (gList true) (mCons (mSl false (mVar 0) mPN (mPS (mVar 1))) mNil)) b env s = bif xs.isEmpty then b env (s ++ [Bx.l xs]) else R.ok (PV.box s.length) (s ++ [Bx.l xs]) := by
  unfold mOrV mCall mCons mNil
  rw [hm]
  have t : tru (s ++ [Bx.l xs]) (PV.box s.length) = some (!xs.isEmpty) := by
    show truB (s ++ [Bx.l xs])[s.length]? = _
    rw [getR]
    rfl
  show (match tru (s ++ [Bx.l xs]) (PV.box s.length) with | some c => bif c then R.ok (PV.box s.length) (s ++ [Bx.l xs]) else b env (s ++ [Bx.l xs]) | none => .bad) = _
  rw [t]
  cases xs.isEmpty <;> rfl
theorem iEnq_lst {m : M} {env : Mi.Env} {s s1 : Sto} {xs : List PV} (h : m env s = .ok (.lst xs) s1) : iEnq (mCons m mNil) env s = .ok (cellI xs) s1 := by
  unfold iEnq mCons
  rw [h]
  rfl
theorem cutA (ns : List PV) : cutP ns none (some 3) = ns.take 3 := by
  unfold cutP
  simp [nthR_eq, setR_eq, atC_eq, HT.sIx]

theorem cutB (ns : List PV) (h : ns.length ≤ 63) : cutP ns (some 3) (some 63) = ns.drop 3 := by
  unfold cutP
  simp [nthR_eq, setR_eq, atC_eq, HT.sIx]
  rw [show min 63 ns.length = ns.length by omega]
  by_cases q : 3 ≤ ns.length
  · rw [show min 3 ns.length = 3 by omega]
    exact List.take_of_length_le (by simp)
  · rw [show min 3 ns.length = ns.length by omega, List.drop_length, List.drop_eq_nil_of_le (by omega)]
    simp
/-- the cells that the urns are made of: v holds them in s', which has grown by one -/
theorem cells_ok (ns : List Int) (hl : ns.length ≤ 63) (hb : ∀ z ∈ ns, Builtin.Int.intBits z ≤ 1048576) (s : Sto) :
    ∃ (cs : List Int) (v : PV) (b : Bx), ar 2 r__law_cells [.fro (ns.map .int), .int 3] s = .ok v (s ++ [b]) ∧ ((v = .box s.length ∧ b = .l (cs.map .int)) ∨ v = .lst (cs.map .int)) ∧ 1 ≤ cs.length ∧ cs.length ≤ 3 ∧ ∀ c ∈ cs, c.natAbs < 2 ^ 1048600 := by
  have big : ∀ z ∈ ns, z.natAbs < BIG := fun z hz => bits_lt (hb z hz)
  have up : ∀ c : Int, c.natAbs ≤ BIG * (1 + 64 * 60) → c.natAbs < 2 ^ 1048600 := fun c hc => by
    have : BIG * (1 + 64 * 60) ≤ BIG * 2 ^ 13 := Nat.mul_le_mul (Nat.le_refl _) (by decide)
    have h2 := big_pow 13
    have h3 : (2 : Nat) ^ (1048576 + 13) < 2 ^ 1048600 := Nat.pow_lt_pow_right (by decide) (by decide)
    exact Nat.lt_of_le_of_lt hc (Nat.lt_of_le_of_lt this (by rw [h2]; exact h3))
  have bup : ∀ c : Int, c.natAbs < BIG → c.natAbs < 2 ^ 1048600 := fun c hc => Nat.lt_trans hc (Nat.pow_lt_pow_right (by decide) (by decide))
  have m1 : mSl false (mVar 0) mPN (mPS (mVar 1)) [some (.fro (ns.map .int)), some (.int 3), none, none, none, none] s = .ok (.lst ((ns.take 3).map .int)) s := by
    show Mi.fresh false (cutP (ns.map .int) none (some 3)) s = _
    rw [cutA, ← List.map_take]
    rfl
  have k1 := first_ok (mLst (mCons (mC (.int 0)) mNil)) ((ns.take 3).map .int) [some (.fro (ns.map .int)), some (.int 3), none, none, none, none] s m1
  have m2 : ∀ (v : PV) (s' : Sto), mSl false (mVar 0) (mPS (mVar 1)) (mPS (mC (.int 63))) [some (.fro (ns.map .int)), some (.int 3), some v, none, none, none] s' = .ok (.lst ((ns.drop 3).map .int)) s' := fun v s' => by
    show Mi.fresh false (cutP (ns.map .int) (some 3) (some 63)) s' = _
    rw [cutB _ (by simpa using hl), ← List.map_drop]
    rfl
  have fin : ∀ (v v' : PV) (s1 s2 : Sto) (o3 o4 o5 : Option PV), mOrV (mCall (gList true) (mCons (mSl false (mVar 0) mPN (mPS (mVar 1))) mNil)) (mLst (mCons (mC (.int 0)) mNil)) [some (.fro (ns.map .int)), some (.int 3), none, none, none, none] s = .ok v s1 →
      forL (cellI ((ns.drop 3).map .int)) (gTp 2 (gC (gNm 3) (gC (gNm 4) gN0))) cellB 100000 0 [some (.fro (ns.map .int)), some (.int 3), some v, none, none, none] s1 = .nx [some (.fro (ns.map .int)), some (.int 3), some v, o3, o4, o5] s2 → ar 2 r__law_cells [.fro (ns.map .int), .int 3] s = .ok v s2 := fun v v' s1 s2 o3 o4 o5 h1 h2 => by
    show Mi.ret (b__law_cells [some (.fro (ns.map .int)), some (.int 3), none, none, none, none] s) = _
    unfold b__law_cells
    rw [seq_asg (e := [some (.fro (ns.map .int)), some (.int 3), some v, none, none, none]) h1 rfl]
    have k3 : sFor 100000 (iEnq (mCons (mSl false (mVar 0) (mPS (mVar 1)) (mPS (mC (.int 63)))) mNil)) (gTp 2 (gC (gNm 3) (gC (gNm 4) gN0))) cellB [some (.fro (ns.map .int)), some (.int 3), some v, none, none, none] s1 = .nx [some (.fro (ns.map .int)), some (.int 3), some v, o3, o4, o5] s2 := by
      unfold sFor
      rw [iEnq_lst (m2 v s1)]
      exact h2
    show Mi.ret (sSeq (sFor 100000 (iEnq (mCons (mSl false (mVar 0) (mPS (mVar 1)) (mPS (mC (.int 63)))) mNil)) (gTp 2 (gC (gNm 3) (gC (gNm 4) gN0))) cellB) (sRet (mVar 2)) [some (.fro (ns.map .int)), some (.int 3), some v, none, none, none] s1) = _
    rw [sSeq_nx k3]
    rfl
  have stop : ∀ env s', ns.drop 3 = [] → forL (cellI ((ns.drop 3).map .int)) (gTp 2 (gC (gNm 3) (gC (gNm 4) gN0))) cellB 100000 0 env s' = .nx env s' := fun env s' e => by rw [e]; rfl
  match ns, hl, big, k1, fin, stop with
  | [], _, _, k1, fin, stop => exact ⟨[0], .lst [.int 0], .l [], fin _ .non _ _ _ _ _ k1 (stop _ _ rfl), .inr rfl, by simp, by simp, fun c hc => by rw [List.mem_singleton.mp hc]; exact Nat.two_pow_pos _⟩
  | [a], _, big, k1, fin, stop => exact ⟨[a], .box s.length, .l [.int a], fin _ .non _ _ _ _ _ k1 (stop _ _ rfl), .inl ⟨rfl, rfl⟩, by simp, by simp, fun c hc => bup c (big c hc)⟩
  | [a, b], _, big, k1, fin, stop => exact ⟨[a, b], .box s.length, .l [.int a, .int b], fin _ .non _ _ _ _ _ k1 (stop _ _ rfl), .inl ⟨rfl, rfl⟩, by simp, by simp, fun c hc => bup c (big c hc)⟩
  | a :: b :: d :: r, hl, big, k1, fin, stop =>
    have hr : r.length ≤ 60 := by simpa using hl
    have hzr : ∀ z ∈ r, z.natAbs < BIG := fun z hz => big z (by simp [nthR_eq, setR_eq, atC_eq, hz])
    have le1 : ∀ z ∈ a :: b :: d :: r, z.natAbs ≤ BIG * (1 + 64 * 0) := fun z hz => by have := big z hz; omega
    have e : (s ++ [Bx.l [PV.int a, .int b, .int d]])[s.length]? = some (Bx.l [.int a, .int b, .int d]) := getR _
    have hB : ∀ z : Int, z.natAbs < BIG → ∀ i : Nat, i ≤ 62 → cMul z ((i : Nat) + 2) = true := fun z hz i hi => cMul_of (a := 1048576) (b := 7) hz (by unfold Sz; rw [show ((i : Nat) + 2 : Int).natAbs = i + 2 by omega]; omega) (by decide) (by decide) (by decide)
    obtain ⟨d0, d1, d2, o3', o4', o5', h, q0, q1, q2⟩ := cell_loop BIG hB r (.fro ((a :: b :: d :: r).map .int)) r.length 0 100000 s.length a b d (s ++ [Bx.l [.int a, .int b, .int d]]) none none none (by omega) hr hzr (by omega) e (le1 a (by simp)) (le1 b (by simp)) (le1 d (by simp))
    have es : (s ++ [Bx.l [PV.int a, .int b, .int d]]).set s.length (Bx.l [.int d0, .int d1, .int d2]) = s ++ [Bx.l [.int d0, .int d1, .int d2]] := by simp
    rw [es] at h
    refine ⟨[d0, d1, d2], .box s.length, .l [.int d0, .int d1, .int d2], fin _ .non _ _ _ _ _ k1 h, .inl ⟨rfl, rfl⟩, by simp, by simp, fun c hc => ?_⟩
    have gr : BIG * (1 + 64 * r.length) ≤ BIG * (1 + 64 * 60) := Nat.mul_le_mul (Nat.le_refl _) (by omega)
    simp only [List.mem_cons, List.not_mem_nil, or_false] at hc
    rcases hc with rfl | rfl | rfl
    · exact up _ (Nat.le_trans q0 gr)
    · exact up _ (Nat.le_trans q1 gr)
    · exact up _ (Nat.le_trans q2 gr)
/-! ### the law -/
theorem at_nat {α : Type} (xs : List α) (k : Nat) (hk : k < xs.length) : atC xs ((k : Nat) : Int) = some xs[k] := by
  rw [atC_eq]
  unfold atI ixN
  rw [if_pos (by omega), if_pos (by omega)]
  simp [nthR_eq, setR_eq, atC_eq, hk]
theorem box_ok (v : PV) (cs : List Int) (k : Nat) (s : Sto) (hv : getQ s v = some (cs.map .int)) (hk : k < cs.length) (hl : cs.length ≤ 3) (hc : ∀ c ∈ cs, c.natAbs < 2 ^ 1048600) :
    ∃ a b : Int, ar 2 r__law_box [v, .int (k : Nat)] s = .ok (PV.box s.length) (s ++ [Bx.l [.int a, .int b, .int 0]]) ∧ 0 ≤ b ∧ b < 2 ^ 62 := by
  have hcz := hc _ (List.getElem_mem hk)
  generalize hcd : cs[k] = c at hcz
  have p18 : cPow 10 18 = true := rfl
  have m1 : cMod c 2305843009213693951 = true := rfl
  have m2 : cMul 39373 (k : Nat) = true := cMul_of (a := 20) (b := 20) (by unfold Sz; decide) (by unfold Sz; omega) (by decide) (by decide) (by decide)
  have ab : (if c < 0 then -c else c).natAbs = c.natAbs := by split <;> omega
  have m3 : ∀ b : Bool, cMul (if c < 0 then -c else c) (if b = true then 1 else 0) = true := fun b => cMul_of (a := 1048600) (b := 2) (by unfold Sz; rw [ab]; exact hcz) (by unfold Sz; cases b <;> decide) (by decide) (by decide) (by decide)
  have h0 := Int.emod_nonneg c (b := 2305843009213693951) (by decide)
  have h1 := Int.emod_lt_of_pos c (b := 2305843009213693951) (by decide)
  have k3 : Nat.ble 3 sizeLine = true := rfl
  refine ⟨(if c < 0 then -c else c) * (if decide ((if c < 0 then -c else c) ≥ 10 ^ (Int.toNat 18)) = true then 1 else 0), c % 2305843009213693951 + 39373 * (k : Nat) + 2325001, ?_, by omega, by omega⟩
  show Mi.ret (b__law_box [some v, some (.int (k : Nat)), none] s) = _
  have g1 : gLen [v] s = .ok (.int (cs.length : Nat)) s := by
    unfold gLen
    simp only [hv, List.length_map]
  have g2 : gIx v (.int (k : Nat)) s = .ok (.int c) s := by
    unfold gIx
    simp only [hv]
    rw [at_nat _ k (by simpa using hk)]
    simp [nthR_eq, setR_eq, atC_eq, hcd]
  unfold b__law_box
  have st : sAsg (mIf (mT (mBin gLt (mVar 1) (mCall gLen (mCons (mVar 0) mNil)))) (mBin gIx (mVar 0) (mVar 1)) mBad) (gNm 2) [some v, some (.int (k : Nat)), none] s = .nx [some v, some (.int (k : Nat)), some (.int c)] s := by
    have t1 : mT (mBin gLt (mVar 1) (mCall gLen (mCons (mVar 0) mNil))) [some v, some (.int (k : Nat)), none] s = .ok true s := by
      show ((gLen [v] s).bind fun y s2 => gLt (.int (k : Nat)) y s2).bind vB = _
      rw [g1]
      simp [nthR_eq, setR_eq, atC_eq, R.bind, gLt, gI0, vB, hk]
    refine sAsg_nm (v := .int c) (s1 := s) ?_
    unfold mIf
    rw [t1]
    exact g2
  rw [sSeq_nx st]
  simp only [sRet, mBox, mCons, mNil, mBin, mCall, mVar, nthR, mC, R.bind, gAbs, gPow, gI, p18, cond_true, gGe, gI0, gInt, gMul, m3, gMod, m1, m2, gAdd, List.length_cons, List.length_nil, k3, R.fl, Mi.ret]
def P2 (x : Int × Int) : Prop := x.2 ≠ 0 ∧ Sz 110 x.1 ∧ Sz 110 x.2
theorem drawn_loop (n N : Nat) (env : Mi.Env) (he : env[3]? = some (some (.box n))) : ∀ (k i m c : Nat) (acc : List PV) (s : Sto), i + k = N → k + 1 ≤ m → Urn s n c → c + 7 * k < 8000 → acc.length + k < 1000 →
    ∃ (ps : List (Int × Int)) (s' : Sto), lcL (irng 0 N) (gNm 8) mYes (mCall (ar 1 r__law_drawn) (mCons (mVar 3) mNil)) env m i acc s = .ok (acc ++ ps.map pv) s' ∧ ps.length = k ∧ (∀ p ∈ ps, P2 p) ∧ Urn s' n (c + 7 * k) ∧ Fr1 n s s'
  | 0, i, m, c, acc, s, e, hm, hu, hc, ha => by
    obtain ⟨m, rfl⟩ : ∃ q, m = q + 1 := ⟨m - 1, by omega⟩
    refine ⟨[], s, ?_, rfl, fun _ h => (by cases h), hu, rfl, fun _ _ => rfl⟩
    unfold lcL irng
    have : Nat.blt i N = false := by
      cases q : Nat.blt i N with
      | false => rfl
      | true => have := Nat.le_of_ble_eq_true q; omega
    rw [this]
    simp
  | k + 1, i, m, c, acc, s, e, hm, hu, hc, ha => by
    obtain ⟨m, rfl⟩ : ∃ q, m = q + 1 := ⟨m - 1, by omega⟩
    obtain ⟨p, q, s1, h1, h2, h3, h4, h5, h6⟩ := drawn_ok s n c hu (by omega)
    obtain ⟨ps, s', r1, r2, r3, r4, r5⟩ := drawn_loop n N env he k (i + 1) m (c + 7) (acc ++ [pv (p, q)]) s1 (by omega) (by omega) h5 (by omega) (by simp; omega)
    have hi : Nat.blt i N = true := Nat.ble_eq_true_of_le (by omega)
    have hb : Nat.blt acc.length sizeLine = true := Nat.ble_eq_true_of_le (by rw [sizeLine_eq]; omega)
    refine ⟨(p, q) :: ps, s', ?_, by simp [nthR_eq, setR_eq, atC_eq, r2], fun x hx => ?_, by rw [show c + 7 * (k + 1) = c + 7 + 7 * k by omega]; exact r4, h6.trans r5⟩
    · have ev : mCall (ar 1 r__law_drawn) (mCons (mVar 3) mNil) (setR env 8 (some (.int (0 + (i : Nat))))) s = .ok (pv (p, q)) s1 := by
        have : (setR env 8 (some (.int (0 + (i : Nat)))))[3]? = some (some (.box n)) := by rw [setR_eq, List.getElem?_set_ne (by decide)]; exact he
        simp only [mCall, mCons, mVar, nthR_eq, this, mNil, R.bind]
        exact h1
      unfold lcL irng
      rw [hi]
      dsimp only [cond_true]
      simp only [gNm, R.noex, R.bind, mYes, cond_true]
      rw [ev]
      simp only [R.noex, R.bind, hb, cond_true]
      unfold irng at r1
      rw [r1]
      simp
    · rcases List.mem_cons.mp hx with rfl | hx
      · exact ⟨h2, h3, h4⟩
      · exact r3 x hx
theorem lows (ps : List (Int × Int)) (h : ∀ p ∈ ps, P2 p) : ∃ qs : List (Int × Int), qs.length = ps.length ∧ (∀ q ∈ qs, Gd q) ∧ (ps.map fun p => low p.1 p.2) = qs.map pv := by
  induction ps with
  | nil => exact ⟨[], rfl, fun _ h => (by cases h), rfl⟩
  | cons p ps ih =>
    obtain ⟨qs, h1, h2, h3⟩ := ih fun q hq => h q (List.mem_cons_of_mem _ hq)
    obtain ⟨p0, pz1, pz2⟩ := h p List.mem_cons_self
    obtain ⟨x, y, e, hr, la, lb⟩ := low_red p.1 p.2 p0
    refine ⟨(x, y) :: qs, by simp [nthR_eq, setR_eq, atC_eq, h1], fun q hq => ?_, by rw [List.map_cons, List.map_cons, e, h3]; rfl⟩
    rcases List.mem_cons.mp hq with rfl | hq
    · exact ⟨hr, Nat.lt_of_le_of_lt la pz1, Nat.lt_of_le_of_lt lb pz2⟩
    · exact h2 q hq
theorem cut1N (xs : List PV) (h : 1 ≤ xs.length) : cutP xs (some 1) none = xs.drop 1 := by
  unfold cutP
  simp [nthR_eq, setR_eq, atC_eq, HT.sIx]
  rw [show min 1 xs.length = 1 by omega]
  rw [List.take_of_length_le (by rw [List.length_drop]; exact Nat.le_refl _)]
  simp
theorem cutNr (xs : List PV) (r : Int) (h : 0 ≤ r) : cutP xs none (some r) = xs.take r.toNat := by
  obtain ⟨k, rfl⟩ := Int.eq_ofNat_of_zero_le h
  unfold cutP
  have hk : ¬ ((k : Nat) : Int) < 0 := by omega
  simp [nthR_eq, setR_eq, atC_eq, HT.sIx, hk]
theorem two_af (a b : Int × Int) (ha : P2 a) (hb : P2 b) (s : Sto) : ar 2 (afresh r__law_two_right) [pv a, pv b] s = .ok (.bl true) s := by
  obtain ⟨s', h⟩ := two_ok a.1 a.2 b.1 b.2 [] ha.1 hb.1 (sz_le ha.2.1 (by decide)) (sz_le ha.2.2 (by decide)) (sz_le hb.2.1 (by decide)) (sz_le hb.2.2 (by decide))
  show afresh r__law_two_right [pv a, pv b] s = _
  unfold afresh
  have h : r__law_two_right [pv a, pv b] [] = .ok (.bl true) ([] ++ s') := h
  rw [h]
  rfl
theorem many_any (xs : List (Int × Int)) (hl : xs.length ≤ 10) (h : ∀ x ∈ xs, Gd x) (s : Sto) : ar 1 r__law_many_right [.lst (xs.map pv)] s = .ok (.bl true) s := by
  by_cases e : xs = []
  · subst e
    exact many_none s
  · exact many_ok xs e hl h s
/-- the first m of the store stay -/
def Kp (m : Nat) (s s' : Sto) : Prop := m ≤ s'.length ∧ ∀ j, j < m → s'[j]? = s[j]?
theorem sIf_no {t : MT} {a b : MS} {env : Mi.Env} {s s1 : Sto} (h : t env s = .ok false s1) : sIf t a b env s = b env s1 := by rw [sIf_ok h]; rfl
def lawB : MS := (sSeq (sAsg (mCall (ar 2 r__law_box) (mCons (mVar 1) (mCons (mVar 2) mNil))) (gNm 3)) (sSeq (sAsg (mLc 100000 false (iR1 (mCons (mBin (gAdd false) (mC (.int 2)) (mCall (ar 2 r__law_take) (mCons (mVar 3) (mCons (mC (.int 7)) mNil)))) mNil)) [8] (gNm 8) mYes (mCall (ar 1 r__law_drawn) (mCons (mVar 3) mNil))) (gNm 4)) (sSeq (sFor 100000 (iZq (mCons (mVar 4) (mCons (mSl false (mVar 4) (mPS (mC (.int 1))) mPN) mNil))) (gTp 2 (gC (gNm 5) (gC (gNm 6) gN0))) (sIf (mNotT (mT (mCall (ar 2 (afresh r__law_two_right)) (mCons (mVar 5) (mCons (mVar 6) mNil))))) sBad sNil)) (sSeq (sAsg (mSl false (mLc 100000 false (iLst (mVar 4)) [9, 10] (gTp 2 (gC (gNm 9) (gC (gNm 10) gN0))) mYes (mCall (ar 2 r__law_low) (mCons (mVar 9) (mCons (mVar 10) mNil)))) mPN (mPS (mCall (ar 2 r__law_take) (mCons (mVar 3) (mCons (mC (.int 9)) mNil))))) (gNm 7)) (sIf (mOrT (mNotT (mT (mCall (ar 1 r__law_many_right) (mCons (mVar 7) mNil)))) (mNotT (mT (mCall (ar 1 r__law_many_right) (mCons (mBin (gAdd false) (mVar 7) (mSl false (mVar 7) mPN (mPS (mC (.int 2))))) mNil))))) sBad sNil)))))
theorem law_turn (S v : PV) (cs : List Int) (k : Nat) (s : Sto) (hv : getQ s v = some (cs.map .int)) (hk : k < cs.length) (hl : cs.length ≤ 3) (hc : ∀ c ∈ cs, c.natAbs < 2 ^ 1048600) (o3 o4 o5 o6 o7 o8 o9 o10 : Option PV) :
    ∃ (p3 p4 p5 p6 p7 p8 p9 p10 : Option PV) (s' : Sto), lawB [some S, some v, some (.int (k : Nat)), o3, o4, o5, o6, o7, o8, o9, o10] s = .nx [some S, some v, some (.int (k : Nat)), p3, p4, p5, p6, p7, p8, p9, p10] s' ∧ Kp s.length s s' := by
  obtain ⟨a, b, hb1, b0, b1⟩ := box_ok v cs k s hv hk hl hc
  have hn : s.length < (s ++ [Bx.l [.int a, .int b, .int 0]]).length := by simp
  have u0 : Urn (s ++ [Bx.l [.int a, .int b, .int 0]]) s.length 0 := ⟨a, b, 0, getR _, b0, b1, by decide, by decide⟩
  obtain ⟨r, s2, t1, r0, r1, u2, f2⟩ := take2 _ s.length 0 7 u0 (by decide) (by decide) (by decide)
  obtain ⟨N, hN⟩ : ∃ N : Nat, 2 + r = (N : Nat) := ⟨(2 + r).toNat, by omega⟩
  obtain ⟨ps, s3, d1, d2, d3, u3, f3⟩ := drawn_loop s.length N [some S, some v, some (.int (k : Nat)), some (.box s.length), o4, o5, o6, o7, none, o9, o10] rfl N 0 100000 1 [] s2 (by omega) (by omega) u2 (by omega) (by simp; omega)
  have hN2 : 2 ≤ N := by omega
  have hN8 : N ≤ 8 := by omega
  obtain ⟨q, s4, t2, q0, q1, u4, f4⟩ := take2 s3 s.length (1 + 7 * N) 9 u3 (by omega) (by decide) (by decide)
  obtain ⟨qs, e1, e2, e3⟩ := lows ps d3
  have eA : mCall (ar 2 r__law_box) (mCons (mVar 1) (mCons (mVar 2) mNil)) [some S, some v, some (.int (k : Nat)), o3, o4, o5, o6, o7, o8, o9, o10] s = .ok (.box s.length) (s ++ [Bx.l [.int a, .int b, .int 0]]) := by
    simp [nthR_eq, setR_eq, atC_eq, mCall, mCons, mVar, mNil, R.bind, hb1]
  have eR : iR1 (mCons (mBin (gAdd false) (mC (.int 2)) (mCall (ar 2 r__law_take) (mCons (mVar 3) (mCons (mC (.int 7)) mNil)))) mNil) [some S, some v, some (.int (k : Nat)), some (.box s.length), o4, o5, o6, o7, o8, o9, o10] (s ++ [Bx.l [.int a, .int b, .int 0]]) = .ok (irng 0 N) s2 := by
    have ok : okR 0 (N : Nat) = true := by unfold okR; exact decide_eq_true (by omega)
    simp [nthR_eq, setR_eq, atC_eq, iR1, mCons, mBin, mC, mCall, mVar, mNil, R.bind, t1, gAdd, hN, ok]
  have eT : mLc 100000 false (iR1 (mCons (mBin (gAdd false) (mC (.int 2)) (mCall (ar 2 r__law_take) (mCons (mVar 3) (mCons (mC (.int 7)) mNil)))) mNil)) [8] (gNm 8) mYes (mCall (ar 1 r__law_drawn) (mCons (mVar 3) mNil)) [some S, some v, some (.int (k : Nat)), some (.box s.length), o4, o5, o6, o7, o8, o9, o10] (s ++ [Bx.l [.int a, .int b, .int 0]]) = .ok (.lst (ps.map pv)) s3 := by
    unfold mLc
    rw [eR]
    simp only [R.bind]
    rw [show wipeE [some S, some v, some (.int (k : Nat)), some (.box s.length), o4, o5, o6, o7, o8, o9, o10] [8] = [some S, some v, some (.int (k : Nat)), some (.box s.length), o4, o5, o6, o7, none, o9, o10] from rfl, d1]
    rfl
  have lps : (ps.map pv).length = N := by simp [nthR_eq, setR_eq, atC_eq, d2]
  obtain ⟨env', zL, z5, z6, rfl⟩ := for_inv (J := zipI (fun i _ => nthC (ps.map pv) i) (fun i _ => nthC ((ps.map pv).drop 1) i)) (g := gTp 2 (gC (gNm 5) (gC (gNm 6) gN0)))
    (body := sIf (mNotT (mT (mCall (ar 2 (afresh r__law_two_right)) (mCons (mVar 5) (mCons (mVar 6) mNil))))) sBad sNil) (s := s3) (L := List.zipWith (fun a b => PV.tup [a, b]) (ps.map pv) ((ps.map pv).drop 1))
    (fun i => by
      unfold zipI
      simp only [nthC_eq, List.getElem?_zipWith]
      cases (ps.map pv)[i]? with
      | none => rfl
      | some x => cases ((ps.map pv).drop 1)[i]? <;> rfl)
    (fun i env => ∃ z5 z6, env = [some S, some v, some (.int (k : Nat)), some (.box s.length), some (.lst (ps.map pv)), z5, z6, o7, o8, o9, o10]) (fun i hi env hE => by
      obtain ⟨z5, z6, rfl⟩ := hE
      have hi1 : i + 1 < ps.length := by simp at hi; omega
      have ta := two_af ps[i] ps[i + 1] (d3 _ (List.getElem_mem _)) (d3 _ (List.getElem_mem _)) s3
      refine ⟨[some S, some v, some (.int (k : Nat)), some (.box s.length), some (.lst (ps.map pv)), some (pv ps[i]), some (pv ps[i + 1]), o7, o8, o9, o10], _, ?_, ?_, some (pv ps[i]), some (pv ps[i + 1]), rfl⟩
      · rw [List.getElem_zipWith]
        simp [nthR_eq, setR_eq, atC_eq, gTp, gC, gN0, gNm, R.bind, Nat.add_comm]
      · refine (sIf_no (s1 := s3) ?_).trans rfl
        simp [nthR_eq, setR_eq, atC_eq, mNotT, mT, mCall, mCons, mVar, mNil, R.bind, ta, vB]) (List.zipWith (fun a b => PV.tup [a, b]) (ps.map pv) ((ps.map pv).drop 1)).length 0 100000 [some S, some v, some (.int (k : Nat)), some (.box s.length), some (.lst (ps.map pv)), o5, o6, o7, o8, o9, o10] (by omega) (by simp; omega) ⟨o5, o6, rfl⟩
  have eZ : sFor 100000 (iZq (mCons (mVar 4) (mCons (mSl false (mVar 4) (mPS (mC (.int 1))) mPN) mNil))) (gTp 2 (gC (gNm 5) (gC (gNm 6) gN0))) (sIf (mNotT (mT (mCall (ar 2 (afresh r__law_two_right)) (mCons (mVar 5) (mCons (mVar 6) mNil))))) sBad sNil) [some S, some v, some (.int (k : Nat)), some (.box s.length), some (.lst (ps.map pv)), o5, o6, o7, o8, o9, o10] s3 = .nx [some S, some v, some (.int (k : Nat)), some (.box s.length), some (.lst (ps.map pv)), z5, z6, o7, o8, o9, o10] s3 := by
    refine sFor_env (J := zipI (fun i _ => nthC (ps.map pv) i) (fun i _ => nthC ((ps.map pv).drop 1) i)) ?_ zL
    have c1 := cut1N (ps.map pv) (by omega)
    simp [nthR_eq, setR_eq, atC_eq, iZq, mCons, mVar, mSl, mPS, mPN, mC, mNil, R.bind, getF, Mi.fresh, c1, seqOf, itOf]
  have eL : mLc 100000 false (iLst (mVar 4)) [9, 10] (gTp 2 (gC (gNm 9) (gC (gNm 10) gN0))) mYes (mCall (ar 2 r__law_low) (mCons (mVar 9) (mCons (mVar 10) mNil))) [some S, some v, some (.int (k : Nat)), some (.box s.length), some (.lst (ps.map pv)), z5, z6, o7, o8, o9, o10] s3 = .ok (.lst (qs.map pv)) s3 := by
    rw [← e3]
    refine mLc_vals (J := fun i _ => nthC (ps.map pv) i) (L := ps.map pv) rfl (fun i => nthC_eq _ _) (by simp) (by omega) fun i hi h2 => ?_
    have hi' : i < ps.length := by simpa using hi
    obtain ⟨p0, pz1, pz2⟩ := d3 _ (List.getElem_mem hi')
    have lw := low2 ps[i].1 ps[i].2 s3 p0 (sz_le pz2 (by decide))
    refine ⟨[some S, some v, some (.int (k : Nat)), some (.box s.length), some (.lst (ps.map pv)), z5, z6, o7, o8, some (.int ps[i].1), some (.int ps[i].2)], by simp [nthR_eq, setR_eq, atC_eq, wipeE, pv, gTp, gC, gN0, gNm, R.bind], ?_⟩
    simp [nthR_eq, setR_eq, atC_eq, mCall, mCons, mVar, mNil, R.bind, lw]
  have eS : mSl false (mLc 100000 false (iLst (mVar 4)) [9, 10] (gTp 2 (gC (gNm 9) (gC (gNm 10) gN0))) mYes (mCall (ar 2 r__law_low) (mCons (mVar 9) (mCons (mVar 10) mNil)))) mPN (mPS (mCall (ar 2 r__law_take) (mCons (mVar 3) (mCons (mC (.int 9)) mNil)))) [some S, some v, some (.int (k : Nat)), some (.box s.length), some (.lst (ps.map pv)), z5, z6, o7, o8, o9, o10] s3 = .ok (.lst ((qs.take q.toNat).map pv)) s4 := by
    have c1 := cutNr (qs.map pv) q q0
    unfold mSl
    rw [eL]
    simp [nthR_eq, setR_eq, atC_eq, R.bind, mPN, mPS, mCall, mCons, mVar, mC, mNil, t2, getF, Mi.fresh, c1, List.map_take]
  have g1 : ∀ x ∈ qs.take q.toNat, Gd x := fun x hx => e2 x (List.mem_of_mem_take hx)
  have m1 := many_any (qs.take q.toNat) (by simp; omega) g1 s4
  have m2 := many_any (qs.take q.toNat ++ (qs.take q.toNat).take 2) (by simp; omega) (fun x hx => (List.mem_append.mp hx).elim (g1 x) fun hx => g1 x (List.mem_of_mem_take hx)) s4
  refine ⟨some (.box s.length), some (.lst (ps.map pv)), z5, z6, some (.lst ((qs.take q.toNat).map pv)), o8, o9, o10, s4, ?_, ?_⟩
  · unfold lawB
    rw [seq_asg (e := [some S, some v, some (.int (k : Nat)), some (.box s.length), o4, o5, o6, o7, o8, o9, o10]) eA (by simp [setR_eq]), seq_asg (e := [some S, some v, some (.int (k : Nat)), some (.box s.length), some (.lst (ps.map pv)), o5, o6, o7, o8, o9, o10]) eT (by simp [setR_eq]), sSeq_nx eZ, seq_asg (e := [some S, some v, some (.int (k : Nat)), some (.box s.length), some (.lst (ps.map pv)), z5, z6, some (.lst ((qs.take q.toNat).map pv)), o8, o9, o10]) eS (by simp [setR_eq])]
    refine (sIf_no (s1 := s4) ?_).trans rfl
    have c2 := cutNr ((qs.take q.toNat).map pv) 2 (by decide)
    have lz : Nat.ble (((qs.take q.toNat).map pv).length + (((qs.take q.toNat).map pv).take 2).length) sizeLine = true := Nat.ble_eq_true_of_le (by rw [sizeLine_eq]; simp; omega)
    rw [List.map_append, List.map_take (i := 2)] at m2
    have t2' : (2 : Int).toNat = 2 := rfl
    rw [t2'] at c2
    unfold mOrT
    simp only [mNotT, mT, mCall, mCons, mVar, nthR_eq, List.getElem?_cons_succ, List.getElem?_cons_zero, mNil, R.bind, m1, vB, Bool.not_true, cond_false, mBin, mSl, mPN, mPS, mC, getF, c2, Mi.fresh, gAdd, getL, lz, cond_true, m2]
  · refine ⟨?_, fun j hj => ?_⟩
    · rw [f4.1, f3.1, f2.1]; simp
    · rw [f4.2 j (by omega), f3.2 j (by omega), f2.2 j (by omega), List.getElem?_append_left hj]
theorem law_loop (S v : PV) (cs : List Int) (s0 : Sto) (m0 : Nat) (hv : ∀ s, Kp m0 s0 s → getQ s v = some (cs.map .int)) (hl : cs.length ≤ 3) (hc : ∀ c ∈ cs, c.natAbs < 2 ^ 1048600) :
    ∀ (k i m : Nat) (s : Sto) (o2 o3 o4 o5 o6 o7 o8 o9 o10 : Option PV), i + k = cs.length → k + 1 ≤ m → Kp m0 s0 s → ∃ env' s', forL (irng 0 cs.length) (gNm 2) lawB m i [some S, some v, o2, o3, o4, o5, o6, o7, o8, o9, o10] s = .nx env' s'
  | 0, i, m, s, o2, o3, o4, o5, o6, o7, o8, o9, o10, e, hm, hs => by
    obtain ⟨m, rfl⟩ : ∃ q, m = q + 1 := ⟨m - 1, by omega⟩
    refine ⟨[some S, some v, o2, o3, o4, o5, o6, o7, o8, o9, o10], s, ?_⟩
    unfold forL irng
    have : Nat.blt i cs.length = false := by
      cases q : Nat.blt i cs.length with
      | false => rfl
      | true => have := Nat.le_of_ble_eq_true q; omega
    rw [this]
    rfl
  | k + 1, i, m, s, o2, o3, o4, o5, o6, o7, o8, o9, o10, e, hm, hs => by
    obtain ⟨m, rfl⟩ : ∃ q, m = q + 1 := ⟨m - 1, by omega⟩
    obtain ⟨p3, p4, p5, p6, p7, p8, p9, p10, s1, h1, h2⟩ := law_turn S v cs i s (hv s hs) (by omega) hl hc o3 o4 o5 o6 o7 o8 o9 o10
    have hs1 : Kp m0 s0 s1 := ⟨Nat.le_trans hs.1 h2.1, fun j hj => (h2.2 j (Nat.lt_of_lt_of_le hj hs.1)).trans (hs.2 j hj)⟩
    obtain ⟨env', s', h3⟩ := law_loop S v cs s0 m0 hv hl hc k (i + 1) m s1 (some (.int (i : Nat))) p3 p4 p5 p6 p7 p8 p9 p10 (by omega) (by omega) hs1
    have hi : Nat.blt i cs.length = true := Nat.ble_eq_true_of_le (by omega)
    refine ⟨env', s', ?_⟩
    unfold forL
    have ej : irng 0 cs.length i s = some (.int (i : Nat)) := by
      unfold irng
      rw [hi]
      simp
    rw [ej]
    show (match lawB [some S, some v, some (.int (i : Nat)), o3, o4, o5, o6, o7, o8, o9, o10] s with | .nx e s2 => _ | .ct e s2 => _ | .bk e s2 => _ | r => r) = _
    rw [h1]
    exact h3
theorem sFor_env' {mi : MI} {g : MG} {b : MS} {env env' : Mi.Env} {s s1 s' : Sto} {J : MIt} (h : mi env s = .ok J s1) (h2 : forL J g b 100000 0 env s1 = .nx env' s') : sFor 100000 mi g b env s = .nx env' s' := by
  unfold sFor
  rw [h]
  exact h2
theorem last_ok (env : Mi.Env) (s : Sto) : sRet (mAnd (fun _ s => (afresh r__law_refused) [] s) (mAnd (mCall (ar 1 r__law_many_right) (mCons (mLst mNil) mNil)) (mCall (ar 2 (afresh r__law_two_right)) (mCons (mTup (mCons (mC (.int 3)) (mCons (mC (.int 6)) mNil))) (mCons (mTup (mCons (mC (.int 0)) (mCons (mUn gNeg (mC (.int 5))) mNil))) mNil))))) env s = .rt (.bl true) s := by
  have h1 : afresh r__law_refused [] s = .ok (.bl true) s := by
    unfold afresh
    rw [refused_ok []]
    rfl
  have h2 : mCall (ar 1 r__law_many_right) (mCons (mLst mNil) mNil) env s = .ok (.bl true) s := many_none s
  have h3 := two_af (3, 6) (0, -5) ⟨by decide, by unfold Sz; decide, by unfold Sz; decide⟩ ⟨by decide, by unfold Sz; decide, by unfold Sz; decide⟩ s
  refine sRet_ok ?_
  rw [mAnd_t h1, mAnd_t h2]
  exact h3
theorem law_true (ns : List Int) (hl : ns.length ≤ 63) (hb : ∀ z ∈ ns, Builtin.Int.intBits z ≤ 1048576) : isT (r_law [.fro (ns.map .int)] []) = true := by
  obtain ⟨cs, v, b, h1, h2, c1, c3, cb⟩ := cells_ok ns hl hb []
  have hv : ∀ s, Kp 1 ([] ++ [b]) s → getQ s v = some (cs.map .int) := fun s hs => by
    rcases h2 with ⟨rfl, rfl⟩ | rfl
    · show lsO s[0]? = _
      rw [hs.2 0 (by decide)]
      rfl
    · rfl
  obtain ⟨env', s', h3⟩ := law_loop (.fro (ns.map .int)) v cs ([] ++ [b]) 1 hv c3 cb cs.length 0 100000 ([] ++ [b]) none none none none none none none none none (by omega) (by omega) ⟨Nat.le_refl _, fun _ _ => rfl⟩
  have eR : iR1 (mCons (mCall gLen (mCons (mVar 1) mNil)) mNil) [some (.fro (ns.map .int)), some v, none, none, none, none, none, none, none, none, none] ([] ++ [b]) = .ok (irng 0 cs.length) ([] ++ [b]) := by
    have g1 : gLen [v] ([] ++ [b]) = .ok (.int (cs.length : Nat)) ([] ++ [b]) := by
      unfold gLen
      simp only [hv _ ⟨Nat.le_refl _, fun _ _ => rfl⟩, List.length_map]
    have ok : okR 0 (cs.length : Nat) = true := by unfold okR; exact decide_eq_true (by omega)
    simp only [iR1, mCons, mCall, mVar, nthR_eq, List.getElem?_cons_succ, List.getElem?_cons_zero, mNil, R.bind, g1, ok, cond_true, Int.toNat_natCast]
  have eF : sFor 100000 (iR1 (mCons (mCall gLen (mCons (mVar 1) mNil)) mNil)) (gNm 2) lawB [some (.fro (ns.map .int)), some v, none, none, none, none, none, none, none, none, none] ([] ++ [b]) = .nx env' s' := sFor_env' eR h3
  have eC : mCall (ar 2 r__law_cells) (mCons (mVar 0) (mCons (mC (.int 3)) mNil)) [some (.fro (ns.map .int)), none, none, none, none, none, none, none, none, none, none] [] = .ok v ([] ++ [b]) := h1
  show isT (Mi.ret (b_law [some (.fro (ns.map .int)), none, none, none, none, none, none, none, none, none, none] [])) = true
  have eb : b_law = sSeq (sAsg (mCall (ar 2 r__law_cells) (mCons (mVar 0) (mCons (mC (.int 3)) mNil))) (gNm 1)) (sSeq (sFor 100000 (iR1 (mCons (mCall gLen (mCons (mVar 1) mNil)) mNil)) (gNm 2) lawB) (sRet (mAnd (fun _ s => (afresh r__law_refused) [] s) (mAnd (mCall (ar 1 r__law_many_right) (mCons (mLst mNil) mNil)) (mCall (ar 2 (afresh r__law_two_right)) (mCons (mTup (mCons (mC (.int 3)) (mCons (mC (.int 6)) mNil))) (mCons (mTup (mCons (mC (.int 0)) (mCons (mUn gNeg (mC (.int 5))) mNil))) mNil))))))) := rfl
  rw [eb, seq_asg (e := [some (.fro (ns.map .int)), some v, none, none, none, none, none, none, none, none, none]) eC rfl, sSeq_nx eF, last_ok]
  rfl
theorem ints_ok {K : PySem.W.Frag} {H : Hp} {ρ : Rh} : ∀ ns : List Int, RVs K H ρ (ns.map PV.int) (ns.map V.int)
  | [] => rfl
  | n :: ns => ⟨_, _, rfl, rfl, ints_ok ns⟩
theorem walk {l : PySem.W.OpenLaw} {q : Program} {loose : List Str} {XP : (Str → Option Value) → Heap → Prop} {YP : World → Heap → Prop} {d : DefRec} {K : Params → PySem.W.Frag} (hn : l.most = some 63) (hdf : d.params.defaults = [])
    (nK : ∀ p, PySem.W.noTabs (K p) = true) (hrec : (([] : List Str).all fun x => ((recsOf q).find? fun e => e.name == x).isSome) = true) (hY : ∀ (w : World) (h : Heap), YP w h → (K w.params).In h)
    (F : ∀ (w : World) (mg : Str → Option Value) (fa : Addr) (h : Heap), (K w.params).In h → h.Ns mainGlobals mg → mg d.name = some (.ref fa) →
      ∃ fd : FuncData, (∀ (s : Shared) (u : Value), BindsTo s fd ⟨[u], []⟩ [("script", u)]) ∧ (∀ x ∈ gdefs, x ∈ ([] : List Str) ∨ PySem.W.tabIn (K w.params) x = none) ∧
        ∀ base : Heap, (K w.params).In base → base.Ns mainGlobals mg → (∀ p ∈ tabsOf (K w.params) [], GxR.TabB base mg p.1 p.2) → FnOk l.prog w (K w.params) mg base (L2.CX l.prog w) 14 fa fd ["script"] (spF (K w.params) 1 r_law)) :
    PySem.W.WalkO q loose XP YP l.row.toRowW d [] (fun f vs => PySem.call f vs) :=
  walk_ofX (n := 63) (k := 14) (x := "script") (pres := []) (CX := fun w => L2.CX l.prog w) (sp := fun w => spF (K w.params) 1 r_law) hn (by decide) hdf ⟨rfl, by decide, by decide⟩ nK (fun x hx => List.all_eq_true.mp hrec x hx) hY F (fun w H a ns ts hl hb B hall hts => by
    refine ⟨rfl, [.fro (ns.map .int)], ⟨[], [], 0⟩, [], ⟨_, _, rfl, ⟨a, _, rfl, B.sq.imp (fun h => ⟨h, by simp, by simp⟩) (fun h => .inr h), ints_ok ns⟩, rfl⟩, ⟨by simp, rfl, fun n a xs e => by simp at e, fun a e => by simp at e, fun a h => ⟨B.tab a (hall a h), by simp, by simp⟩⟩, ?_⟩
    have t := law_true ns hl hb
    unfold isT at t
    split at t
    · rename_i e
      rw [e]
      intro H' ρ' _ S' x hx
      refine ⟨hx, fun b hb => ?_⟩
      obtain ⟨c, y, h1, h2⟩ := hts b hb
      refine (S'.tb b ⟨y, ?_, c, h1⟩).1
      revert h2
      generalize y = z
      revert z
      decide
    · cases t) fun _ _ _ _ _ ⟨_, _, _, _, _, _, _, _, _, _, _, _, z⟩ => z
end Lw
open PySem PySem.W PyProof.Rows
set_option maxRecDepth 100000 in
set_option maxHeartbeats 0 in
theorem PySem.Challenge.cw_plainlock_k01_whole_fractions_beside_own_holds : PySem.Challenge.rw_plainlock_k01_whole_fractions_beside_own.Holds := by
  w_on; o_law; k_head; (case hw => w_witness2)
  k_fill
  refine Lw.walk (l := PySem.Challenge.rw_plainlock_k01_whole_fractions_beside_own) rfl rfl (fun _ => by kernel_rfl) (by kernel_rfl) (fun w h Y => PySem.W.kIn_of Y) ?F
  case F =>
    intro w mg fa h KX G hmg
    refine' Lw.all_mk KX G hmg ?a_CanNot ?b_CanNot ?lXCanNot ?ccXCanNot ?kkXCanNot ?c_CanNot ?d_CanNot ?e_CanNot ?sa_CanNot ?ke_CanNot ?hd_CanNot ?ga_CanNot ?gg_CanNot ?sx_CanNot ?cl_CanNot ?ob_CanNot ?ty_CanNot ?v_ValueError ?o1 ?o2 ?nDis_number ?lDis_number ?ccDis_number ?kkDis_number ?nDis_row ?lDis_row ?ccDis_row ?kkDis_row ?nDfraction ?lDfraction ?ccDfraction ?kkDfraction ?nDis_fraction ?lDis_fraction ?ccDis_fraction ?kkDis_fraction ?nDplus ?lDplus ?ccDplus ?kkDplus ?nDminus ?lDminus ?ccDminus ?kkDminus ?nDtimes ?lDtimes ?ccDtimes ?kkDtimes ?nDover ?lDover ?ccDover ?kkDover ?nDless ?lDless ?ccDless ?kkDless ?nDleast ?lDleast ?ccDleast ?kkDleast ?nDgreatest ?lDgreatest ?ccDgreatest ?kkDgreatest ?nDwhole ?lDwhole ?ccDwhole ?kkDwhole ?nDsum_of ?lDsum_of ?ccDsum_of ?kkDsum_of ?nD_law_box ?lD_law_box ?ccD_law_box ?kkD_law_box ?nD_law_take ?lD_law_take ?ccD_law_take ?kkD_law_take ?nD_law_cells ?lD_law_cells ?ccD_law_cells ?kkD_law_cells ?nD_law_lists ?lD_law_lists ?ccD_law_lists ?kkD_law_lists ?nD_law_same ?lD_law_same ?ccD_law_same ?kkD_law_same ?nD_law_low ?lD_law_low ?ccD_law_low ?kkD_law_low ?nD_law_number ?lD_law_number ?ccD_law_number ?kkD_law_number ?nD_law_drawn ?lD_law_drawn ?ccD_law_drawn ?kkD_law_drawn ?nD_law_two_right ?lD_law_two_right ?ccD_law_two_right ?kkD_law_two_right ?nD_law_many_right ?lD_law_many_right ?ccD_law_many_right ?kkD_law_many_right ?nD_law_refused ?lD_law_refused ?ccD_law_refused ?kkD_law_refused ?nDlaw ?lDlaw ?ccDlaw ?kkDlaw ?q1ValueError_CanNot ?q3CanNot_CanNot ?n_ValueError ?n_abs ?n_all ?n_bool ?n_enumerate ?n_int ?n_isinstance ?n_len ?n_list ?n_max ?n_min ?n_range ?n_str ?n_sum ?n_tuple ?n_zip ?m_gcd ?m_lcm ?na_is_tuple_of ?na_goes_up ?na__path ?na_is_answer ?na_edges
    (case a_CanNot => k_is)
    (case b_CanNot => k_is)
    (case lXCanNot => k_is)
    (case ccXCanNot => k_is)
    (case kkXCanNot => k_is)
    (case c_CanNot => k_is)
    (case d_CanNot => kx_is)
    (case e_CanNot => kx_is)
    (case sa_CanNot => k_is)
    (case ke_CanNot => k_is)
    (case hd_CanNot => k_is)
    (case ga_CanNot => k_is)
    (case gg_CanNot => k_is)
    (case sx_CanNot => k_is)
    (case cl_CanNot => k_is)
    (case ob_CanNot => k_is)
    (case ty_CanNot => k_is)
    (case v_ValueError => k_is)
    (case o1 => k_is)
    (case o2 => k_is)
    (case nDis_number => k_is)
    (case lDis_number => k_is)
    (case ccDis_number => k_is)
    (case kkDis_number => k_is)
    (case nDis_row => k_is)
    (case lDis_row => k_is)
    (case ccDis_row => k_is)
    (case kkDis_row => k_is)
    (case nDfraction => k_is)
    (case lDfraction => k_is)
    (case ccDfraction => k_is)
    (case kkDfraction => k_is)
    (case nDis_fraction => k_is)
    (case lDis_fraction => k_is)
    (case ccDis_fraction => k_is)
    (case kkDis_fraction => k_is)
    (case nDplus => k_is)
    (case lDplus => k_is)
    (case ccDplus => k_is)
    (case kkDplus => k_is)
    (case nDminus => k_is)
    (case lDminus => k_is)
    (case ccDminus => k_is)
    (case kkDminus => k_is)
    (case nDtimes => k_is)
    (case lDtimes => k_is)
    (case ccDtimes => k_is)
    (case kkDtimes => k_is)
    (case nDover => k_is)
    (case lDover => k_is)
    (case ccDover => k_is)
    (case kkDover => k_is)
    (case nDless => k_is)
    (case lDless => k_is)
    (case ccDless => k_is)
    (case kkDless => k_is)
    (case nDleast => k_is)
    (case lDleast => k_is)
    (case ccDleast => k_is)
    (case kkDleast => k_is)
    (case nDgreatest => k_is)
    (case lDgreatest => k_is)
    (case ccDgreatest => k_is)
    (case kkDgreatest => k_is)
    (case nDwhole => k_is)
    (case lDwhole => k_is)
    (case ccDwhole => k_is)
    (case kkDwhole => k_is)
    (case nDsum_of => k_is)
    (case lDsum_of => k_is)
    (case ccDsum_of => k_is)
    (case kkDsum_of => k_is)
    (case nD_law_box => k_is)
    (case lD_law_box => k_is)
    (case ccD_law_box => k_is)
    (case kkD_law_box => k_is)
    (case nD_law_take => k_is)
    (case lD_law_take => k_is)
    (case ccD_law_take => k_is)
    (case kkD_law_take => k_is)
    (case nD_law_cells => k_is)
    (case lD_law_cells => k_is)
    (case ccD_law_cells => k_is)
    (case kkD_law_cells => k_is)
    (case nD_law_lists => k_is)
    (case lD_law_lists => k_is)
    (case ccD_law_lists => k_is)
    (case kkD_law_lists => k_is)
    (case nD_law_same => k_is)
    (case lD_law_same => k_is)
    (case ccD_law_same => k_is)
    (case kkD_law_same => k_is)
    (case nD_law_low => k_is)
    (case lD_law_low => k_is)
    (case ccD_law_low => k_is)
    (case kkD_law_low => k_is)
    (case nD_law_number => k_is)
    (case lD_law_number => k_is)
    (case ccD_law_number => k_is)
    (case kkD_law_number => k_is)
    (case nD_law_drawn => k_is)
    (case lD_law_drawn => k_is)
    (case ccD_law_drawn => k_is)
    (case kkD_law_drawn => k_is)
    (case nD_law_two_right => k_is)
    (case lD_law_two_right => k_is)
    (case ccD_law_two_right => k_is)
    (case kkD_law_two_right => k_is)
    (case nD_law_many_right => k_is)
    (case lD_law_many_right => k_is)
    (case ccD_law_many_right => k_is)
    (case kkD_law_many_right => k_is)
    (case nD_law_refused => k_is)
    (case lD_law_refused => k_is)
    (case ccD_law_refused => k_is)
    (case kkD_law_refused => k_is)
    (case nDlaw => k_is)
    (case lDlaw => k_is)
    (case ccDlaw => k_is)
    (case kkDlaw => k_is)
    (case q1ValueError_CanNot => kit_is)
    (case q3CanNot_CanNot => k_is)
    (case n_ValueError => k_is)
    (case n_abs => k_is)
    (case n_all => k_is)
    (case n_bool => k_is)
    (case n_enumerate => k_is)
    (case n_int => k_is)
    (case n_isinstance => k_is)
    (case n_len => k_is)
    (case n_list => k_is)
    (case n_max => k_is)
    (case n_min => k_is)
    (case n_range => k_is)
    (case n_str => k_is)
    (case n_sum => k_is)
    (case n_tuple => k_is)
    (case n_zip => k_is)
    (case m_gcd => k_is)
    (case m_lcm => k_is)
    (case na_is_tuple_of => k_is)
    (case na_goes_up => k_is)
    (case na__path => k_is)
    (case na_is_answer => k_is)
    (case na_edges => k_is)
