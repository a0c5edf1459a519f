import PyProof.Rows.All
import Wide.All
import OpenK.AllK
import Wide.FinOn
import HandS.Comp
import HandS.Call
import HandS.GenOver
import HandS.Lambda
import PyProof.GenQ
import PyProof.ConsumeS
import PyProof.CodeObjX
import HandS.ForMost
import HandS.ForExc
import HandS.IsInst
import HandS.Wide
import HandS.Gcd
import HandS.TupAny
import HandS.Deep
import HandS.Style
import HandS.Walk
import HandS.Zip
import HandS.Small
import PyProof.ReprReads
import HandS.TupMul
import HandS.Flow
import HandS.ExcIs
import HandS.Conv
import PyProof.ReprLen
import HandS.TryOnly
import HandS.ExcOwn
import HandS.More
import KE.KDictKeyed
import KE.KDictDisplayH
import HandS.EndTab
import KE.HD3
import KE.KDictCopyH
import PySem.Challenge.RW_towerwise_k12_exact_refused
set_option Elab.async false
set_option linter.all false
set_option maxRecDepth 100000
namespace Gx
open L2 PySem.Spec PyProof.Rows PySem
/-! ### a generator expression's own context -/
/-- the scope of a generator expression: its own names (with their places in N), the walked thing at «.0», captured ones -/
structure GenB (N : List Str) (sc scope : Scope) (own : List (Str × Nat)) : Prop where
  kind : scope.kind = .function
  co : scope.isCoroutine = false
  cell : ∀ y ∈ scope.names, y.2 ≠ .cell
  dot : scope.names.lookup (".0" : Str) = some NameKind.local
  uniq : ∀ y ∈ scope.names, scope.names.lookup y.1 = some y.2
  ix : ∀ p ∈ own, N[p.2]? = some p.1
  free : ∀ y ∈ scope.names, y.2 = .free → sc.names.lookup y.1 = some .cell ∨ sc.names.lookup y.1 = some .free
  own : ∀ y ∈ scope.names, y.2 = .local → y.1 ∈ own.map (·.1) ∨ y.1 ∉ N
def gxCx (X : Cx) (A : Around) (s : Shared) (H : Hp) (ge : PySem.Env) (fp : List Addr) : Cx where
  prog := X.prog
  w := X.w
  K := X.K
  mg := X.mg
  base := X.base
  A := A
  N := X.N
  s_0 := s
  H_0 := H
  env := ge
  outer := X.stack
  stack := ge :: X.stack
  ex := fp
  fn := fun _ => false
  calm := true
  pn := []
  xe := fun _ _ => False
section
variable {X : Cx} {pins : List (Addr × Obj)} {σ : L2.St} {H : Hp} {s : Shared}
theorem gx_start {A : Around} {scope : Scope} {own : List (Str × Nat)} {fp : List Addr} {code itv : Value} {bi : Addr} {h5 : Heap} {gs : Array GenState} {tk : Nat} (I : Inv X pins σ H s) (ok : GenB X.N X.env.scope scope own) (hN : X.N.Nodup) (hfp : ∀ b ∈ fp, FpOk X pins H b ∧ b < s.heap.objs.size)
    (hA : A.handled = none) (hfr : A.frames = some (genEnv scope (cloFrom X.env.cells scope.names []) s.heap.objs.size code bi X.env :: X.stack)) (hbi : bi = builtinsNs)
    (hn : h5.Ns s.heap.objs.size fun y => if y = (".0" : Str) then some itv else none) (kp : ∀ b o, s.heap.get? b = some o → h5.get? b = some o) (hg : AllBare gs) :
    Inv (gxCx X A s H (genEnv scope (cloFrom X.env.cells scope.names []) s.heap.objs.size code bi X.env) fp) [] (wipe σ (own.map (·.2))) H { s with heap := h5, gens := gs, toks := tk } := by
  have hfree : ∀ y ∈ scope.names, y.2 = .free → ∃ c, X.env.cells.lookup y.1 = some c := fun y hy e => by
    rcases ok.free y hy e with k | k
    · exact I.ok.has _ (.inl k)
    · exact I.ok.has _ (.inr k)
  have cm : ∀ {y c}, (cloFrom X.env.cells scope.names []).lookup y = some c → X.env.cells.lookup y = some c := fun {y c} e => by
    rcases cloFrom_mem (PySem.mem_of_lookup e) with hm | ⟨h1, h2⟩
    · cases hm
    · obtain ⟨c1, hc⟩ := hfree _ h1 rfl
      have hc : X.env.cells.lookup y = some c1 := hc
      have e2 : c = c1 := by
        rw [h2, hc] <;> rfl
      rw [e2]
      exact hc
  have look : ∀ {y}, scope.names.lookup y = some .free → ∃ c, (cloFrom X.env.cells scope.names []).lookup y = some c := fun {y} hl => by
    have hy : (y, NameKind.free) ∈ scope.names := PySem.mem_of_lookup hl
    exact mem_lookup (cloFrom_has (cells := X.env.cells) (acc := []) hy)
  have cl : ∀ {y c}, X.env.cells.lookup y = some c → c < s.heap.objs.size := fun {y c} e => by
    obtain ⟨v, z⟩ := I.cell y c e
    exact z.lt
  refine ⟨⟨I.ok.mod, ok.kind, I.ok.glob, hbi, Nat.le_refl _, fun y z c e1 e2 => I.ok.inj y z c (cm e1) (cm e2), fun y hy => ?_, fun y c z _ => ?_, fun _ => hA, hfr, .inr ⟨rfl, rfl⟩, fun b hb => ⟨?_, fun y c e z => ?_⟩, I.bs, Nat.le_trans I.ok.bsz I.sz, fun b o e hb => ?_, fun b hb z => ?_, I.stack, I.stkFree⟩,
    rfl, hg, Un.kept kp, ⟨_, hn, fun i y v e1 e2 e3 => ?_⟩, fun y c e => ?_, I.hok.fresh (Nat.le_refl _), fun y c e => I.freeC y c (cm e), fun p hp => absurd (show p ∈ ([] : List (Addr × Obj)) ++ [] from hp) (by simp), I.hok.kept kp, by rw [wipe_length]; exact I.len⟩
  · have hy : scope.names.lookup y = some .cell ∨ scope.names.lookup y = some .free := hy
    rcases hy with hy | hy
    · exact absurd rfl (ok.cell _ (PySem.mem_of_lookup hy))
    · exact look hy
  · have z : false = true := z
    cases z
  · exact Nat.ne_of_lt (hfp b hb).2
  · exact (hfp b hb).1.2.2.2.2.1 y c (cm e) z
  · rcases (hfp b hb).1.2.2.2.1 with z | z
    · exact I.ok.noex b o e z
    · exact absurd (Nat.lt_of_lt_of_le (Heap.lt_size e) (Nat.le_trans I.ok.bsz z)) (Nat.lt_irrefl _)
  · rcases List.mem_cons.mp (I.stkSub b z) with z | z
    · exact (hfp b hb).1.2.1 z
    · exact (hfp b hb).1.2.2.1 z
  · obtain ⟨e2, hne⟩ := wipe_some e2
    have e3 : Vis scope y := e3
    rcases e3 with k | k | k
    · exfalso
      rcases ok.own _ (PySem.mem_of_lookup k) rfl with e' | e'
      · obtain ⟨p, hp, hpy⟩ := List.mem_map.mp e'
        have e4 := ok.ix p hp
        have : p.1 = y := hpy
        rw [this] at e4
        exact hne (List.mem_map.mpr ⟨p, hp, nodup_ix hN e4 e1⟩)
      · exact e' (List.mem_of_getElem? e1)
    · exact absurd rfl (ok.cell _ (PySem.mem_of_lookup k))
    · obtain ⟨m, hn, hl⟩ := I.loc
      have hvis : Vis X.env.scope y := (ok.free _ (PySem.mem_of_lookup k) rfl).elim (fun k => .inr (.inl k)) (fun k => .inr (.inr k))
      obtain ⟨w', r, q⟩ := hl i y v e1 e2 hvis
      obtain ⟨c2, h2⟩ := look k
      refine ⟨w', r, .inr ⟨.inr k, c2, h2, ?_⟩⟩
      have c1 := cm h2
      rcases q with ⟨k', _⟩ | ⟨_, c3, e', z⟩
      · have k' : X.env.scope.names.lookup y = some .local := k'
        rcases ok.free _ (PySem.mem_of_lookup k) rfl with k2 | k2 <;> rw [show X.env.scope.names.lookup y = _ from k2] at k' <;> cases k'
      · rw [c1] at e'
        cases e'
        exact z.keeps kp
  · obtain ⟨w', z⟩ := I.cell y c (cm e)
    exact ⟨w', z.keeps kp⟩
end
end Gx
namespace Gx
open L2 PySem.Spec PyProof.Rows PySem GenW
section
variable {X : Cx} {pins : List (Addr × Obj)} {σ : L2.St} {H : Hp} {s : Shared}
theorem inv_gens {g' : Array GenState} (I : Inv X pins σ H s) (hg : AllBare g') : Inv X pins σ H { s with gens := g' } := by
  have := I.call (g' := g') (d' := s.drawn) (t' := s.toks) (h' := s.heap) (H' := H) (ch := []) Un.refl I.hok hg (fun b hb => by cases hb)
  exact this
/-- turns left: none, then the walk stops; else it goes on -/
def GW (wi : It) (g : TG) (te : TE) (vs : List Nat) (σ : L2.St) (stop : Bool) (Q : VK) (W : Nat → Nat → Hp → Prop) : Prop :=
  (∀ i H, W i 0 H → wi.stop i H ∧ Q (.bl (!stop)) H) ∧
  ∀ i m H, W i (m + 1) H → wi.go i H ∧ ∀ x H', wi.yld i H x H' → g x (wipe σ vs) H' fun σ2 H2 => wipe σ2 vs = wipe σ vs ∧ te σ2 H2 fun y H3 => ∃ b, y = .bl b ∧ (b = stop → Q (.bl stop) H3) ∧ (b ≠ stop → W (i + 1) m H3)
def gxR (G : Cx) (pn : List (Addr × Obj)) (σ : L2.St) (stop : Bool) (Q : VK) : GenEnd := fun _ _ r s => r = .ok .next ∧ ∃ H', Inv G pn σ H' s ∧ Q (.bl (!stop)) H'
def gxY (G : Cx) (pn : List (Addr × Obj)) (σ : L2.St) (stop : Bool) (Q : VK) : Protocol := fun _ _ v s kap =>
  ∃ b H', v = .bool b ∧ Inv G pn σ H' s ∧ (b = stop → Q (.bl stop) H') ∧ (b ≠ stop → ∀ g', AllBare g' → kap (.send .none) { s with gens := g' })
theorem seg_gx {G : Cx} {A : Around} {elt tg iter : Expr} {scope : Scope} {own : List (Str × Nat)} {pos : Pos} {it a : Addr} {ob : Obj} {fp : List Addr} {tn : Nat → Heap → Prop} {J : It} {g : TG} {te : TE} {stop : Bool} {Q : VK} {W : Nat → Nat → Hp → Prop}
    (hex : G.ex = fp) (hpn : G.pn = []) (hc : G.calm = true) (hA : A.over (.compLoop (.GeneratorExp elt [⟨tg, iter, [], 0⟩] scope pos) 0 (.ref it) .none G.env) [] = G.A) (hx : G.xe = fun _ _ => False) (hco : G.env.scope.isCoroutine = false)
    (T : Turn G.prog G.w G.K tg J fp it tn) (pg : PG G tg g) (pe : PE G elt te) (haf : ∀ b ∈ fp, b ≠ a) (hw : GW J g te (own.map (·.2)) σ stop Q W) :
    ∀ (m i : Nat) (s₀ s : Shared) (H : Hp), W i m H → Inv G [(a, ob)] (wipe σ (own.map (·.2))) H s → tn i s.heap → (∀ b ∈ fp, H b = none) →
      Seg (model G.prog G.w) A (gxR G [(a, ob)] (wipe σ (own.map (·.2))) stop Q) (gxY G [(a, ob)] (wipe σ (own.map (·.2))) stop Q) m s₀
        (.compLoop (.GeneratorExp elt [⟨tg, iter, [], 0⟩] scope pos) 0 (.ref it) .none G.env)
        ((model G.prog G.w).den (.compLoop (.GeneratorExp elt [⟨tg, iter, [], 0⟩] scope pos) 0 (.ref it) .none G.env)) [] s := by
  have stat : ∀ {σ' : L2.St} {H' : Hp} {s' : Shared}, Inv G [(a, ob)] σ' H' s' → (∀ b ∈ fp, H' b = none) → ∀ b ∈ fp, FpOk G [(a, ob)] H' b := fun {σ' H' s'} I' hn b hb => by
    have hb' : b ∈ G.ex := by rw [hex]; exact hb
    refine ⟨hn b hb, (I'.ok.exf b hb').1, I'.ok.exfs b hb', .inl hb', fun x c e => (I'.ok.exf b hb').2 x c e, fun p hp => ?_⟩
    rw [hpn] at hp
    have : p = (a, ob) := by simpa using hp
    rw [this]
    exact (haf b hb).symm
  intro m
  induction m with
  | zero =>
    intro i s₀ s H w I st n
    obtain ⟨hstop, hq⟩ := hw.1 i H w
    show Seg _ A _ _ _ s₀ _ ((compTurn (.GeneratorExp elt [⟨tg, iter, [], 0⟩] scope pos) 0 (.ref it) .none G.env).onRaise (leaving G.env)) [] s
    rw [compTurn_gen, Sem.onRaise_eq_wrap]
    refine seg_bind_wrap (wpAny_standAt ?_)
    refine seg_bind_wrap ?_
    rw [hA]
    refine thnF (T.done G rfl rfl rfl hc i _ s _ H (fun _ _ => False) I (stat I n) st hstop) fun r s6 ⟨hr, I6⟩ => ?_
    subst hr
    exact seg_end (.ok .next) ⟨rfl, H, I6, hq⟩
  | succ m ih =>
    intro i s₀ s H w I st n
    obtain ⟨hgo, step⟩ := hw.2 i m H w
    show Seg _ A _ _ _ s₀ _ ((compTurn (.GeneratorExp elt [⟨tg, iter, [], 0⟩] scope pos) 0 (.ref it) .none G.env).onRaise (leaving G.env)) [] s
    rw [compTurn_gen, Sem.onRaise_eq_wrap]
    refine seg_bind_wrap (wpAny_standAt ?_)
    refine seg_bind_wrap ?_
    rw [hA]
    refine thnF (T.item G rfl rfl rfl hc i _ s _ H (fun _ _ => False) I (stat I n) st hgo) fun r s6 ⟨u, hr, h6⟩ => ?_
    subst hr
    refine seg_bind_wrap ?_
    rw [hA]
    refine thnF h6 fun _ s7 ⟨x, H7, I7, r7, y7, st7, n7⟩ => ?_
    have I7' := I7.pinned (stat I7 n7) (T.obj _ _ st7)
    refine seg_bind_wrap ?_
    rw [hA]
    have xf : ∀ {e s'}, G.xe e s' → False := fun {e s'} z => by
      rw [hx] at z
      exact z
    refine wpAny_mono (pg.run _ s7 _ H7 x u _ I7' r7 (step x H7 y7)) (fun _ s8 ⟨σ8, H8, I8, hw8, q8⟩ => ?_) fun e s' z => (xf z).elim
    refine seg_bind_wrap ?_
    simp only [List.forIn_nil]
    refine wpAny_pure ?_
    simp only [if_true]
    have hy : ∀ v, yieldOut G.env v = yieldValue v := fun v => by simp only [yieldOut, hco, Bool.false_eq_true, if_false]
    simp only [hy]
    rw [Sem.bind_eq_wrap', Sem.bind_eq_wrap', Sem.wrap_wrap, Sem.wrap_wrap]
    refine seg_wrap ?_
    rw [hA]
    refine wpAny_mono (pe.run _ s8 σ8 H8 _ I8 q8) (fun z s9 ⟨yv, H9, I9, r9, b, hyb, h1, h2⟩ => ?_) fun e s' z => (xf z).elim
    subst hyb
    have hz : z = .bool b := r9
    subst hz
    have pin' : ∀ b ∈ fp, ∀ o, s7.heap.get? b = some o → s9.heap.get? b = some o ∧ H9 b = none := fun b hb o e =>
      let z := I9.pin (b, o) (List.mem_append_right _ (List.mem_append_right _ (mem_pinsAt hb e)))
      ⟨z.1, z.2.1⟩
    have hl : (wipe σ (own.map (·.2))).length = σ8.length := by rw [← hw8, wipe_length]
    have I10 : Inv G [(a, ob)] (wipe σ (own.map (·.2))) H9 s9 := (I9.unpinned (pins := [(a, ob)])).weak hl fun j v e => by
      rw [← hw8] at e
      exact (wipe_some e).1
    have st10 : tn (i + 1) s9.heap := T.keep _ _ _ st7 fun b hb o e => (pin' b hb o e).1
    have n10 : ∀ b ∈ fp, H9 b = none := fun b hb => by
      obtain ⟨o, e, _⟩ := T.obj _ _ st7 b hb
      exact (pin' b hb o e).2
    refine seg_at (seg_yield rfl rfl rfl ⟨b, H9, rfl, I10, h1, fun hne g' hg' => ?_⟩)
    exact seg_again rfl (ih (i + 1) _ _ H9 (h2 hne) (inv_gens I10 hg') st10 n10)
end
end Gx
namespace Gx
open L2 PySem.Spec PyProof.Rows PySem GenW
theorem bare_set {s : Shared} {g : Nat} {x : GenState} (h : AllBare s.gens) (hx : x.bare = true) : AllBare (s.setGen g x).gens := fun y hy => by
  obtain ⟨i, hi, e⟩ := Array.mem_iff_getElem.mp hy
  have hi' : i < s.gens.size := by
    have q : (s.setGen g x).gens.size = s.gens.size := setGen_size s g x
    rw [q] at hi
    exact hi
  by_cases z : i = g
  · subst z
    have q : (s.setGen i x).gens[i]? = some x := by
      show (s.gens.setIfInBounds i x)[i]? = some x
      simp [hi']
    have q2 : (s.setGen i x).gens[i]? = some y := by rw [Array.getElem?_eq_getElem hi, e]
    rw [q] at q2
    cases q2
    exact hx
  · have q : (s.setGen g x).gens[i]? = s.gens[i]? := by
      show (s.gens.setIfInBounds g x)[i]? = _
      rw [Array.getElem?_setIfInBounds_ne (Ne.symm z)]
    have q2 : s.gens[i]? = some y := by rw [← q, Array.getElem?_eq_getElem hi, e]
    exact h y (Array.mem_of_getElem? q2)
theorem set_at {s : Shared} {g : Nat} {x : GenState} (h : g < s.gens.size) : (s.setGen g x).gens[g]? = some x := by
  show (s.gens.setIfInBounds g x)[g]? = some x
  simp [h]
section
variable {G : Cx} {A : Around} {a : Addr} {ob : Obj} {g : Nat} {σ : L2.St} {stop : Bool} {Q : VK} {E : Value → Shared → Prop} {Q' : Option Value → Shared → Prop}
/-- the generator, ready to be woken for m items at the most -/
def Rdy (G : Cx) (A : Around) (a : Addr) (ob : Obj) (g : Nat) (σ : L2.St) (stop : Bool) (Q : VK) (m : Nat) (s : Shared) : Prop :=
  ∃ H, Inv G [(a, ob)] σ H s ∧ ∃ gs, s.gens[g]? = some gs ∧ ∀ g', AllBare g' → gs.Goes (model G.prog G.w) A.in1 (gxR G [(a, ob)] σ stop Q) (gxY G [(a, ob)] σ stop Q) m (.send .none) { s with gens := g' }
theorem next_gx {m : Nat} {s : Shared} (hob : ∀ h : Heap, h.get? a = some ob → h.IsGen a g) (hh : A.handled = none) (hroom : A.depth < recursionLimit) (h : Rdy G A a ob g σ stop Q m s)
    (hv : ∀ b H s', Inv G [(a, ob)] σ H s' → (b = stop → Q (.bl stop) H) → (b ≠ stop → ∃ m', m = m' + 1 ∧ Rdy G A a ob g σ stop Q m' s') → Q' (some (.bool b)) s')
    (hd : ∀ H s', Inv G [] σ H s' → Q (.bl (!stop)) H → Q' none s') : wpAny (model G.prog G.w) A (pyNext (.ref a)) Q' E s := by
  obtain ⟨H, I, gs, hgs, hgo⟩ := h
  have hg0 : s.heap.IsGen a g := hob _ (I.pin (a, ob) (List.mem_append_right _ List.mem_cons_self)).1
  have hgl : g < s.gens.size := (Array.getElem?_eq_some_iff.mp hgs).1
  refine wpAny_gsz (n := g + 1) hgl ?_
  refine wpAny_pyNext_genexpQ (P := fun _ _ s => ∃ H', Inv G [(a, ob)] σ H' s ∧ Q (.bl (!stop)) H') hh I.nolimit hroom hg0 hgs (hgo _ (bare_set (s := s) I.bare rfl)) (fun v s₁ gs' hb hv' => ?_) fun s₁ hp h' hk => ?_
  · intro hsz
    obtain ⟨b, H', rfl, I', h1, h2⟩ := hv'
    have hb' : AllBare (s₁.setGen g gs').gens := bare_set I'.bare hb
    have hsz1 : g < s₁.gens.size := by
      have q : (s₁.setGen g gs').gens.size = s₁.gens.size := setGen_size _ _ _
      have hsz' : g + 1 ≤ (s₁.setGen g gs').gens.size := hsz
      omega
    have I2 : Inv G [(a, ob)] σ H' (s₁.setGen g gs') := inv_gens I' hb'
    refine hv b H' _ I2 h1 fun hne => ?_
    cases m with
    | zero => exact ((h2 hne s₁.gens I'.bare) : False).elim
    | succ m => exact ⟨m, rfl, H', I2, gs', set_at hsz1, fun g' hg' => h2 hne g' hg'⟩
  · intro _
    obtain ⟨H', I', hq⟩ := hp
    have I2 : Inv G [(a, ob)] σ H' (s₁.setGen g .finished) := inv_gens I' (bare_set I'.bare rfl)
    have I3 : Inv G [(a, ob)] σ H' { s₁.setGen g .finished with heap := h' } := I2.kept (t' := (s₁.setGen g .finished).toks) hk
    exact hd H' _ (I3.pins_of fun p hp => absurd hp (by simp)) hq
end
section
variable {G : Cx} {A : Around} {a : Addr} {ob : Obj} {g : Nat} {σ : L2.St} {Q : VK} {R : Result → Shared → Prop}
theorem all_gx (hob : ∀ h : Heap, h.get? a = some ob → h.IsGen a g) (hh : A.handled = none) (hroom : A.depth < recursionLimit) (hR : ∀ b H s', Inv G [] σ H s' → Q (.bl b) H → R (.ok (.ret (.bool b))) s') :
    ∀ (m : Nat) (s : Shared), Rdy G A.in1 a ob g σ false Q m s → codeAny (model G.prog G.w) A (.builtin "all.loop" ⟨[.ref a], []⟩) R s := by
  intro m
  induction m with
  | zero =>
    intro s h
    refine codeAny_builtin F.entry_all_loop ?_
    rw [Around.under_plainId F.plain_all_loop _]
    show wpAny _ A.in1 (pyNext (.ref a) >>= _) _ _ s
    refine wpAny_bind (next_gx hob hh hroom h (fun b H s' I h1 h2 => ?_) fun H s' I hq => ?_)
    · cases b with
      | false =>
        refine wpAny_bind (wpAny_holding (wpAny_truthy_bool ?_))
        refine wpAny_bind (wpAny_letGo ?_)
        simp only [Bool.false_eq_true, if_false]
        exact wpAny_bind (wpAny_rule (wpAny_pure (hR false H _ (I.pins_of fun p hp => absurd hp (by simp)) (h1 rfl))))
      | true =>
        obtain ⟨m', e, _⟩ := h2 (by simp)
        cases e
    · exact wpAny_bind (wpAny_rule (wpAny_pure (hR true H _ I hq)))
  | succ m ih =>
    intro s h
    refine codeAny_builtin F.entry_all_loop ?_
    rw [Around.under_plainId F.plain_all_loop _]
    show wpAny _ A.in1 (pyNext (.ref a) >>= _) _ _ s
    refine wpAny_bind (next_gx hob hh hroom h (fun b H s' I h1 h2 => ?_) fun H s' I hq => ?_)
    · cases b with
      | false =>
        refine wpAny_bind (wpAny_holding (wpAny_truthy_bool ?_))
        refine wpAny_bind (wpAny_letGo ?_)
        simp only [Bool.false_eq_true, if_false]
        exact wpAny_bind (wpAny_rule (wpAny_pure (hR false H _ (I.pins_of fun p hp => absurd hp (by simp)) (h1 rfl))))
      | true =>
        obtain ⟨m', e, h3⟩ := h2 (by simp)
        cases e
        refine wpAny_bind (wpAny_holding (wpAny_truthy_bool ?_))
        refine wpAny_bind (wpAny_letGo ?_)
        simp only [if_true]
        exact wpAny_pure ⟨plainId_quiet F.plain_all_loop _, ih _ h3⟩
    · exact wpAny_bind (wpAny_rule (wpAny_pure (hR true H _ I hq)))
theorem any_gx (hob : ∀ h : Heap, h.get? a = some ob → h.IsGen a g) (hh : A.handled = none) (hroom : A.depth < recursionLimit) (hR : ∀ b H s', Inv G [] σ H s' → Q (.bl b) H → R (.ok (.ret (.bool b))) s') :
    ∀ (m : Nat) (s : Shared), Rdy G A.in1 a ob g σ true Q m s → codeAny (model G.prog G.w) A (.builtin "any.loop" ⟨[.ref a], []⟩) R s := by
  intro m
  induction m with
  | zero =>
    intro s h
    refine codeAny_builtin F.entry_any_loop ?_
    rw [Around.under_plainId F.plain_any_loop _]
    show wpAny _ A.in1 (pyNext (.ref a) >>= _) _ _ s
    refine wpAny_bind (next_gx hob hh hroom h (fun b H s' I h1 h2 => ?_) fun H s' I hq => ?_)
    · cases b with
      | true =>
        refine wpAny_bind (wpAny_holding (wpAny_truthy_bool ?_))
        refine wpAny_bind (wpAny_letGo ?_)
        simp only [if_true]
        exact wpAny_bind (wpAny_rule (wpAny_pure (hR true H _ (I.pins_of fun p hp => absurd hp (by simp)) (h1 rfl))))
      | false =>
        obtain ⟨m', e, _⟩ := h2 (by simp)
        cases e
    · exact wpAny_bind (wpAny_rule (wpAny_pure (hR false H _ I hq)))
  | succ m ih =>
    intro s h
    refine codeAny_builtin F.entry_any_loop ?_
    rw [Around.under_plainId F.plain_any_loop _]
    show wpAny _ A.in1 (pyNext (.ref a) >>= _) _ _ s
    refine wpAny_bind (next_gx hob hh hroom h (fun b H s' I h1 h2 => ?_) fun H s' I hq => ?_)
    · cases b with
      | true =>
        refine wpAny_bind (wpAny_holding (wpAny_truthy_bool ?_))
        refine wpAny_bind (wpAny_letGo ?_)
        simp only [if_true]
        exact wpAny_bind (wpAny_rule (wpAny_pure (hR true H _ (I.pins_of fun p hp => absurd hp (by simp)) (h1 rfl))))
      | false =>
        obtain ⟨m', e, h3⟩ := h2 (by simp)
        cases e
        refine wpAny_bind (wpAny_holding (wpAny_truthy_bool ?_))
        refine wpAny_bind (wpAny_letGo ?_)
        simp only [Bool.false_eq_true, if_false]
        exact wpAny_pure ⟨plainId_quiet F.plain_any_loop _, ih _ h3⟩
    · exact wpAny_bind (wpAny_rule (wpAny_pure (hR false H _ I hq)))
end
end Gx
namespace Gx
open L2 PySem.Spec PyProof.Rows PySem GenW LamX
theorem over_loop_gx {A : Around} {elt : Expr} {gens : List Comprehension} {scope : Scope} {pos : Pos} {it acc : Value} {env : PySem.Env} : A.over (.compLoop (.GeneratorExp elt gens scope pos) 0 it acc env) [] = A.deeper env := by
  first
    | rfl
    | (obtain ⟨hd, d, fr, gs, u⟩ := A; simp [Around.over, Around.deeper, marksOver, frameCount, unitsOf, envsOf, guardsOf, pushEnvs, pushGuards, Code.envs, Code.env?, Code.isFrame, Code.guards, Code.isGuard, Code.weight, Code.frames, Code.isCreation, Code.isCaller, Code.cUnits])
theorem over_start_gx {A : Around} {elt : Expr} {gens : List Comprehension} {scope : Scope} {pos : Pos} {it acc : Value} {env : PySem.Env} : A.over (.compStart (.GeneratorExp elt gens scope pos) 0 it acc env) [] = A.deeper env := by
  first
    | rfl
    | (obtain ⟨hd, d, fr, gs, u⟩ := A; simp [Around.over, Around.deeper, marksOver, frameCount, unitsOf, envsOf, guardsOf, pushEnvs, pushGuards, Code.envs, Code.env?, Code.isFrame, Code.guards, Code.isGuard, Code.weight, Code.frames, Code.isCreation, Code.isCaller, Code.cUnits])
def tGx (T : List (Addr × Str)) (stop : Bool) (wi : TI) (g : TG) (te : TE) (vs : List Nat) : TE := fun σ H Q => wi σ H fun J H1 => Tabs T H1 ∧ ∀ H2, ExtN H1 H2 → Tabs T H2 → ∃ W : Nat → Nat → Hp → Prop, (∃ m, W 0 m H2) ∧ GW J g te vs σ stop Q W
section
variable {X : Cx} {pins : List (Addr × Obj)} {σ : L2.St} {H : Hp} {s : Shared}
/-- the generator g, made in X, ready to be walked -/
def Made (X : Cx) (pins : List (Addr × Obj)) (σ : L2.St) (stop : Bool) (Q : VK) (u : Value) (s : Shared) : Prop :=
  ∃ (G : Cx) (a : Addr) (ob : Obj) (g : Nat) (σ' : L2.St) (m : Nat), u = .ref a ∧ G.prog = X.prog ∧ G.w = X.w ∧ (∀ h : Heap, h.get? a = some ob → h.IsGen a g) ∧ Rdy G X.A.in1 a ob g σ' stop Q m s ∧ ∀ H' s', Inv G [] σ' H' s' → Inv X pins σ H' s'
theorem gen_make {TT : List (Addr × Str)} {c P : Addr} {elt tg iter : Expr} {scope : Scope} {own : List (Str × Nat)} {gpos : Pos} {wi : TI} {g : TG} {te : TE} {stop : Bool} {Q : VK}
    (hc : X.calm = true) (hN : X.N.Nodup) (hd : X.A.handled = none) (hdp : X.A.depth < recursionLimit) (TB : LamX.TabB X.base X.mg c P) (hcode : X.env.code = .ref c) (hmT : (P, X.env.qual ++ "<genexpr>") ∈ TT) (hu : ∀ p ∈ TT, p.1 = P → p.2 = X.env.qual ++ "<genexpr>") (ok : GenB X.N X.env.scope scope own) (hi : PI X tg iter wi)
    (hg : ∀ (s : Shared) (H : Hp) (C : Addr) (code : Value) (bi : Addr) (fp : List Addr), PG (gxCx X (X.A.in1.in1.deeper (genEnv scope (cloFrom X.env.cells scope.names []) C code bi X.env)) s H (genEnv scope (cloFrom X.env.cells scope.names []) C code bi X.env) fp) tg g)
    (he : ∀ (s : Shared) (H : Hp) (C : Addr) (code : Value) (bi : Addr) (fp : List Addr), PE (gxCx X (X.A.in1.in1.deeper (genEnv scope (cloFrom X.env.cells scope.names []) C code bi X.env)) s H (genEnv scope (cloFrom X.env.cells scope.names []) C code bi X.env) fp) elt te)
    (hs : ∀ v, genFold iter X.env v = pure v) (I : Inv X pins σ H s) (h : tGx TT stop wi g te (own.map (·.2)) σ H Q) :
    wpAny (model X.prog X.w) X.A (eval (.GeneratorExp elt [⟨tg, iter, [], 0⟩] scope gpos) X.env) (Made X pins σ stop Q) X.xe s := by
  have hfree : ∀ y ∈ scope.names, y.2 = .free → ∃ c, X.env.cells.lookup y.1 = some c := fun y hy e => by
    rcases ok.free y hy e with k | k
    · exact I.ok.has _ (.inl k)
    · exact I.ok.has _ (.inr k)
  refine wpAny_GeneratorExp_make ok.co (closure_ok hfree) ok.cell ok.dot ok.kind hdp ?_ hs
  refine thn (hi.run pins s σ H _ I h) fun xv s1 hx => thn hx fun itv s2 h2 => ?_
  obtain ⟨it, fp, tn, J, H2, e, I2, T, st2, f2, hTT, q⟩ := h2
  obtain ⟨ps, hP, ht, ha⟩ := hTT _ hmT
  subst e
  refine ⟨I2.nolimit, ?_⟩
  have hPs : s2.heap.get? P = some { cls := .none, data := .fields ps } := I2.hok P _ hP
  have hPlt : P < s2.heap.objs.size := Heap.lt_size hPs
  have cd : PySem.W.CodeHd s2.heap c P := TB.code.keeps fun b u e => I2.bk b u e
  have sz : ∀ b ∈ fp, b < s2.heap.objs.size := fun b hb => by
    obtain ⟨o, e, _⟩ := T.obj _ _ st2 b hb
    exact Heap.lt_size e
  have cont : ∀ (code : Value) (h3 : Heap) (tk : Nat) (H3 : Hp), (∀ b o, b ≠ P → s2.heap.get? b = some o → h3.get? b = some o) → Heap.ExtBut P s2.heap h3 → Inv X pins σ H3 { s2 with heap := h3, toks := tk } → ExtN H2 H3 → Tabs TT H3 → (∀ b o, s2.heap.get? b = some o → H2 b = none → H3 b = none) →
      wpAny (model X.prog X.w) X.A (builtinsFor X.env.globals X.env.builtins) (fun bi s₄ =>
        ∀ h', h'.Ns s₄.heap.objs.size (fun y => if y = (".0" : Str) then some (.ref it) else none) → Heap.SameBut s₄.heap.objs.size (s₄.heap.push { cls := .type "frame", data := .dict #[] }) h' →
          Made X pins σ stop Q (.ref h'.objs.size) { s₄ with
            gens := s₄.gens.push (.fresh (.compStart (.GeneratorExp elt [⟨tg, iter, [], 0⟩] scope gpos) 0 (.ref it) .none (genEnv scope (cloFrom X.env.cells scope.names []) s₄.heap.objs.size code bi X.env))),
            toks := s₄.toks + 1 + 1 + 1,
            heap := h'.push { cls := .type "generator", data := .fields #[.int s₄.gens.size 0, .str "<genexpr>" (s₄.toks + 1), .str (X.env.qual ++ "<genexpr>") (s₄.toks + 1 + 1)] } }) X.xe { s2 with heap := h3, toks := tk } := by
    intro code h3 tk H3 keep3 hx I3 eN T3 nn
    obtain ⟨bm, ob, e1, e2, e3, e4, e5, e6, e7, e8⟩ := TB.bm
    refine wpAny_builtinsFor (m := X.mg) (by rw [I2.ok.glob]; exact (I2.mod.glob.keeps I2.bk).extBut hx TB.gP) e1 e2 (keep3 _ _ e4 (I2.bk _ _ e5)) e6 e7 e8 ?_
    intro h' hn' hs'
    obtain ⟨W, ⟨m, w0⟩, gw⟩ := q _ eN T3
    have neP : ∀ b ∈ fp, b ≠ P := fun b hb z => by
      have := (f2 b hb).1
      rw [z, hP] at this
      cases this
    have f3 : ∀ b ∈ fp, FpOk X pins H3 b ∧ b < h3.objs.size := fun b hb => by
      obtain ⟨o, e, _⟩ := T.obj _ _ st2 b hb
      exact ⟨⟨nn b o e (f2 b hb).1, (f2 b hb).2⟩, Heap.lt_size (keep3 b o (neP b hb) e)⟩
    have st3 : tn 0 h3 := T.keep _ _ _ st2 fun b hb o e => keep3 b o (neP b hb) e
    generalize hs3 : ({ s2 with heap := h3, toks := tk } : Shared) = s3 at I3 ⊢
    have hh3 : s3.heap = h3 := by rw [← hs3]
    rw [← hh3] at f3 st3
    have hn' : h'.Ns s3.heap.objs.size (fun y => if y = (".0" : Str) then some (.ref it) else none) := by rw [hh3]; exact hn'
    have hs' : Heap.SameBut s3.heap.objs.size (s3.heap.push { cls := .type "frame", data := .dict #[] }) h' := by rw [hh3]; exact hs'
    have hsz' : h'.objs.size = s3.heap.objs.size + 1 := by rw [hs'.1, Heap.size_push]
    have keep' : ∀ b o, s3.heap.get? b = some o → h'.get? b = some o := fun b o e => hs'.extBut b o (Nat.ne_of_lt (Heap.lt_size e)) (Heap.get?_push_of_some _ e)
    have goal : Made X pins σ stop Q (.ref h'.objs.size) { s3 with
            gens := s3.gens.push (.fresh (.compStart (.GeneratorExp elt [⟨tg, iter, [], 0⟩] scope gpos) 0 (.ref it) .none (genEnv scope (cloFrom X.env.cells scope.names []) s3.heap.objs.size code builtinsNs X.env))),
            toks := s3.toks + 1 + 1 + 1,
            heap := h'.push { cls := .type "generator", data := .fields #[.int s3.gens.size 0, .str "<genexpr>" (s3.toks + 1), .str (X.env.qual ++ "<genexpr>") (s3.toks + 1 + 1)] } } := by
      generalize hob : ({ cls := .type "generator", data := .fields #[.int s3.gens.size 0, .str "<genexpr>" (s3.toks + 1), .str (X.env.qual ++ "<genexpr>") (s3.toks + 1 + 1)] } : Obj) = ob
      have hobG : ∀ h : Heap, h.get? h'.objs.size = some ob → h.IsGen h'.objs.size s3.gens.size := fun h e => ⟨_, _, _, e, by rw [← hob], by rw [← hob], by rw [← hob]⟩
      generalize hge : genEnv scope (cloFrom X.env.cells scope.names []) s3.heap.objs.size code builtinsNs X.env = ge
      have hA : (X.A.in1.in1.deeper ge).handled = none := hd
      have hfr : (X.A.in1.in1.deeper ge).frames = some (ge :: X.stack) := by
        show X.A.frames.map (ge :: ·) = _
        rw [I3.ok.frames]
        rfl
      have kp : ∀ b o, s3.heap.get? b = some o → (h'.push ob).get? b = some o := fun b o e => Heap.get?_push_of_some _ (keep' b o e)
      have hbare : AllBare (s3.gens.push (.fresh (.compStart (.GeneratorExp elt [⟨tg, iter, [], 0⟩] scope gpos) 0 (.ref it) .none ge))) := I3.bare.push rfl
      have I4 := gx_start (A := X.A.in1.in1.deeper ge) (code := code) (bi := builtinsNs) (itv := .ref it) (h5 := h'.push ob) (gs := s3.gens.push (.fresh (.compStart (.GeneratorExp elt [⟨tg, iter, [], 0⟩] scope gpos) 0 (.ref it) .none ge))) (tk := s3.toks + 1 + 1 + 1)
        I3 ok hN f3 hA (by rw [hge]; exact hfr) rfl (hn'.push _) kp hbare
      rw [hge] at I4
      have pg := hg s3 H3 s3.heap.objs.size code builtinsNs fp
      have pe := he s3 H3 s3.heap.objs.size code builtinsNs fp
      rw [hge] at pg pe
      have geL : ge.locals = s3.heap.objs.size := by rw [← hge]; rfl
      have geS : ge.scope = scope := by rw [← hge]; rfl
      have haN : H3 h'.objs.size = none := I3.hok.fresh (by rw [hsz']; exact Nat.le_succ _)
      have hat : (h'.push ob).get? h'.objs.size = some ob := by
        refine Heap.get?_push_size _ ?_
        rw [← hob]
        rfl
      have fpa : ∀ b ∈ fp, b ≠ h'.objs.size := fun b hb z => by
        have := (f3 b hb).2
        rw [z, hsz'] at this
        exact absurd this (Nat.not_lt.mpr (Nat.le_succ _))
      have I5 := I4.pins_of (pins' := [(h'.objs.size, ob)]) fun p hp => by
        have : p = (h'.objs.size, ob) := by simpa using hp
        subst this
        refine ⟨hat, haN, ?_, ?_, ?_⟩
        · show h'.objs.size ≠ ge.locals
          rw [geL, hsz']
          exact Nat.ne_of_gt (Nat.lt_succ_self _)
        · intro z
          have z : h'.objs.size ∈ frs X.stack := z
          rcases List.mem_cons.mp (I3.stkSub _ z) with z | z
          · have h1 := I3.lt
            have h2 : h'.objs.size = X.env.locals := z
            rw [hsz'] at h2
            have h3 : X.env.locals < s3.heap.objs.size := h1
            rw [← h2] at h3
            exact absurd h3 (Nat.not_lt.mpr (Nat.le_succ _))
          · exact I3.nofs (by rw [hsz']; exact Nat.le_succ _) z
        · intro v
          rw [← hob]
          intro z
          cases z
      have st5 : tn 0 (h'.push ob) := T.keep _ _ _ st3 fun b _ o e => kp b o e
      refine ⟨gxCx X (X.A.in1.in1.deeper ge) s3 H3 ge fp, h'.objs.size, ob, s3.gens.size, wipe σ (own.map (·.2)), m, rfl, rfl, rfl, hobG, ⟨H3, I5, _, Array.getElem?_push_size .., fun g' hg' => ⟨rfl, ?_⟩⟩, fun H' s' I' => ?_⟩
      · have I6 := inv_gens I5 hg'
        have loop : ∀ s₀, _ := fun s₀ => seg_gx (G := gxCx X (X.A.in1.in1.deeper ge) s3 H3 ge fp) (A := X.A.in1.in1) (elt := elt) (tg := tg) (iter := iter) (scope := scope) (own := own) (pos := gpos) (it := it) (a := h'.objs.size) (ob := ob) (fp := fp) (tn := tn) (J := J) (g := g) (te := te) (stop := stop) (Q := Q) (W := W)
          rfl rfl rfl over_loop_gx rfl (by show ge.scope.isCoroutine = false; rw [geS]; exact ok.co) T pg pe fpa gw m 0 s₀ _ H3 w0 I6 st5 fun b hb => (f3 b hb).1.1
        show Seg _ X.A.in1.in1 _ _ _ _ _ ((compStart (.GeneratorExp elt [⟨tg, iter, [], 0⟩] scope gpos) 0 (.ref it) .none ge).onRaise (leaving ge)) [] _
        unfold compStart
        rw [Sem.onRaise_eq_wrap]
        show Seg _ X.A.in1.in1 _ _ _ _ _ ((ask >>= _).wrap _ _ _ _) [] _
        refine seg_bind_wrap (wpAny_askSetting ?_)
        split
        · exact seg_again rfl (loop _)
        · first
            | exact seg_bind_wrap (wpAny_rule (seg_bind_wrap (wpAny_standAt (seg_bind_wrap (T.self _ 0 _ _ _ st5 (seg_again rfl (loop _)))))))
            | (refine seg_bind_wrap (wpAny_rule ?_); show Seg _ X.A.in1.in1 _ _ _ _ _ ((standAt iter.pos >>= _).wrap _ _ _ _) [] _; exact seg_bind_wrap (wpAny_standAt (seg_bind_wrap (T.self _ 0 _ _ _ st5 (seg_again rfl (loop _))))))
      · exact I3.call' (ch := fp) I'.os I'.base I'.hok I'.bare fun b hb => ⟨(f3 b hb).1.2.2.2.1, (f3 b hb).1.2.1, (f3 b hb).1.2.2.2.2.1, (f3 b hb).1.2.2.2.2.2⟩
    rw [← hs3] at goal ⊢
    exact goal
  cases hf : codeAmong gpos ps.toList with
  | none =>
    refine wpAny_genexprCodeX hcode (cd.code hPs ht) (cd.tab hPs) hf fun c' h' tk hx hge hlt hco' hrec htab' _ => ?_
    obtain ⟨c3, oc, vs, t, e2, hoc, hd2, hv⟩ := hrec
    cases e2
    have nC : H2 c' = none := I2.hok.fresh hge
    have I3 := inv_table (t' := tk) (more := #[rawInt gpos.line, rawInt gpos.col, .ref c']) (h' := h') (q := X.env.qual ++ "<genexpr>") I2 hP (fun b o hb e => hx b o hb e) htab'.2 hge ⟨oc, vs, t, hoc, hd2, hv⟩
    have eL : (ps ++ #[rawInt gpos.line, rawInt gpos.col, .ref c']).toList = ps.toList ++ [rawInt gpos.line, rawInt gpos.col, .ref c'] := by simp
    have eN : ExtN H2 (upd (upd H2 P (.tbl (ps ++ #[rawInt gpos.line, rawInt gpos.col, .ref c']))) c' (CodeO c' (X.env.qual ++ "<genexpr>"))) := fun b o e n => by
      rw [upd_ne (ne_of_none e nC), upd_ne (fun z => n ps (Option.some.inj (e.symm.trans (by rw [z]; exact hP))))]
      exact e
    refine cont _ h' tk _ hx hx I3 eN (fun p hp => ?_) fun b o e n => ?_
    · by_cases hb : p.1 = P
      · rw [hu p hp hb, hb]
        refine ⟨_, by rw [upd_ne (ne_of_none hP nC), upd_same], by rw [eL]; exact PySem.TriplesOk_snoc _ _ _ _ ht, fun p' cv hcv => ?_⟩
        rw [eL] at hcv
        rcases among_app _ ht hcv with z | z
        · obtain ⟨c0, e1, e2⟩ := ha p' cv z
          exact ⟨c0, e1, eN _ _ e2 codeO_ne⟩
        · exact ⟨c', z, upd_same⟩
      · obtain ⟨ps', a1, a2, a3⟩ := hTT p hp
        refine ⟨ps', by rw [upd_ne (ne_of_none a1 nC), upd_ne hb]; exact a1, a2, fun p' cv hcv => ?_⟩
        obtain ⟨c0, e1, e2⟩ := a3 p' cv hcv
        exact ⟨c0, e1, eN _ _ e2 codeO_ne⟩
    · have n1 : b ≠ c' := Nat.ne_of_lt (Nat.lt_of_lt_of_le (Heap.lt_size e) hge)
      have n2 : b ≠ P := fun z => by
        rw [z, hP] at n
        cases n
      rw [upd_ne n1, upd_ne n2]
      exact n
  | some cv =>
    refine wpAny_genexprCode_hit hcode (cd.code hPs ht) hf ?_
    have I2' : Inv X pins σ H2 { s2 with heap := s2.heap, toks := s2.toks } := I2
    exact cont cv s2.heap s2.toks H2 (fun b o _ e => e) (Heap.ExtBut.refl _ _) I2' (ExtN.refl H2) hTT fun b o e n => n
theorem pe_allG {TT : List (Addr × Str)} {c P : Addr} {elt tg iter : Expr} {scope : Scope} {own : List (Str × Nat)} {p pos gpos : Pos} {wi : TI} {g : TG} {te : TE}
    (hgl : Gl X (Str.ofString "all")) (hm : X.mg (Str.ofString "all") = none) (hc : X.calm = true) (hN : X.N.Nodup) (hd : X.A.handled = none) (hdp : X.A.depth < recursionLimit) (TB : LamX.TabB X.base X.mg c P) (hcode : X.env.code = .ref c) (hmT : (P, X.env.qual ++ "<genexpr>") ∈ TT) (hu : ∀ p ∈ TT, p.1 = P → p.2 = X.env.qual ++ "<genexpr>") (ok : GenB X.N X.env.scope scope own) (hi : PI X tg iter wi)
    (hg : ∀ (s : Shared) (H : Hp) (C : Addr) (code : Value) (bi : Addr) (fp : List Addr), PG (gxCx X (X.A.in1.in1.deeper (genEnv scope (cloFrom X.env.cells scope.names []) C code bi X.env)) s H (genEnv scope (cloFrom X.env.cells scope.names []) C code bi X.env) fp) tg g)
    (he : ∀ (s : Shared) (H : Hp) (C : Addr) (code : Value) (bi : Addr) (fp : List Addr), PE (gxCx X (X.A.in1.in1.deeper (genEnv scope (cloFrom X.env.cells scope.names []) C code bi X.env)) s H (genEnv scope (cloFrom X.env.cells scope.names []) C code bi X.env) fp) elt te)
    (hs : ∀ v, genFold iter X.env v = pure v)
    (hst : starEach [.GeneratorExp elt [⟨tg, iter, [], 0⟩] scope gpos] X.env = (false, eval (.GeneratorExp elt [⟨tg, iter, [], 0⟩] scope gpos) X.env) :: starEach [] X.env := by rfl) :
    PE X (.Call (.Name (Str.ofString "all") p) [.GeneratorExp elt [⟨tg, iter, [], 0⟩] scope gpos] [] pos) (tGx TT false wi g te (own.map (·.2))) := by
  refine ⟨fun pins s σ H Q I h => ?_⟩
  refine wpAny_Call_Name_kw (ld_blt I hgl hm (show bootBuiltins (Str.ofString "all") = some (.builtin "all") by decide +kernel) ?_)
  refine PyProof.Rows.callWith_builtin1 ?_ hst (by rfl)
  rw [hst]
  show wpAny _ _ (spliced ((false, eval (.GeneratorExp elt [⟨tg, iter, [], 0⟩] scope gpos) X.env) :: backTo pos (starEach [] X.env))) _ _ s
  refine Calls.spliced_cons (thn (gen_make hc hN hd hdp TB hcode hmT hu ok hi hg he hs I h) fun u s5 hG => ?_)
  obtain ⟨G, a, ob, g0, σ', m, rfl, e1, e2, hob, rdy, back⟩ := hG
  refine Calls.spliced_nil ?_
  refine call_function_tree F.kind_all F.plain_all F.entry_all (F.args_all1 _) ?_
  unfold Builtin.«all»
  refine wpAny_bind (m := oneArg "all" _) (wpAny_pure ?_)
  have isG : s5.heap.IsGen a g0 := by
    obtain ⟨H', I', _⟩ := rdy
    exact hob _ (I'.pin (a, ob) (List.mem_append_right _ List.mem_cons_self)).1
  refine wpAny_bind (wpAny_pyIter_gen isG ?_)
  refine wpAny_pure ⟨plainId_quiet F.plain_all_loop _, ?_⟩
  rw [← e1, ← e2]
  refine all_gx (Q := Q) (σ := σ') hob hd hdp (fun b H' s' I' hq => ?_) m s5 rdy
  exact ⟨.bl b, H', back H' s' I', rfl, hq⟩
theorem pe_anyG {TT : List (Addr × Str)} {c P : Addr} {elt tg iter : Expr} {scope : Scope} {own : List (Str × Nat)} {p pos gpos : Pos} {wi : TI} {g : TG} {te : TE}
    (hgl : Gl X (Str.ofString "any")) (hm : X.mg (Str.ofString "any") = none) (hc : X.calm = true) (hN : X.N.Nodup) (hd : X.A.handled = none) (hdp : X.A.depth < recursionLimit) (TB : LamX.TabB X.base X.mg c P) (hcode : X.env.code = .ref c) (hmT : (P, X.env.qual ++ "<genexpr>") ∈ TT) (hu : ∀ p ∈ TT, p.1 = P → p.2 = X.env.qual ++ "<genexpr>") (ok : GenB X.N X.env.scope scope own) (hi : PI X tg iter wi)
    (hg : ∀ (s : Shared) (H : Hp) (C : Addr) (code : Value) (bi : Addr) (fp : List Addr), PG (gxCx X (X.A.in1.in1.deeper (genEnv scope (cloFrom X.env.cells scope.names []) C code bi X.env)) s H (genEnv scope (cloFrom X.env.cells scope.names []) C code bi X.env) fp) tg g)
    (he : ∀ (s : Shared) (H : Hp) (C : Addr) (code : Value) (bi : Addr) (fp : List Addr), PE (gxCx X (X.A.in1.in1.deeper (genEnv scope (cloFrom X.env.cells scope.names []) C code bi X.env)) s H (genEnv scope (cloFrom X.env.cells scope.names []) C code bi X.env) fp) elt te)
    (hs : ∀ v, genFold iter X.env v = pure v)
    (hst : starEach [.GeneratorExp elt [⟨tg, iter, [], 0⟩] scope gpos] X.env = (false, eval (.GeneratorExp elt [⟨tg, iter, [], 0⟩] scope gpos) X.env) :: starEach [] X.env := by rfl) :
    PE X (.Call (.Name (Str.ofString "any") p) [.GeneratorExp elt [⟨tg, iter, [], 0⟩] scope gpos] [] pos) (tGx TT true wi g te (own.map (·.2))) := by
  refine ⟨fun pins s σ H Q I h => ?_⟩
  refine wpAny_Call_Name_kw (ld_blt I hgl hm (show bootBuiltins (Str.ofString "any") = some (.builtin "any") by decide +kernel) ?_)
  refine PyProof.Rows.callWith_builtin1 ?_ hst (by rfl)
  rw [hst]
  show wpAny _ _ (spliced ((false, eval (.GeneratorExp elt [⟨tg, iter, [], 0⟩] scope gpos) X.env) :: backTo pos (starEach [] X.env))) _ _ s
  refine Calls.spliced_cons (thn (gen_make hc hN hd hdp TB hcode hmT hu ok hi hg he hs I h) fun u s5 hG => ?_)
  obtain ⟨G, a, ob, g0, σ', m, rfl, e1, e2, hob, rdy, back⟩ := hG
  refine Calls.spliced_nil ?_
  refine call_function_tree F.kind_any F.plain_any F.entry_any (F.args_any1 _) ?_
  unfold Builtin.«any»
  refine wpAny_bind (m := oneArg "any" _) (wpAny_pure ?_)
  have isG : s5.heap.IsGen a g0 := by
    obtain ⟨H', I', _⟩ := rdy
    exact hob _ (I'.pin (a, ob) (List.mem_append_right _ List.mem_cons_self)).1
  refine wpAny_bind (wpAny_pyIter_gen isG ?_)
  refine wpAny_pure ⟨plainId_quiet F.plain_any_loop _, ?_⟩
  rw [← e1, ← e2]
  refine any_gx (Q := Q) (σ := σ') hob hd hdp (fun b H' s' I' hq => ?_) m s5 rdy
  exact ⟨.bl b, H', back H' s' I', rfl, hq⟩
end
end Gx
/-! A small interpreter of Python over data trees; what it tells is what the model does. -/
namespace Itp
open L2 PySem.Spec PyProof.Rows PySem

/-! ### data -/
inductive Ty where
  | int | str | bool | list | tuple | dict | valueError
  deriving DecidableEq
def Ty.nm : Ty → String
  | .int => "int" | .str => "str" | .bool => "bool" | .list => "list" | .tuple => "tuple" | .dict => "dict" | .valueError => "ValueError"

inductive D where
  | non | bl (b : Bool) | int (i : Int) | str (x : Str)
  | tup (ds : List D) | lst (ds : List D) | dct (ks : List Key) (ds : List D)
  | obj (c : Nat) | cls (n : Nat) | ty (t : Ty) | exc (n : Nat) | rep (d : PyData)
inductive O where
  | lst (ds : List D) | dct (ks : List Key) (ds : List D) | dead
abbrev Sto := List O
abbrev Env := List (Option D)
inductive Out (α : Type) where
  | ok (a : α) (st : Sto) | exc (n : Nat) (st : Sto) | bad
def Out.bind {α β : Type} : Out α → (α → Sto → Out β) → Out β
  | .ok a st, f => f a st
  | .exc n st, _ => .exc n st
  | .bad, _ => .bad
def Out.of {α : Type} (st : Sto) : Option α → Out α
  | some a => .ok a st
  | none => .bad
inductive OutS where
  | nx (e : Env) (st : Sto) | rt (d : D) (st : Sto) | bk (e : Env) (st : Sto) | ct (e : Env) (st : Sto) | exc (n : Nat) (e : Env) (st : Sto) | bad

/-! ### syntax -/
inductive Bop where
  | add | sub | mul | fdiv | mod | pow
  deriving DecidableEq
inductive Cmp where
  | eq | ne | lt | le | gt | ge | is | isnot | isin | notin
  deriving DecidableEq
inductive Blt where
  | len | abs | repr | isinst | gcd | isqrt | tuple | list | int | str | sum | max | min | all | any | sorted | dict
  deriving DecidableEq
inductive Mth where
  | append | extend | index | join | split | get | update | pop
  deriving DecidableEq
inductive IK where
  | seq | range | enum | zip
  deriving DecidableEq
inductive Tg where
  | name (i : Nat) | tup (ts : List Tg)
inductive E where
  | lit (d : D) | var (i : Nat) | glob (n : Nat) | bin (o : Bop) (a b : E) | neg (a : E) | not (a : E) | cmp (c : Cmp) (a b : E) | chain (c c' : Cmp) (a b e : E)
  | bop (isAnd : Bool) (es : List E) | ite (c a b : E) | tup (es : List E) | lst (m : Bool) (es : List E) | ix (a b : E) | slc (a : E) (lo hi : List E)
  | call (f : Nat) (es : List E) | blt (b : Blt) (es : List E) | mth (m : Mth) (o : E) (es : List E)
  | comp (m : Bool) (own : List Nat) (tg : Tg) (ik : IK) (src : List E) (cond : List E) (elt : E)
  | gen (k : Bool) (own : List Nat) (tg : Tg) (ik : IK) (src : List E) (elt : E) | callL (f : Nat) (body : E) | act (i : Nat) | dct (m : Bool) (ks : List Key) (es : List E) | kin (neg : Bool) (a : E) (n : Nat) | kix (n : Nat) (b : E) | dget (a k : E) (df : List E) | slcK (a : E) (lo hi : List E) (k : Nat) | addM (a b : E) | rept (es : List E) (k : E) | kinT (neg : Bool) (a : E) (n : Nat) | tyis (neg : Bool) (a : E)
inductive S where
  | set (i : Nat) (e : E) | setT (tg : Tg) (e : E) | par (is : List Nat) (es : List E) | setIx (o k v : E) | aug (i : Nat) (o : Bop) (e : E) | ex (e : E) | ret (e : E) | retN
  | ifs (c : E) (a b : List S) | whl (c : E) (body : List S) | fors (tg : Tg) (ik : IK) (src : List E) (body : List S)
  | tryx (body : List S) (cls : Nat) (i j : Nat) | raise (cls : Nat) (msg : Str) | brk | cnt | pass | frz (i : Nat)

/-! ### what the primitives tell -/
def bits (i : Int) : Nat := i.natAbs.log2
/-- a product that the model reckons: one factor small, or both together below a million bits -/
def mulOk (i j : Int) : Bool := (decide (-(2 ^ 64) < i) && decide (i < 2 ^ 64)) || (decide (-(2 ^ 64) < j) && decide (j < 2 ^ 64)) || decide (bits i + bits j < 1000000)
def divOk (j : Int) : Bool := decide (j ≠ 0) && decide (bits j < 9000)
def powOk (i j : Int) : Bool := decide (0 ≤ j) && decide (j ≤ 1000000) && decide (i.natAbs < 2 ^ 64)
def powOk2 (i j : Int) : Bool := decide (0 ≤ j) && decide (j ≤ 1000) && decide (bits i < 100000)
def lim (n : Nat) : Bool := decide (n ≤ sizeLine)
def repT (n : Nat) (k : Int) : Bool := decide (0 < n) && (decide (n ≤ 1000) && (decide (2 ≤ k) && decide (k ≤ 1000)))
def repop (ds : List D) : D → Option D
  | .int k => if decide (0 ≤ k) && (decide (k ≤ 1000) && decide (ds.length ≤ 1000)) then some (.lst (List.replicate k.toNat ds).flatten) else none
  | _ => none
def binop : Bop → D → D → Option D
  | .add, .int i, .int j => some (.int (i + j))
  | .sub, .int i, .int j => some (.int (i - j))
  | .mul, .int i, .int j => if mulOk i j then some (.int (i * j)) else none
  | .fdiv, .int i, .int j => if divOk j then some (.int (i.fdiv j)) else none
  | .mod, .int i, .int j => if decide (j ≠ 0) then some (.int (i.fmod j)) else none
  | .pow, .int i, .int j => if powOk i j || powOk2 i j then some (.int (i ^ j.toNat)) else none
  | .add, .str x, .str y => if lim (x.length + y.length) then some (.str (x ++ y)) else none
  | .add, .lst a, .lst b => if lim (a.length + b.length) then some (.lst (a ++ b)) else none
  | .add, .tup a, .tup b => if lim (a.length + b.length) then some (.tup (a ++ b)) else none
  | .mul, .tup a, .int k => if repT a.length k then some (.tup (List.replicate k.toNat a).flatten) else none
  | _, _, _ => none

mutual
def peq : PyData → PyData → Bool
  | .none, .none => true
  | .bool a, .bool b => a == b
  | .int i, .int j => decide (i = j)
  | .str x, .str y => decide (x = y)
  | .list xs, .list ys => peqs xs ys
  | .tuple xs, .tuple ys => peqs xs ys
  | _, _ => false
def peqs : List PyData → List PyData → Bool
  | [], [] => true
  | x :: xs, y :: ys => peq x y && peqs xs ys
  | _, _ => false
end
mutual
theorem peq_eq : ∀ {a b : PyData}, peq a b = true → a = b
  | .none, b, h => by cases b <;> first | rfl | (simp [peq] at h)
  | .bool x, b, h => by cases b <;> simp [peq] at h; rw [h]
  | .int x, b, h => by cases b <;> simp [peq] at h; rw [h]
  | .str x, b, h => by cases b <;> simp [peq] at h; rw [h]
  | .list xs, b, h => by
    cases b <;> simp [peq] at h
    rw [peqs_eq h]
  | .tuple xs, b, h => by
    cases b <;> simp [peq] at h
    rw [peqs_eq h]
  | .dict xs, b, h => by cases b <;> simp [peq] at h
theorem peqs_eq : ∀ {a b : List PyData}, peqs a b = true → a = b
  | [], b, h => by cases b <;> first | rfl | (simp [peqs] at h)
  | x :: xs, b, h => by
    cases b with
    | nil => simp [peqs] at h
    | cons y ys =>
      simp [peqs] at h
      rw [peq_eq h.1, peqs_eq h.2]
end

/-- equality as Python tells it; none: not told here -/
def teq (x y : Bool) : Option Bool := some (x == y)
mutual
def deq : D → D → Option Bool
  | .non, .non => some true
  | .bl a, .bl b => some (a == b)
  | .bl a, .int j => some ((if a then 1 else 0) == j)
  | .int i, .bl b => some (i == (if b then 1 else 0))
  | .int i, .int j => some (i == j)
  | .str x, .str y => some (x == y)
  | .rep d, .rep e => if peq d e then some true else none
  | .rep d, .str x => some (d.shown == x)
  | .str x, .rep d => some (x == d.shown)
  | .lst xs, .lst ys => deqs xs ys
  | .tup xs, .tup ys => deqs xs ys
  | .non, .bl _ | .non, .int _ | .non, .str _ | .non, .lst _ | .non, .tup _ | .non, .rep _ => some false
  | .bl _, .non | .bl _, .str _ | .bl _, .lst _ | .bl _, .tup _ | .bl _, .rep _ => some false
  | .int _, .non | .int _, .str _ | .int _, .lst _ | .int _, .tup _ | .int _, .rep _ => some false
  | .str _, .non | .str _, .bl _ | .str _, .int _ | .str _, .lst _ | .str _, .tup _ => some false
  | .rep _, .non | .rep _, .bl _ | .rep _, .int _ | .rep _, .lst _ | .rep _, .tup _ => some false
  | .lst _, .non | .lst _, .bl _ | .lst _, .int _ | .lst _, .str _ | .lst _, .tup _ | .lst _, .rep _ => some false
  | .tup _, .non | .tup _, .bl _ | .tup _, .int _ | .tup _, .str _ | .tup _, .lst _ | .tup _, .rep _ => some false
  | _, _ => none
def deqs : List D → List D → Option Bool
  | [], [] => some true
  | x :: xs, y :: ys => match deq x y with
    | some true => deqs xs ys
    | some false => some false
    | none => none
  | [], _ :: _ => some false
  | _ :: _, [] => some false
end
mutual
/-- the library's own data, for what it reads whole -/
def toPy : D → Option PyData
  | .non => some .none
  | .bl b => some (.bool b)
  | .int i => some (.int i)
  | .str x => some (.str x)
  | .rep d => some (.str d.shown)
  | .lst ds => (toPys ds).map .list
  | .tup ds => (toPys ds).map .tuple
  | _ => none
def toPys : List D → Option (List PyData)
  | [] => some []
  | d :: ds => match toPy d, toPys ds with
    | some a, some b => some (a :: b)
    | _, _ => none
end
def flat : D → Bool
  | .non | .bl _ | .int _ | .str _ | .rep _ => true
  | _ => false
mutual
/-- what == reads whole: no dict, not too deep, texts of signs that there are -/
def eqOk (n : Nat) : D → Bool
  | .non | .bl _ | .int _ => true
  | .str x => PyData.canLay0 (.str x)
  | .rep p => PyData.canLay0 (.str p.shown)
  | .lst ds | .tup ds => decide (0 < n) && eqOks (n - 1) ds
  | _ => false
def eqOks (n : Nat) : List D → Bool
  | [] => true
  | d :: ds => eqOk n d && eqOks n ds
end
end Itp
namespace Itp
open L2 PySem.Spec PyProof.Rows PySem

/-! ### how data lie in the heap -/
/-- an exception that is held: its class, its own dict is none -/
def ExC (C a : Addr) : HO := .ext fun h => ∃ (oe : Obj) (vs : Array Value), h.get? a = some oe ∧ oe.cls = .ref C ∧ oe.dict = none ∧ oe.data = .fields vs
structure Wd where
  F : Hp
  r : Nat → Addr
  G : Hp
section
variable (K : PySem.W.Frag) (cl : Nat → Addr)
mutual
/-- the value v is d: what is shared stands in F, what may change at the cells, below n of them -/
inductive Rp (F : Hp) (r : Nat → Addr) (n : Nat) : V → D → Prop where
  | non : Rp F r n .non .non
  | bl (b : Bool) : Rp F r n (.bl b) (.bl b)
  | int (i : Int) : Rp F r n (.int i) (.int i)
  | str (x : Str) : Rp F r n (.str x) (.str x)
  | rep (d : PyData) : Rp F r n (.str d.shown) (.rep d)
  | tup {a : Addr} {vs : List V} {ds : List D} (h : SqT K F a vs) (hs : RpL F r n vs ds) : Rp F r n (.ref a) (.tup ds)
  | lst {a : Addr} {vs : List V} {ds : List D} (h : SqL K F a vs) (hs : RpL F r n vs ds) : Rp F r n (.ref a) (.lst ds)
  | dct {a : Addr} {kvs : List (Key × V)} {ks : List Key} {ds : List D} (h : F a = some (.dK kvs)) (hk : kvs.map (·.1) = ks) (hs : RpL F r n (kvs.map (·.2)) ds) : Rp F r n (.ref a) (.dct ks ds)
  | obj (c : Nat) (h : c < n) : Rp F r n (.ref (r c)) (.obj c)
  | cls (m : Nat) : Rp F r n (.ref (cl m)) (.cls m)
  | ty (t : Ty) : Rp F r n (.ty t.nm) (.ty t)
  | exc {a : Addr} (m : Nat) (h : F a = some (ExC (cl m) a)) : Rp F r n (.ref a) (.exc m)
inductive RpL (F : Hp) (r : Nat → Addr) (n : Nat) : List V → List D → Prop where
  | nil : RpL F r n [] []
  | cons {v : V} {d : D} {vs : List V} {ds : List D} (h : Rp F r n v d) (hs : RpL F r n vs ds) : RpL F r n (v :: vs) (d :: ds)
end
end
/-- more is shared, the cells below n are where they were -/
structure Le (n : Nat) (W W' : Wd) : Prop where
  sub : ∀ a o, W.F a = some o → W'.F a = some o
  at_ : ∀ c, c < n → W'.r c = W.r c
  g : W'.G = W.G
theorem Le.refl (n : Nat) (W : Wd) : Le n W W := ⟨fun _ _ h => h, fun _ _ => rfl, rfl⟩
theorem Le.trans {n m : Nat} {W W1 W2 : Wd} (a : Le n W W1) (b : Le m W1 W2) (h : n ≤ m) : Le n W W2 :=
  ⟨fun x o q => b.sub x o (a.sub x o q), fun c q => (b.at_ c (Nat.lt_of_lt_of_le q h)).trans (a.at_ c q), b.g.trans a.g⟩
theorem Rd.up {F F' : Hp} {a : Addr} {u : HO} (s : ∀ a o, F a = some o → F' a = some o) (h : Rd F a u) : Rd F' a u := h.elim (fun q => .inl (s _ _ q)) fun ⟨o, q⟩ => .inr ⟨o, s _ _ q⟩
theorem SqL.up {K : PySem.W.Frag} {F F' : Hp} {a : Addr} {xs : List V} (s : ∀ a o, F a = some o → F' a = some o) (h : SqL K F a xs) : SqL K F' a xs := h.elim (fun q => .inl (Itp.Rd.up s q)) .inr
theorem SqT.up {K : PySem.W.Frag} {F F' : Hp} {a : Addr} {xs : List V} (s : ∀ a o, F a = some o → F' a = some o) (h : SqT K F a xs) : SqT K F' a xs := h.elim (fun q => .inl (Itp.Rd.up s q)) .inr
section
variable {K : PySem.W.Frag} {cl : Nat → Addr}
mutual
theorem Rp.up {F F' : Hp} {r r' : Nat → Addr} {n n' : Nat} (s : ∀ a o, F a = some o → F' a = some o) (e : ∀ c, c < n → r' c = r c) (le : n ≤ n') : ∀ {v : V} {d : D}, Rp K cl F r n v d → Rp K cl F' r' n' v d
  | _, _, .non => .non
  | _, _, .bl b => .bl b
  | _, _, .int i => .int i
  | _, _, .str x => .str x
  | _, _, .rep d => .rep d
  | _, _, .tup h hs => .tup (Itp.SqT.up s h) (RpL.up s e le hs)
  | _, _, .lst h hs => .lst (Itp.SqL.up s h) (RpL.up s e le hs)
  | _, _, .dct h hk hs => .dct (s _ _ h) hk (RpL.up s e le hs)
  | _, _, .obj c h => by
    rw [← e c h]
    exact .obj c (Nat.lt_of_lt_of_le h le)
  | _, _, .cls m => .cls m
  | _, _, .ty t => .ty t
  | _, _, .exc m h => .exc m (s _ _ h)
theorem RpL.up {F F' : Hp} {r r' : Nat → Addr} {n n' : Nat} (s : ∀ a o, F a = some o → F' a = some o) (e : ∀ c, c < n → r' c = r c) (le : n ≤ n') : ∀ {vs : List V} {ds : List D}, RpL K cl F r n vs ds → RpL K cl F' r' n' vs ds
  | _, _, .nil => .nil
  | _, _, .cons h hs => .cons (Rp.up s e le h) (RpL.up s e le hs)
end
theorem RpL.length {F : Hp} {r : Nat → Addr} {n : Nat} : ∀ {vs : List V} {ds : List D}, RpL K cl F r n vs ds → vs.length = ds.length
  | _, _, .nil => rfl
  | _, _, .cons _ hs => by rw [List.length_cons, List.length_cons, RpL.length hs]
theorem RpL.append {F : Hp} {r : Nat → Addr} {n : Nat} : ∀ {vs : List V} {ds : List D} {ws : List V} {es : List D}, RpL K cl F r n vs ds → RpL K cl F r n ws es → RpL K cl F r n (vs ++ ws) (ds ++ es)
  | _, _, _, _, .nil, q => q
  | _, _, _, _, .cons h hs, q => .cons h (RpL.append hs q)
theorem RpL.rep {F : Hp} {r : Nat → Addr} {n : Nat} {vs : List V} {ds : List D} (h : RpL K cl F r n vs ds) : ∀ k : Nat, RpL K cl F r n (List.replicate k vs).flatten (List.replicate k ds).flatten
  | 0 => .nil
  | k + 1 => by
    rw [List.replicate_succ, List.replicate_succ, List.flatten_cons, List.flatten_cons]
    exact RpL.append h (RpL.rep h k)
theorem RpL.get {F : Hp} {r : Nat → Addr} {n : Nat} : ∀ {vs : List V} {ds : List D} {i : Nat} {d : D}, RpL K cl F r n vs ds → ds[i]? = some d → ∃ v, vs[i]? = some v ∧ Rp K cl F r n v d
  | _, _, _, _, .nil, q => by simp at q
  | _, _, 0, _, .cons h hs, q => by
    simp at q
    subst q
    exact ⟨_, rfl, h⟩
  | _, _, i + 1, d, .cons h hs, q => by
    obtain ⟨v, h1, h2⟩ := RpL.get (i := i) (d := d) hs (by simpa using q)
    exact ⟨v, by simpa using h1, h2⟩
theorem RpL.get' {F : Hp} {r : Nat → Addr} {n : Nat} {vs : List V} {ds : List D} {i : Nat} {v : V} (h : RpL K cl F r n vs ds) (q : vs[i]? = some v) : ∃ d, ds[i]? = some d ∧ Rp K cl F r n v d := by
  have hl := h.length
  obtain ⟨hi, _⟩ := List.getElem?_eq_some_iff.mp q
  obtain ⟨v', h1, h2⟩ := h.get (d := ds[i]'(by omega)) (List.getElem?_eq_getElem (by omega))
  rw [q] at h1
  cases h1
  exact ⟨_, List.getElem?_eq_getElem (by omega), h2⟩
theorem RpL.set {F : Hp} {r : Nat → Addr} {n : Nat} {v : V} {d : D} (q : Rp K cl F r n v d) : ∀ {vs : List V} {ds : List D} (i : Nat), RpL K cl F r n vs ds → RpL K cl F r n (vs.set i v) (ds.set i d)
  | _, _, _, .nil => .nil
  | _, _, 0, .cons _ hs => .cons q hs
  | _, _, i + 1, .cons h hs => .cons h (RpL.set q i hs)
theorem RpL.take {F : Hp} {r : Nat → Addr} {n : Nat} : ∀ {vs : List V} {ds : List D} (k : Nat), RpL K cl F r n vs ds → RpL K cl F r n (vs.take k) (ds.take k)
  | _, _, 0, _ => .nil
  | _, _, _ + 1, .nil => .nil
  | _, _, k + 1, .cons h hs => .cons h (RpL.take k hs)
theorem RpL.drop {F : Hp} {r : Nat → Addr} {n : Nat} : ∀ {vs : List V} {ds : List D} (k : Nat), RpL K cl F r n vs ds → RpL K cl F r n (vs.drop k) (ds.drop k)
  | _, _, 0, q => q
  | _, _, _ + 1, .nil => .nil
  | _, _, k + 1, .cons h hs => RpL.drop k hs
/-- what a name holds, seen as it is now: a cell by what stands in it -/
inductive Rv (K : PySem.W.Frag) (cl : Nat → Addr) (W : Wd) (n : Nat) (H : Hp) : V → D → Prop where
  | of {v : V} {d : D} (h : Rp K cl W.F W.r n v d) : Rv K cl W n H v d
  | lst {a : Addr} {vs : List V} {ds : List D} (h : SqL K H a vs) (hs : RpL K cl W.F W.r n vs ds) : Rv K cl W n H (.ref a) (.lst ds)
  | dct {a : Addr} {kvs : List (Key × V)} {ks : List Key} {ds : List D} (h : H a = some (.dK kvs)) (hk : kvs.map (·.1) = ks) (hs : RpL K cl W.F W.r n (kvs.map (·.2)) ds) : Rv K cl W n H (.ref a) (.dct ks ds)
def OR (K : PySem.W.Frag) (cl : Nat → Addr) (W : Wd) (n : Nat) (H : Hp) (a : Addr) : O → Prop
  | .lst ds => ∃ vs, H a = some (.lst vs) ∧ RpL K cl W.F W.r n vs ds
  | .dct ks ds => ∃ kvs, H a = some (.dK kvs) ∧ kvs.map (·.1) = ks ∧ RpL K cl W.F W.r n (kvs.map (·.2)) ds
  | .dead => True
/-- where the running def's own cells begin; how far each older one leans -/
structure Lv where
  b : Nat
  L : Nat → Nat
  le : ∀ c, c < b → L c ≤ b
  /-- the tables of code objects, and what their entries are called; what else is known as long as the def runs -/
  T : List (Addr × Str) := []
  inv : Wd → Nat → Prop := fun _ _ => True
  mono : ∀ {W W' : Wd} {n m : Nat}, (∀ a o, W.F a = some o → W'.F a = some o) → (∀ c, c < n → W'.r c = W.r c) → n ≤ m → inv W n → inv W' m := by intros; trivial
def lvl (base : Lv) (n c : Nat) : Nat := if c < base.b then base.L c else n
structure SR (K : PySem.W.Frag) (cl : Nat → Addr) (base : Lv) (W : Wd) (st : Sto) (H : Hp) : Prop where
  sub : ∀ a o, W.F a = some o → H a = some o
  inj : ∀ c c' o o', st[c]? = some o → o ≠ .dead → st[c']? = some o' → o' ≠ .dead → W.r c = W.r c' → c = c'
  apart : ∀ c o, st[c]? = some o → o ≠ .dead → W.F (W.r c) = none
  trk : ∀ c o, st[c]? = some o → o ≠ .dead → ∃ u, H (W.r c) = some u
  cell : ∀ c o, st[c]? = some o → OR K cl W (lvl base st.length c) H (W.r c) o
  ge : base.b ≤ st.length
  held : ∀ a o, W.G a = some o → H a = some o
  hF : ∀ a o, W.G a = some o → W.F a = none
  hr : ∀ c o, st[c]? = some o → o ≠ .dead → W.G (W.r c) = none
  tab : LamX.Tabs base.T H
  ftb : ∀ a ps, W.F a ≠ some (.tbl ps)
  gls : ∀ a o, W.G a = some o → (∃ vs, o = .lst vs) ∨ ∃ kvs, o = .dK kvs
  inv : base.inv W st.length
theorem lvl_le {base : Lv} {n c : Nat} (h : base.b ≤ n) : lvl base n c ≤ n := by
  unfold lvl
  split
  · rename_i hc
    exact Nat.le_trans (base.le c hc) h
  · exact Nat.le_refl _
theorem OR.up {W W' : Wd} {n n' : Nat} {H : Hp} {a : Addr} {o : O} (l : Le n W W') (le : n ≤ n') (h : OR K cl W n H a o) : OR K cl W' n' H a o := by
  cases o with
  | lst ds =>
    obtain ⟨vs, h1, h2⟩ := h
    exact ⟨vs, h1, h2.up l.sub l.at_ le⟩
  | dct ks ds =>
    obtain ⟨kvs, h1, h2, h3⟩ := h
    exact ⟨kvs, h1, h2, h3.up l.sub l.at_ le⟩
  | dead => trivial
theorem OR.heap {W : Wd} {n : Nat} {H H' : Hp} {a : Addr} {o : O} (e : ∀ o, H a = some o → H' a = some o) (h : OR K cl W n H a o) : OR K cl W n H' a o := by
  cases o with
  | lst ds =>
    obtain ⟨vs, h1, h2⟩ := h
    exact ⟨vs, e _ h1, h2⟩
  | dct ks ds =>
    obtain ⟨kvs, h1, h2, h3⟩ := h
    exact ⟨kvs, e _ h1, h2, h3⟩
  | dead => trivial
/-- what a table says holds while tables and things of other kinds stay -/
def Kx (H H' : Hp) : Prop := ∀ b o, H b = some o → ((∃ ps, o = .tbl ps) ∨ ∃ φ, o = .ext φ) → H' b = some o
theorem tabs_kx {T : List (Addr × Str)} {H H' : Hp} (h : LamX.Tabs T H) (e : Kx H H') : LamX.Tabs T H' := fun p hp => by
  obtain ⟨ps, h1, h2, h3⟩ := h p hp
  refine ⟨ps, e _ _ h1 (.inl ⟨_, rfl⟩), h2, fun pos cv hc => ?_⟩
  obtain ⟨c, e1, e2⟩ := h3 pos cv hc
  exact ⟨c, e1, e _ _ e2 (.inr ⟨_, rfl⟩)⟩
theorem Kx.fresh {H : Hp} {p : Addr} {o : HO} (hp : H p = none) : Kx H (upd H p o) := fun b u e _ => by
  rw [upd_ne (ne_of_none e hp)]
  exact e
theorem Kx.over {H : Hp} {p : Addr} {o o' : HO} (hp : H p = some o') (h : (∃ vs, o' = .lst vs) ∨ ∃ kvs, o' = .dK kvs) : Kx H (upd H p o) := fun b u e x => by
  have : b ≠ p := fun z => by
    subst z
    rw [hp] at e
    cases e
    rcases h with ⟨_, rfl⟩ | ⟨_, rfl⟩ <;> rcases x with ⟨_, x⟩ | ⟨_, x⟩ <;> cases x
  rw [upd_ne this]
  exact e
/-- a new shared object -/
theorem SR.share {base : Lv} {W : Wd} {st : Sto} {H : Hp} (h : SR K cl base W st H) {p : Addr} {o : HO} (hp : H p = none) (ht : ∀ ps, o ≠ .tbl ps := by intro _ z; cases z) :
    SR K cl base ⟨upd W.F p o, W.r, W.G⟩ st (upd H p o) ∧ Le st.length W ⟨upd W.F p o, W.r, W.G⟩ := by
  have fp : W.F p = none := by
    cases e : W.F p with
    | none => rfl
    | some u =>
      rw [h.sub p u e] at hp
      cases hp
  have ne : ∀ c u, st[c]? = some u → u ≠ .dead → W.r c ≠ p := fun c u hc nd e => by
    obtain ⟨u, hu⟩ := h.trk c u hc nd
    rw [e, hp] at hu
    cases hu
  have gp : ∀ a u, W.G a = some u → a ≠ p := fun a u q e => by
    rw [e] at q
    rw [h.held p u q] at hp
    cases hp
  have sb : ∀ a u, W.F a = some u → upd W.F p o a = some u := fun a u q => by
    have : a ≠ p := fun e => by
      rw [e, fp] at q
      cases q
    rw [upd_ne this]
    exact q
  have l : ∀ m, Le m W ⟨upd W.F p o, W.r, W.G⟩ := fun m => ⟨sb, fun _ _ => rfl, rfl⟩
  refine ⟨⟨fun a u q => ?_, h.inj, fun c u q nd => ?_, fun c v hc nd => ?_, fun c u q => ?_, h.ge, fun a u q => by rw [upd_ne (gp a u q)]; exact h.held a u q, fun a u q => (upd_ne (gp a u q)).trans (h.hF a u q), h.hr, tabs_kx h.tab (Kx.fresh hp), fun a ps q => ?_, h.gls, base.mono sb (fun _ _ => rfl) (Nat.le_refl _) h.inv⟩, l _⟩
  · have q : upd W.F p o a = some u := q
    by_cases e : a = p
    · subst e
      rw [upd_same] at q ⊢
      exact q
    · rw [upd_ne e] at q ⊢
      exact h.sub a u q
  · show upd W.F p o (W.r c) = none
    rw [upd_ne (ne c u q nd)]
    exact h.apart c u q nd
  · obtain ⟨u, hu⟩ := h.trk c v hc nd
    exact ⟨u, by rw [upd_ne (ne c v hc nd)]; exact hu⟩
  · by_cases nd : u = .dead
    · subst nd
      trivial
    · refine OR.heap (fun v hu => ?_) ((h.cell c u q).up (l _) (Nat.le_refl _))
      rw [upd_ne (ne c u q nd)]
      exact hu
  · have q : upd W.F p o a = some (.tbl ps) := q
    by_cases e : a = p
    · subst e
      rw [upd_same] at q
      cases q
      exact ht _ rfl
    · rw [upd_ne e] at q
      exact h.ftb a ps q
def Wd.put (W : Wd) (n : Nat) (p : Addr) : Wd := ⟨W.F, fun c => if c = n then p else W.r c, W.G⟩
theorem Wd.put_le (W : Wd) (n : Nat) (p : Addr) : Le n W (W.put n p) := ⟨fun _ _ h => h, fun c h => if_neg (Nat.ne_of_lt h), rfl⟩
theorem Wd.put_self (W : Wd) (n : Nat) (p : Addr) : (W.put n p).r n = p := if_pos rfl
theorem get_snoc {st : Sto} {o u : O} {c : Nat} (q : (st ++ [o])[c]? = some u) : (c < st.length ∧ st[c]? = some u) ∨ (c = st.length ∧ u = o) := by
  by_cases hc : c < st.length
  · rw [List.getElem?_append_left hc] at q
    exact .inl ⟨hc, q⟩
  · have hc2 := (List.getElem?_eq_some_iff.mp q).1
    rw [List.length_append, List.length_singleton] at hc2
    have e : c = st.length := by omega
    subst e
    rw [List.getElem?_append_right (Nat.le_refl _), Nat.sub_self] at q
    simp at q
    exact .inr ⟨rfl, q.symm⟩
/-- a new cell -/
theorem SR.fresh {base : Lv} {W : Wd} {st : Sto} {H : Hp} (h : SR K cl base W st H) {p : Addr} {u : HO} {o : O} (hp : H p = none) (hu : ∀ H', H' p = some u → OR K cl W st.length H' p o) :
    SR K cl base (W.put st.length p) (st ++ [o]) (upd H p u) ∧ Le st.length W (W.put st.length p) := by
  have ne : ∀ c v, st[c]? = some v → v ≠ .dead → W.r c ≠ p := fun c v hc nd e => by
    obtain ⟨u, hu⟩ := h.trk c v hc nd
    rw [e, hp] at hu
    cases hu
  have fp : W.F p = none := by
    cases e : W.F p with
    | none => rfl
    | some u =>
      rw [h.sub p u e] at hp
      cases hp
  have l := W.put_le st.length p
  have rc : ∀ c, c < st.length → (W.put st.length p).r c = W.r c := l.at_
  have rn : (W.put st.length p).r st.length = p := W.put_self _ _
  have gp : ∀ a u, W.G a = some u → a ≠ p := fun a u q e => by
    rw [e] at q
    rw [h.held p u q] at hp
    cases hp
  have gn : W.G p = none := by
    cases e : W.G p with
    | none => rfl
    | some u => exact absurd rfl (gp p u e)
  refine ⟨⟨fun a v q => ?_, fun c c' v v' hc nd hc' nd' e => ?_, fun c v q nd => ?_, fun c v hc nd => ?_, fun c v q => ?_, ?_, fun a u q => by rw [upd_ne (gp a u q)]; exact h.held a u q, h.hF, fun c v hc nd => ?_, tabs_kx h.tab (Kx.fresh hp), h.ftb, h.gls, base.mono l.sub l.at_ (by rw [List.length_append]; omega) h.inv⟩, l⟩
  · have : a ≠ p := fun e => by
      rw [e] at q
      rw [show W.F p = some v from q] at fp
      cases fp
    rw [upd_ne this]
    exact h.sub a v q
  · rcases get_snoc hc with ⟨h1, q1⟩ | ⟨rfl, _⟩ <;> rcases get_snoc hc' with ⟨h2, q2⟩ | ⟨h2, _⟩
    · rw [rc c h1, rc c' h2] at e
      exact h.inj c c' _ _ q1 nd q2 nd' e
    · rw [h2, rn, rc c h1] at e
      exact absurd e (ne c _ q1 nd)
    · rw [rn, rc c' h2] at e
      exact absurd e.symm (ne c' _ q2 nd')
    · exact h2.symm
  · rcases get_snoc q with ⟨h1, q1⟩ | ⟨rfl, _⟩
    · rw [rc c h1]
      exact h.apart c v q1 nd
    · rw [rn]
      exact fp
  · rcases get_snoc hc with ⟨h1, q1⟩ | ⟨rfl, _⟩
    · obtain ⟨w, hv⟩ := h.trk c v q1 nd
      exact ⟨w, by rw [rc c h1, upd_ne (ne c v q1 nd)]; exact hv⟩
    · rw [rn]
      exact ⟨u, upd_same⟩
  · rcases get_snoc q with ⟨hc, q1⟩ | ⟨rfl, rfl⟩
    · by_cases nd : v = .dead
      · subst nd
        trivial
      · rw [rc c hc]
        have lv : lvl base st.length c ≤ lvl base (st ++ [o]).length c := by
          unfold lvl
          rw [List.length_append]
          split <;> omega
        refine OR.heap (fun v' hv => ?_) ((h.cell c v q1).up ⟨l.sub, fun d hd => l.at_ d (Nat.lt_of_lt_of_le hd (lvl_le h.ge)), rfl⟩ lv)
        rw [upd_ne (ne c v q1 nd)]
        exact hv
    · rw [rn]
      have : ¬ st.length < base.b := Nat.not_lt.mpr h.ge
      unfold lvl
      rw [if_neg this, List.length_append]
      exact (hu _ upd_same).up l (Nat.le_add_right _ _)
  · rw [List.length_append]
    exact Nat.le_trans h.ge (Nat.le_add_right _ _)
  · rcases get_snoc hc with ⟨h1, q1⟩ | ⟨rfl, _⟩
    · rw [rc c h1]
      exact h.hr c v q1 nd
    · rw [rn]
      exact gn
/-- a cell that stands for a thing that is not looked into -/
theorem SR.freshD {base : Lv} {W : Wd} {st : Sto} {H : Hp} (h : SR K cl base W st H) (p : Addr) :
    SR K cl base (W.put st.length p) (st ++ [.dead]) H ∧ Le st.length W (W.put st.length p) := by
  have l := W.put_le st.length p
  have rc : ∀ c, c < st.length → (W.put st.length p).r c = W.r c := l.at_
  have nn : ∀ {c : Nat} {v : O}, (st ++ [O.dead])[c]? = some v → v ≠ .dead → c < st.length ∧ st[c]? = some v := fun {c v} q nd => by
    rcases get_snoc q with h1 | ⟨_, e⟩
    · exact h1
    · exact absurd e nd
  refine ⟨⟨h.sub, fun c c' v v' hc nd hc' nd' e => ?_, fun c v q nd => ?_, fun c v hc nd => ?_, fun c v q => ?_, ?_, h.held, h.hF, fun c v hc nd => ?_, h.tab, h.ftb, h.gls, base.mono l.sub l.at_ (by rw [List.length_append]; omega) h.inv⟩, l⟩
  · obtain ⟨h1, q1⟩ := nn hc nd
    obtain ⟨h2, q2⟩ := nn hc' nd'
    rw [rc c h1, rc c' h2] at e
    exact h.inj c c' _ _ q1 nd q2 nd' e
  · obtain ⟨h1, q1⟩ := nn q nd
    rw [rc c h1]
    exact h.apart c v q1 nd
  · obtain ⟨h1, q1⟩ := nn hc nd
    rw [rc c h1]
    exact h.trk c v q1 nd
  · by_cases nd : v = .dead
    · subst nd
      trivial
    · obtain ⟨hc, q1⟩ := nn q nd
      rw [rc c hc]
      have lv : lvl base st.length c ≤ lvl base (st ++ [O.dead]).length c := by
        unfold lvl
        rw [List.length_append]
        split <;> omega
      exact (h.cell c v q1).up ⟨l.sub, fun d hd => l.at_ d (Nat.lt_of_lt_of_le hd (lvl_le h.ge)), rfl⟩ lv
  · rw [List.length_append]
    exact Nat.le_trans h.ge (Nat.le_add_right _ _)
  · obtain ⟨h1, q1⟩ := nn hc nd
    rw [rc c h1]
    exact h.hr c v q1 nd
/-- what a live cell is in the heap -/
theorem SR.live {base : Lv} {W : Wd} {st : Sto} {H : Hp} (h : SR K cl base W st H) {c : Nat} {o : O} (hc : st[c]? = some o) (hd : o ≠ .dead) : ∃ u, H (W.r c) = some u ∧ ((∃ vs, u = .lst vs) ∨ ∃ kvs, u = .dK kvs) := by
  have := h.cell c o hc
  cases o with
  | lst ds =>
    obtain ⟨vs, h1, _⟩ := this
    exact ⟨_, h1, .inl ⟨_, rfl⟩⟩
  | dct ks ds =>
    obtain ⟨kvs, h1, _⟩ := this
    exact ⟨_, h1, .inr ⟨_, rfl⟩⟩
  | dead => exact absurd rfl hd
/-- a cell is written -/
theorem SR.write {base : Lv} {W : Wd} {st : Sto} {H : Hp} (h : SR K cl base W st H) {c : Nat} {u : HO} {o o' : O} (hc : st[c]? = some o) (hd : o ≠ .dead) (hd' : o' ≠ .dead) (hu : ∀ H', H' (W.r c) = some u → OR K cl W (lvl base st.length c) H' (W.r c) o') :
    SR K cl base W (st.set c o') (upd H (W.r c) u) := by
  have hlt := (List.getElem?_eq_some_iff.mp hc).1
  have ap := h.apart c o hc hd
  have at_ : ∀ {d : Nat} {v : O}, (st.set c o')[d]? = some v → v ≠ .dead → ∃ v', st[d]? = some v' ∧ v' ≠ .dead := fun {d v} q nd => by
    by_cases e : d = c
    · subst e
      exact ⟨o, hc, hd⟩
    · rw [List.getElem?_set_ne (Ne.symm e)] at q
      exact ⟨v, q, nd⟩
  obtain ⟨u0, hu0, k0⟩ := h.live hc hd
  refine ⟨fun a v q => ?_, fun d d' v v' q1 n1 q2 n2 e => ?_, fun d v q nd => ?_, fun d v q nd => ?_, fun d v q => ?_, by rw [List.length_set]; exact h.ge, fun a u q => ?_, h.hF, fun d v q nd => ?_, tabs_kx h.tab (Kx.over hu0 k0), h.ftb, h.gls, by rw [List.length_set]; exact h.inv⟩
  · have : a ≠ W.r c := fun e => by
      rw [e, ap] at q
      cases q
    rw [upd_ne this]
    exact h.sub a v q
  · obtain ⟨w1, e1, m1⟩ := at_ q1 n1
    obtain ⟨w2, e2, m2⟩ := at_ q2 n2
    exact h.inj d d' _ _ e1 m1 e2 m2 e
  · obtain ⟨w1, e1, m1⟩ := at_ q nd
    exact h.apart d w1 e1 m1
  · by_cases e : W.r d = W.r c
    · rw [e]
      exact ⟨u, upd_same⟩
    · obtain ⟨w1, e1, m1⟩ := at_ q nd
      obtain ⟨v, hv⟩ := h.trk d w1 e1 m1
      exact ⟨v, by rw [upd_ne e]; exact hv⟩
  · rw [List.length_set]
    by_cases e : d = c
    · subst e
      rw [List.getElem?_set_self hlt] at q
      cases q
      exact hu _ upd_same
    · rw [List.getElem?_set_ne (Ne.symm e)] at q
      by_cases nd : v = .dead
      · subst nd
        trivial
      · refine OR.heap (fun v' hv => ?_) (h.cell d v q)
        rw [upd_ne fun z => e (h.inj d c _ _ q nd hc hd z)]
        exact hv
  · have : a ≠ W.r c := fun e => by
      rw [e, h.hr c o hc hd] at q
      cases q
    rw [upd_ne this]
    exact h.held a u q
  · obtain ⟨w1, e1, m1⟩ := at_ q nd
    exact h.hr d w1 e1 m1
/-- the tables have grown, all else stays -/
theorem SR.tabs {base : Lv} {W : Wd} {st : Sto} {H H' : Hp} (h : SR K cl base W st H) (e : LamX.ExtN H H') (t : LamX.Tabs base.T H') : SR K cl base W st H' := by
  have ex : ∀ b o, H b = some o → (∀ ps, o ≠ .tbl ps) → H' b = some o := e
  have nt : ∀ {a : Addr} {o : HO} {ps : Array Value}, W.G a = some o → o = .tbl ps → False := fun {a o ps} q z => by
    rcases h.gls a o q with ⟨vs, e⟩ | ⟨vs, e⟩ <;> (rw [e] at z; cases z)
  refine ⟨fun a o q => ex _ _ (h.sub a o q) fun ps z => h.ftb a ps (by rw [q, z]), h.inj, h.apart, fun c o q nd => ?_, fun c o q => ?_, h.ge, fun a o q => ex _ _ (h.held a o q) fun ps z => nt q z, h.hF, h.hr, t, h.ftb, h.gls, h.inv⟩
  · obtain ⟨u, h1, h2⟩ := h.live q nd
    refine ⟨u, ex _ _ h1 fun ps z => ?_⟩
    subst z
    rcases h2 with ⟨_, z⟩ | ⟨_, z⟩ <;> cases z
  · by_cases nd : o = .dead
    · subst nd
      trivial
    · obtain ⟨u, h1, h2⟩ := h.live q nd
      refine OR.heap (fun v hv => ex _ _ hv fun ps z => ?_) (h.cell c o q)
      subst z
      rw [h1] at hv
      cases hv
      rcases h2 with ⟨_, z⟩ | ⟨_, z⟩ <;> cases z
end
end Itp
namespace Itp
open L2 PySem.Spec PyProof.Rows PySem
section
variable {K : PySem.W.Frag} {cl : Nat → Addr} {W : Wd} {n : Nat} {H : Hp} {base : Lv} {st : Sto}

theorem Rv.non (h : Rv K cl W n H v .non) : v = .non := by
  cases h with
  | of h => cases h; rfl
theorem Rv.bl {b : Bool} (h : Rv K cl W n H v (.bl b)) : v = .bl b := by
  cases h with
  | of h => cases h; rfl
theorem Rv.int {i : Int} (h : Rv K cl W n H v (.int i)) : v = .int i := by
  cases h with
  | of h => cases h; rfl
theorem Rv.str {x : Str} (h : Rv K cl W n H v (.str x)) : v = .str x := by
  cases h with
  | of h => cases h; rfl
theorem Rv.rep {d : PyData} (h : Rv K cl W n H v (.rep d)) : v = .str d.shown := by
  cases h with
  | of h => cases h; rfl
theorem Rv.cls {m : Nat} (h : Rv K cl W n H v (.cls m)) : v = .ref (cl m) := by
  cases h with
  | of h => cases h; rfl
theorem Rv.ty {t : Ty} (h : Rv K cl W n H v (.ty t)) : v = .ty t.nm := by
  cases h with
  | of h => cases h; rfl
theorem Rv.lists {ds : List D} (s : SR K cl base W st H) (h : Rv K cl W n H v (.lst ds)) : ∃ a vs, v = .ref a ∧ SqL K H a vs ∧ RpL K cl W.F W.r n vs ds := by
  cases h with
  | of h =>
    cases h with
    | lst h hs => exact ⟨_, _, rfl, SqL.up s.sub h, hs⟩
  | lst h hs => exact ⟨_, _, rfl, h, hs⟩
theorem Rv.tups {ds : List D} (s : SR K cl base W st H) (h : Rv K cl W n H v (.tup ds)) : ∃ a vs, v = .ref a ∧ SqT K H a vs ∧ SqT K W.F a vs ∧ RpL K cl W.F W.r n vs ds := by
  cases h with
  | of h =>
    cases h with
    | tup h hs => exact ⟨_, _, rfl, SqT.up s.sub h, h, hs⟩
theorem Rv.dcts {ks : List Key} {ds : List D} (s : SR K cl base W st H) (h : Rv K cl W n H v (.dct ks ds)) : ∃ a kvs, v = .ref a ∧ H a = some (.dK kvs) ∧ kvs.map (·.1) = ks ∧ RpL K cl W.F W.r n (kvs.map (·.2)) ds := by
  cases h with
  | of h =>
    cases h with
    | dct h hk hs => exact ⟨_, _, rfl, s.sub _ _ h, hk, hs⟩
  | dct h hk hs => exact ⟨_, _, rfl, h, hk, hs⟩
theorem Rv.excs {m : Nat} (s : SR K cl base W st H) (h : Rv K cl W n H v (.exc m)) : ∃ a, v = .ref a ∧ H a = some (ExC (cl m) a) := by
  cases h with
  | of h =>
    cases h with
    | exc m h => exact ⟨_, rfl, s.sub _ _ h⟩

/-- what is wanted behind a value: it is d, the cells st -/
def Nx (K : PySem.W.Frag) (cl : Nat → Addr) (base : Lv) (W : Wd) (m : Nat) (st : Sto) (d : D) (Q : VK) : Prop :=
  ∀ W' H' v, Le m W W' → SR K cl base W' st H' → Rp K cl W'.F W'.r st.length v d → Q v H'
theorem Nx.same {d : D} {Q : VK} (h : Nx K cl base W st.length st d Q) (s : SR K cl base W st H) (r : Rp K cl W.F W.r st.length v d) : Q v H := h W H v (Le.refl _ _) s r
theorem Nx.lst {ds : List D} {vs : List V} {Q : VK} (h : Nx K cl base W st.length st (.lst ds) Q) (s : SR K cl base W st H) (r : RpL K cl W.F W.r st.length vs ds) : ∀ p, H p = none → Q (.ref p) (upd H p (.lst vs)) := fun p hp => by
  obtain ⟨s', l⟩ := s.share (o := .lst vs) hp
  exact h _ _ _ l s' (.lst (SqL.of upd_same) (r.up l.sub l.at_ (Nat.le_refl _)))
theorem Nx.tup {ds : List D} {vs : List V} {Q : VK} (h : Nx K cl base W st.length st (.tup ds) Q) (s : SR K cl base W st H) (r : RpL K cl W.F W.r st.length vs ds) : ∀ p, H p = none → Q (.ref p) (upd H p (.tup vs)) := fun p hp => by
  obtain ⟨s', l⟩ := s.share (o := .tup vs) hp
  exact h _ _ _ l s' (.tup (SqT.of upd_same) (r.up l.sub l.at_ (Nat.le_refl _)))
theorem Nx.dct {ks : List Key} {ds : List D} {kvs : List (Key × V)} {Q : VK} (h : Nx K cl base W st.length st (.dct ks ds) Q) (s : SR K cl base W st H) (hk : kvs.map (·.1) = ks) (r : RpL K cl W.F W.r st.length (kvs.map (·.2)) ds) :
    ∀ p, H p = none → Q (.ref p) (upd H p (.dK kvs)) := fun p hp => by
  obtain ⟨s', l⟩ := s.share (o := .dK kvs) hp
  exact h _ _ _ l s' (.dct upd_same hk (r.up l.sub l.at_ (Nat.le_refl _)))
def r2 (K : PySem.W.Frag) (cl : Nat → Addr) (g : D → D → Option D) : R2 := fun x y H Q =>
  ∃ base W st dx dy d, SR K cl base W st H ∧ Rv K cl W st.length H x dx ∧ Rv K cl W st.length H y dy ∧ g dx dy = some d ∧ Nx K cl base W st.length st d Q
end

def Bop.op : Bop → Operator
  | .add => .Add | .sub => .Sub | .mul => .Mult | .fdiv => .FloorDiv | .mod => .Mod | .pow => .Pow
theorem mul_wide {i j : Int} (h : mulOk i j = true) : CMul i j ∨ CMulW i j := by
  unfold mulOk at h
  simp only [Bool.or_eq_true, Bool.and_eq_true, decide_eq_true_eq] at h
  rcases h with (h | h) | h
  · exact .inl (.inl h)
  · exact .inl (.inr h)
  · exact .inr h
def limE {n : Nat} (h : lim n = true) : n ≤ sizeLine := of_decide_eq_true h
section
variable {X : Cx} {cl : Nat → Addr}
/-- two lists that may be read, one behind the other: a new one -/
def rCatL (K : PySem.W.Frag) : R2 := fun x y H Q => ∃ l b xs zs, x = .ref l ∧ y = .ref b ∧ SqL K H l xs ∧ SqL K H b zs ∧ xs.length + zs.length ≤ sizeLine ∧ ∀ p, H p = none → Q (.ref p) (upd H p (.lst (xs ++ zs)))
theorem op_catL : OpR X (binaryOp .Add) (rCatL X.K) := by
  intro pins s σ H x y v u Q I rx ry h
  obtain ⟨l, b, xs, zs, rfl, rfl, hl, hb, hz, q⟩ := h
  cases rx
  cases ry
  obtain ⟨its, r, ⟨⟨c1, d1, dt1, s1⟩, n, g1, e1, f1, k1⟩, z1⟩ := I.list hl
  obtain ⟨its2, r2, ⟨⟨c2, d2, dt2, s2⟩, n2, g2, e2, f2, k2⟩, z2⟩ := I.list hb
  simp only at e1 f1 k1 e2 f2 k2
  subst e1 f1 k1 e2 f2 k2
  have l1 := r.length
  have l2 := r2.length
  have ea : its.toArray ++ its2.toArray = (its ++ its2).toArray := by simp
  refine concat_meets ⟨_, g1, rfl⟩ ⟨_, g2, rfl⟩ noFill_list_add seq_list_add PySem.F.slot_list_add PySem.F.entry_list_add (PySem.F.args_list_add_2 _ _)
    (list_addW l b its.toArray its2.toArray n n2 none none s1 s2 (by simp only [List.size_toArray]; omega)) ⟨g1, g2, ?_⟩
  rw [ea]
  exact ⟨.ref _, _, I.lnew (t' := s.toks) (r.append r2) (by rw [List.length_append]; exact hz), rfl, q _ I.fresh⟩
theorem pow_two {i j : Int} (h : powOk2 i j = true) : 0 ≤ j ∧ (Builtin.Int.intBits i : Int) * j ≤ 2 ^ 27 := by
  unfold powOk2 bits at h
  simp only [Bool.and_eq_true, decide_eq_true_eq] at h
  obtain ⟨⟨h0, h1⟩, h2⟩ := h
  refine ⟨h0, ?_⟩
  have h3 : Builtin.Int.intBits i ≤ 100001 := by
    unfold Builtin.Int.intBits
    split <;> omega
  have h4 : (Builtin.Int.intBits i : Int) * j ≤ 100001 * 1000 := Int.mul_le_mul (by omega) h1 h0 (by omega)
  omega
theorem op_bin (o : Bop) : OpR X (binaryOp o.op) (r2 X.K cl (binop o)) := by
  intro pins s σ H x y v u Q I rx ry h
  obtain ⟨base, W, st, dx, dy, d, sr, vx, vy, e, nx⟩ := h
  unfold binop at e
  split at e
  · cases e
    obtain rfl := vx.int
    obtain rfl := vy.int
    exact op_add pins s σ H _ _ v u Q I rx ry ⟨_, _, rfl, rfl, nx.same sr (.int _)⟩
  · cases e
    obtain rfl := vx.int
    obtain rfl := vy.int
    exact op_sub pins s σ H _ _ v u Q I rx ry ⟨_, _, rfl, rfl, nx.same sr (.int _)⟩
  · split at e
    · rename_i hm
      cases e
      obtain rfl := vx.int
      obtain rfl := vy.int
      rcases mul_wide hm with hm | hm
      · exact op_mul pins s σ H _ _ v u Q I rx ry ⟨_, _, rfl, rfl, hm, nx.same sr (.int _)⟩
      · exact op_mulW pins s σ H _ _ v u Q I rx ry ⟨_, _, rfl, rfl, hm, nx.same sr (.int _)⟩
    · cases e
  · split at e
    · rename_i hm
      cases e
      obtain rfl := vx.int
      obtain rfl := vy.int
      unfold divOk at hm
      simp only [Bool.and_eq_true, decide_eq_true_eq] at hm
      obtain ⟨t, rfl⟩ := rx
      obtain ⟨t', rfl⟩ := ry
      exact floordiv_int hm.1 ⟨.int _, H, I.tok _, ⟨_, rfl⟩, nx.same sr (.int _)⟩ (.inl (PyProof.noPylong_of_log2 hm.2))
    · cases e
  · split at e
    · rename_i hm
      cases e
      obtain rfl := vx.int
      obtain rfl := vy.int
      exact op_modN pins s σ H _ _ v u Q I rx ry ⟨_, _, rfl, rfl, of_decide_eq_true hm, nx.same sr (.int _)⟩
    · cases e
  · split at e
    · rename_i hm
      cases e
      obtain rfl := vx.int
      obtain rfl := vy.int
      rw [Bool.or_eq_true] at hm
      rcases hm with hm | hm
      · unfold powOk at hm
        simp only [Bool.and_eq_true, decide_eq_true_eq] at hm
        exact op_pow pins s σ H _ _ v u Q I rx ry ⟨_, _, rfl, rfl, ⟨hm.1.1, hm.1.2, hm.2⟩, nx.same sr (.int _)⟩
      · obtain ⟨h0, h1⟩ := pow_two hm
        obtain ⟨t, rfl⟩ := rx
        obtain ⟨t', rfl⟩ := ry
        exact PyProof.Rows.pow_int h0 h1 ⟨.int _, H, I.tok _, ⟨_, rfl⟩, nx.same sr (.int _)⟩
    · cases e
  · split at e
    · rename_i hm
      cases e
      obtain rfl := vx.str
      obtain rfl := vy.str
      exact op_add_str pins s σ H _ _ v u Q I rx ry ⟨_, _, rfl, rfl, limE hm, nx.same sr (.str _)⟩
    · cases e
  · split at e
    · rename_i hm
      cases e
      obtain ⟨a, vs, rfl, h1, h2⟩ := vx.lists sr
      obtain ⟨b, ws, rfl, h3, h4⟩ := vy.lists sr
      exact op_catL pins s σ H _ _ v u Q I rx ry ⟨_, _, _, _, rfl, rfl, h1, h3, by rw [h2.length, h4.length]; exact limE hm, nx.lst sr (h2.append h4)⟩
    · cases e
  · split at e
    · rename_i hm
      cases e
      obtain ⟨a, vs, rfl, h1, h1', h2⟩ := vx.tups sr
      obtain ⟨b, ws, rfl, h3, h3', h4⟩ := vy.tups sr
      refine op_catA pins s σ H _ _ v u Q I rx ry ⟨_, _, _, _, rfl, rfl, h1, h3, ?_, fun e => ?_, fun _ e => ?_, fun _ _ => ?_⟩
      · have := limE hm
        rw [h2.length, h4.length]
        exact this
      · subst e
        cases h2
        exact nx.same sr (.tup h3' h4)
      · subst e
        cases h4
        rw [List.append_nil] at nx
        exact nx.same sr (.tup h1' h2)
      · exact nx.tup sr (h2.append h4)
    · cases e
  · split at e
    · rename_i hm
      cases e
      obtain ⟨a, vs, rfl, h1, h1', h2⟩ := vx.tups sr
      obtain rfl := vy.int
      unfold repT at hm
      simp only [Bool.and_eq_true, decide_eq_true_eq] at hm
      refine op_repT pins s σ H _ _ v u Q I rx ry ⟨_, _, _, rfl, rfl, h1, fun e => ?_, hm.2.2.1, hm.2.2.2, by rw [h2.length]; exact hm.2.1, nx.tup sr (h2.rep _)⟩
      subst e
      cases h2
      exact absurd hm.1 (by simp)
    · cases e
  · cases e
end
end Itp
namespace Itp
open L2 PySem.Spec PyProof.Rows PySem

/-! ### equality -/
mutual
theorem py_of {n : Nat} : ∀ {d : D}, eqOk n d = true → ∃ p, toPy d = some p ∧ p.canLay0 = true ∧ p.depth ≤ n
  | .non, _ => ⟨_, rfl, rfl, Nat.zero_le _⟩
  | .bl _, _ => ⟨_, rfl, rfl, Nat.zero_le _⟩
  | .int _, _ => ⟨_, rfl, rfl, Nat.zero_le _⟩
  | .str x, h => ⟨_, rfl, h, Nat.zero_le _⟩
  | .lst ds, h => by
    simp only [eqOk, Bool.and_eq_true, decide_eq_true_eq] at h
    obtain ⟨ps, h1, h2, h3⟩ := pys_of h.2
    refine ⟨.list ps, by simp only [toPy, h1, Option.map_some], by simp only [PyData.canLay0]; exact h2, ?_⟩
    simp only [PyData.depth]
    omega
  | .tup ds, h => by
    simp only [eqOk, Bool.and_eq_true, decide_eq_true_eq] at h
    obtain ⟨ps, h1, h2, h3⟩ := pys_of h.2
    refine ⟨.tuple ps, by simp only [toPy, h1, Option.map_some], by simp only [PyData.canLay0]; exact h2, ?_⟩
    simp only [PyData.depth]
    omega
  | .dct _ _, h => by simp [eqOk] at h
  | .obj _, h => by simp [eqOk] at h
  | .cls _, h => by simp [eqOk] at h
  | .ty _, h => by simp [eqOk] at h
  | .exc _, h => by simp [eqOk] at h
  | .rep p, h => ⟨_, rfl, h, Nat.zero_le _⟩
theorem pys_of {n : Nat} : ∀ {ds : List D}, eqOks n ds = true → ∃ ps, toPys ds = some ps ∧ PyData.canLayAll0 ps = true ∧ PyData.depthAll ps ≤ n
  | [], _ => ⟨[], rfl, rfl, Nat.zero_le _⟩
  | d :: ds, h => by
    simp only [eqOks, Bool.and_eq_true] at h
    obtain ⟨p, h1, h2, h3⟩ := py_of h.1
    obtain ⟨ps, h4, h5, h6⟩ := pys_of h.2
    refine ⟨p :: ps, by simp only [toPys, h1, h4], by simp only [PyData.canLayAll0, h2, h5, Bool.and_self], ?_⟩
    simp only [PyData.depthAll]
    omega
end
theorem shaped_of {d : D} (h : eqOk 64 d = true) : ∃ p, toPy d = some p ∧ SeqAt.shaped p = true := by
  obtain ⟨p, h1, h2, h3⟩ := py_of h
  exact ⟨p, h1, by unfold SeqAt.shaped; rw [h2, decide_eq_true h3]; rfl⟩
mutual
theorem deq_eqv {n m : Nat} : ∀ {x y : D} {p q : PyData} {b : Bool}, eqOk n x = true → eqOk m y = true → toPy x = some p → toPy y = some q → deq x y = some b → p.eqv q = b
  | x, y, p, q, b, hx, hy, h1, h2, h => by
    cases x <;> cases y <;> first
      | (simp [eqOk] at hx; done)
      | (simp [eqOk] at hy; done)
      | (simp [toPy] at h1 h2; subst h1 h2; simp [deq] at h; subst h; simp [PyData.eqv]; done)
      | (simp [toPy] at h1 h2; subst h1 h2; simp [deq] at h; obtain ⟨hp, rfl⟩ := h; cases peq_eq hp; first | rfl | simp [PyData.eqv])
      | (simp only [toPy, Option.map_eq_some_iff] at h1 h2
         obtain ⟨ps, h1, rfl⟩ := h1
         obtain ⟨qs, h2, rfl⟩ := h2
         simp only [eqOk, Bool.and_eq_true] at hx hy
         first
           | (simp only [PyData.eqv]; exact deqs_eqv hx.2 hy.2 h1 h2 (by simpa [deq] using h))
           | (simp [deq] at h; subst h; simp [PyData.eqv]))
      | (simp only [toPy, Option.map_eq_some_iff, Option.some.injEq] at h1 h2
         first
           | (obtain ⟨ps, h1, rfl⟩ := h1; subst h2; simp [deq] at h <;> subst h <;> first | rfl | simp [PyData.eqv])
           | (obtain ⟨ps, h2, rfl⟩ := h2; subst h1; simp [deq] at h <;> subst h <;> first | rfl | simp [PyData.eqv]))
theorem deqs_eqv {n m : Nat} : ∀ {xs ys : List D} {ps qs : List PyData} {b : Bool}, eqOks n xs = true → eqOks m ys = true → toPys xs = some ps → toPys ys = some qs → deqs xs ys = some b → PyData.eqvAll ps qs = b
  | [], [], ps, qs, b, _, _, h1, h2, h => by
    simp [toPys] at h1 h2
    subst h1 h2
    simp [deqs] at h
    subst h
    simp [PyData.eqvAll]
  | [], y :: ys, ps, qs, b, _, hy, h1, h2, h => by
    simp only [eqOks, Bool.and_eq_true] at hy
    obtain ⟨q, e1, _⟩ := py_of hy.1
    obtain ⟨qs', e2, _⟩ := pys_of hy.2
    simp [toPys] at h1
    simp only [toPys, e1, e2, Option.some.injEq] at h2
    subst h1 h2
    simp [deqs] at h
    subst h
    simp [PyData.eqvAll]
  | x :: xs, [], ps, qs, b, hx, _, h1, h2, h => by
    simp only [eqOks, Bool.and_eq_true] at hx
    obtain ⟨q, e1, _⟩ := py_of hx.1
    obtain ⟨qs', e2, _⟩ := pys_of hx.2
    simp [toPys] at h2
    simp only [toPys, e1, e2, Option.some.injEq] at h1
    subst h1 h2
    simp [deqs] at h
    subst h
    simp [PyData.eqvAll]
  | x :: xs, y :: ys, ps, qs, b, hx, hy, h1, h2, h => by
    simp only [eqOks, Bool.and_eq_true] at hx hy
    obtain ⟨p, e1, _⟩ := py_of hx.1
    obtain ⟨ps', e2, _⟩ := pys_of hx.2
    obtain ⟨q, e3, _⟩ := py_of hy.1
    obtain ⟨qs', e4, _⟩ := pys_of hy.2
    simp only [toPys, e1, e2, e3, e4, Option.some.injEq] at h1 h2
    subst h1 h2
    simp only [deqs] at h
    simp only [PyData.eqvAll]
    cases e : deq x y with
    | none =>
      rw [e] at h
      cases h
    | some c =>
      rw [e] at h
      rw [deq_eqv hx.1 hy.1 e1 e3 e]
      cases c with
      | true =>
        rw [deqs_eqv hx.2 hy.2 e2 e4 h]
        rfl
      | false =>
        cases h
        rfl
end
section
variable {K : PySem.W.Frag} {cl : Nat → Addr} {W : Wd} {n : Nat} {H : Hp} {base : Lv} {st : Sto}
mutual
theorem Rp.dp (s : ∀ a o, W.F a = some o → H a = some o) : ∀ {v : V} {d : D} {p : PyData}, Rp K cl W.F W.r n v d → toPy d = some p → Dp K H v p
  | _, _, _, .non, e => by cases e; exact .non
  | _, _, _, .bl b, e => by cases e; exact .bl b
  | _, _, _, .int i, e => by cases e; exact .int i
  | _, _, _, .str x, e => by cases e; exact .str x
  | _, _, _, .rep x, e => by cases e; exact .str _
  | _, _, _, .tup h hs, e => by
    simp only [toPy, Option.map_eq_some_iff] at e
    obtain ⟨ps, e, rfl⟩ := e
    exact .tup (Itp.SqT.up s h) (RpL.dp s hs e)
  | _, _, _, .lst h hs, e => by
    simp only [toPy, Option.map_eq_some_iff] at e
    obtain ⟨ps, e, rfl⟩ := e
    exact .lst (Itp.SqL.up s h) (RpL.dp s hs e)
  | _, _, _, .dct h hk hs, e => by cases e
  | _, _, _, .obj c h, e => by cases e
  | _, _, _, .cls m, e => by cases e
  | _, _, _, .ty t, e => by cases e
  | _, _, _, .exc m h, e => by cases e
theorem RpL.dp (s : ∀ a o, W.F a = some o → H a = some o) : ∀ {vs : List V} {ds : List D} {ps : List PyData}, RpL K cl W.F W.r n vs ds → toPys ds = some ps → DpAll K H vs ps
  | _, _, _, .nil, e => by cases e; exact .nil
  | _, _, _, @RpL.cons _ _ _ _ _ v d vs ds h hs, e => by
    simp only [toPys] at e
    cases e1 : toPy d with
    | none => rw [e1] at e; cases e
    | some p =>
      cases e2 : toPys ds with
      | none => rw [e1, e2] at e; cases e
      | some ps =>
        rw [e1, e2] at e
        cases e
        exact .cons (Rp.dp s h e1) (RpL.dp s hs e2)
end
theorem Rv.dp (s : SR K cl base W st H) {v : V} {d : D} {p : PyData} (h : Rv K cl W n H v d) (e : toPy d = some p) : Dp K H v p := by
  cases h with
  | of h => exact h.dp s.sub e
  | lst h hs =>
    simp only [toPy, Option.map_eq_some_iff] at e
    obtain ⟨ps, e, rfl⟩ := e
    exact .lst h (hs.dp s.sub e)
  | dct h hk hs => cases e
end
def isText : D → Bool
  | .str _ | .rep _ => true
  | _ => false
def eqD (x y : D) : Option Bool := if flat x && flat y && (isText x || isText y) then deq x y else if eqOk 64 x && eqOk 64 y then deq x y else none
def anyEq (x : D) : List D → Option Bool
  | [] => some false
  | d :: ds => match deq d x, anyEq x ds with
    | some b, some c => some (b || c)
    | _, _ => none
def anyEqN (x : D) : List D → Option Bool
  | [] => some false
  | d :: ds => match eqD d x with
    | some true => some true
    | some false => anyEqN x ds
    | none => none
def keyOf : D → Option Key
  | .int i => some (.inl i)
  | .str x => some (.inr x)
  | _ => none
def valAt : List Key → List D → Key → Option D
  | k :: ks, d :: ds, x => if k = x then some d else valAt ks ds x
  | _, _, _ => none
def isin (x y : D) : Option Bool :=
  match y with
  | .lst ds => if flat x && ds.all flat then anyEq x ds else if eqOk 64 x && eqOk 64 (.lst ds) then anyEq x ds else none
  | .tup ds => if flat x && ds.all flat then anyEq x ds else none
  | .str z => match x with
    | .str w => match w.cps.toList with
      | [c] => some (decide (c ∈ z.cps.toList))
      | _ => none
    | _ => none
  | .dct ks ds => (keyOf x).map fun k => (valAt ks ds k).isSome
  | _ => none
def isNon : D → Bool
  | .non => true
  | _ => false
def strLt (x y : Str) : Bool := decide (x.cps.toList < y.cps.toList)
def cmpop : Cmp → D → D → Option Bool
  | .eq, x, y => eqD x y
  | .ne, x, y => (eqD x y).map (! ·)
  | .isin, x, y => isin x y
  | .notin, x, y => (isin x y).map (! ·)
  | .is, x, .non => some (isNon x)
  | .isnot, x, .non => some (!isNon x)
  | .is, .bl a, .bl b => some (decide (a = b))
  | .isnot, .bl a, .bl b => some (!decide (a = b))
  | .lt, .int i, .int j => some (decide (i < j))
  | .le, .int i, .int j => some (decide (i ≤ j))
  | .gt, .int i, .int j => some (decide (j < i))
  | .ge, .int i, .int j => some (decide (j ≤ i))
  | .lt, .str x, .str y => some (decide (x.cps.toList < y.cps.toList))
  | .le, .str x, .str y => some (!decide (y.cps.toList < x.cps.toList))
  | _, _, _ => none
end Itp
namespace Itp
open L2 PySem.Spec PyProof.Rows PySem
def Cmp.op : Cmp → CmpOp
  | .eq => .Eq | .ne => .NotEq | .lt => .Lt | .le => .LtE | .gt => .Gt | .ge => .GtE | .is => .Is | .isnot => .IsNot | .isin => .In | .notin => .NotIn
section
variable {K : PySem.W.Frag} {cl : Nat → Addr} {W : Wd} {n : Nat} {H : Hp} {base : Lv} {st : Sto}
theorem valAt_len : ∀ {ks : List Key} {ds : List D} {x : Key} {d : D}, valAt ks ds x = some d → ∃ i : Nat, ks[i]? = some x ∧ ds[i]? = some d
  | [], _, _, _, h => by simp [valAt] at h
  | _ :: _, [], _, _, h => by simp [valAt] at h
  | k :: ks, d :: ds, x, e, h => by
    simp only [valAt] at h
    split at h
    · rename_i hk
      cases h
      exact ⟨0, by simp [hk], rfl⟩
    · obtain ⟨i, h1, h2⟩ := valAt_len h
      exact ⟨i + 1, by simpa using h1, by simpa using h2⟩
/-- what stands under a key -/
theorem RpL.valV : ∀ {kvs : List (Key × V)} {ds : List D} (x : Key), RpL K cl W.F W.r n (kvs.map (·.2)) ds → (∀ d, valAt (kvs.map (·.1)) ds x = some d → ∃ v, L2.valV kvs x = some v ∧ Rp K cl W.F W.r n v d) ∧ (valAt (kvs.map (·.1)) ds x = none → L2.valV kvs x = none)
  | [], _, x, h => ⟨fun d e => by simp [valAt] at e, fun _ => rfl⟩
  | (k, v) :: kvs, [], x, h => by cases h
  | (k, v) :: kvs, d :: ds, x, h => by
    cases h with
    | cons h hs =>
      obtain ⟨q1, q2⟩ := RpL.valV x hs
      simp only [List.map_cons, valAt, L2.valV, List.find?_cons]
      by_cases e : k = x
      · rw [if_pos e, decide_eq_true e]
        exact ⟨fun d' e' => by cases e'; exact ⟨v, rfl, h⟩, fun e' => by cases e'⟩
      · rw [if_neg e, decide_eq_false e]
        exact ⟨q1, q2⟩
theorem flat_flatV {v : V} {d : D} (h : Rp K cl W.F W.r n v d) (f : flat d = true) : flatV v = true := by
  cases h <;> first | rfl | (simp [flat] at f)
theorem flats_flatV : ∀ {vs : List V} {ds : List D}, RpL K cl W.F W.r n vs ds → ds.all flat = true → vs.all flatV = true
  | _, _, .nil, _ => rfl
  | _, _, .cons h hs, f => by
    rw [List.all_cons, Bool.and_eq_true] at f ⊢
    exact ⟨flat_flatV h f.1, flats_flatV hs f.2⟩
theorem deq_eqV {v w : V} {x y : D} {b : Bool} (hx : Rp K cl W.F W.r n v x) (hy : Rp K cl W.F W.r n w y) (fx : flat x = true) (fy : flat y = true) (e : deq x y = some b) : eqV v w = b := by
  cases hx <;> cases hy <;> first
    | (simp [flat] at fx; done)
    | (simp [flat] at fy; done)
    | (simp [deq] at e; done)
    | (simp [deq] at e; subst e; simp [eqV]; done)
    | (simp [deq] at e; obtain ⟨e1, e2⟩ := e; subst e2; rw [peq_eq e1]; simp [eqV])
theorem anyEq_inV {v : V} {x : D} (hx : Rp K cl W.F W.r n v x) (fx : flat x = true) : ∀ {vs : List V} {ds : List D} {b : Bool}, RpL K cl W.F W.r n vs ds → ds.all flat = true → anyEq x ds = some b → inV v vs = b
  | _, _, b, .nil, _, e => by
    simp [anyEq] at e
    subst e
    rfl
  | _, _, b, @RpL.cons _ _ _ _ _ w d vs ds h hs, f, e => by
    rw [List.all_cons, Bool.and_eq_true] at f
    simp only [anyEq] at e
    cases e1 : deq d x with
    | none => rw [e1] at e; cases e
    | some p =>
      cases e2 : anyEq x ds with
      | none => rw [e1, e2] at e; cases e
      | some q =>
        rw [e1, e2] at e
        cases e
        have h1 := deq_eqV h hx f.1 fx e1
        have h2 := anyEq_inV hx fx hs f.2 e2
        show (w :: vs).any (fun y => eqV y v) = (p || q)
        rw [List.any_cons, h1]
        have h2' : vs.any (fun y => eqV y v) = q := h2
        rw [h2']
theorem anyEq_any {x : D} {p : PyData} (ox : eqOk 64 x = true) (ep : toPy x = some p) : ∀ {m : Nat} {ds : List D} {ps : List PyData} {b : Bool}, eqOks m ds = true → toPys ds = some ps → anyEq x ds = some b → (ps.any fun z => z.eqv p) = b
  | m, [], ps, b, _, h, e => by
    simp [toPys] at h
    simp [anyEq] at e
    subst h e
    rfl
  | m, d :: ds, ps, b, o, h, e => by
    simp only [eqOks, Bool.and_eq_true] at o
    obtain ⟨q, q1, _⟩ := py_of o.1
    obtain ⟨qs, q2, _⟩ := pys_of o.2
    simp only [toPys, q1, q2, Option.some.injEq] at h
    subst h
    simp only [anyEq] at e
    cases e1 : deq d x with
    | none => rw [e1] at e; cases e
    | some c =>
      cases e2 : anyEq x ds with
      | none => rw [e1, e2] at e; cases e
      | some c' =>
        rw [e1, e2] at e
        cases e
        rw [List.any_cons, deq_eqv o.1 ox q1 ep e1, anyEq_any ox ep o.2 q2 e2]
end
section
variable {X : Cx} {cl : Nat → Addr}
theorem op_eqq (neg : Bool) (hu : X.A.units + 65 < cLine) : OpR X (compareOp (if neg then .NotEq else .Eq)) (r2 X.K cl fun x y => (eqD x y).map fun b => .bl (neg ^^ b)) := by
  intro pins s σ H x y v u Q I rx ry h
  obtain ⟨base, W, st, dx, dy, d, sr, vx, vy, e, nx⟩ := h
  simp only [Option.map_eq_some_iff] at e
  obtain ⟨b, e, rfl⟩ := e
  unfold eqD at e
  split at e
  · rename_i hf
    simp only [Bool.and_eq_true, Bool.or_eq_true] at hf
    have vx' : Rp X.K cl W.F W.r st.length x dx := by
      cases vx with
      | of h => exact h
      | lst h hs => simp [flat] at hf
      | dct h hk hs => simp [flat] at hf
    have vy' : Rp X.K cl W.F W.r st.length y dy := by
      cases vy with
      | of h => exact h
      | lst h hs => simp [flat] at hf
      | dct h hk hs => simp [flat] at hf
    have hd : scal x y = true ∧ decide (x = y) = b := by
      cases vx' <;> cases vy' <;> first
        | (simp [flat] at hf; done)
        | (simp [isText] at hf; done)
        | (simp [deq] at e; done)
        | (simp [deq] at e; obtain ⟨e1, e2⟩ := e; subst e2; rw [peq_eq e1]; exact ⟨rfl, by simp⟩)
        | (simp [deq] at e; subst e; refine ⟨rfl, ?_⟩; first | rfl | (rw [Bool.eq_iff_iff]; simp; done) | simp)
    have fin := nx.same sr (.bl (neg ^^ b))
    cases neg with
    | true =>
      refine op_ne pins s σ H x y v u Q I rx ry ⟨hd.1, ?_⟩
      rw [hd.2]
      simpa using fin
    | false =>
      refine op_eq pins s σ H x y v u Q I rx ry ⟨hd.1, ?_⟩
      rw [hd.2]
      simpa using fin
  · split at e
    · rename_i hf
      simp only [Bool.and_eq_true] at hf
      obtain ⟨p, p1, p2⟩ := shaped_of hf.1
      obtain ⟨q, q1, q2⟩ := shaped_of hf.2
      have ev := deq_eqv hf.1 hf.2 p1 q1 e
      have fin := nx.same sr (.bl (neg ^^ b))
      cases neg with
      | true =>
        refine op_neD (by omega) pins s σ H x y v u Q I rx ry ⟨p, q, vx.dp sr p1, vy.dp sr q1, p2, q2, ?_⟩
        rw [ev]
        simpa using fin
      | false =>
        refine op_eqD (by omega) pins s σ H x y v u Q I rx ry ⟨p, q, vx.dp sr p1, vy.dp sr q1, p2, q2, ?_⟩
        rw [ev]
        simpa using fin
    · cases e
theorem op_inn (neg : Bool) (hu : X.A.units + 65 < cLine) : OpR X (compareOp (if neg then .NotIn else .In)) (r2 X.K cl fun x y => (isin x y).map fun b => .bl (neg ^^ b)) := by
  intro pins s σ H x y v u Q I rx ry h
  obtain ⟨base, W, st, dx, dy, d, sr, vx, vy, e, nx⟩ := h
  simp only [Option.map_eq_some_iff] at e
  obtain ⟨b, e, rfl⟩ := e
  have fin := nx.same sr (.bl (neg ^^ b))
  have vxp : flat dx = true → Rp X.K cl W.F W.r st.length x dx := fun hf => by
    cases vx with
    | of h => exact h
    | lst h hs => simp [flat] at hf
    | dct h hk hs => simp [flat] at hf
  have seq : ∀ (a : Addr) (vs : List V) (ds : List D), y = .ref a → (SqL X.K H a vs ∨ SqT X.K H a vs) → RpL X.K cl W.F W.r st.length vs ds → flat dx = true → ds.all flat = true → anyEq dx ds = some b →
      wpAny (model X.prog X.w) X.A (compareOp (if neg then .NotIn else .In) v u) (EP X pins σ Q) X.xe s := fun a vs ds ey hs hr f1 f2 e => by
    have vx' := vxp f1
    have iv := anyEq_inV vx' f1 hr f2 e
    cases neg with
    | true =>
      refine op_notIn_seq pins s σ H x y v u Q I rx ry ⟨a, vs, ey, hs, flat_flatV vx' f1, flats_flatV hr f2, ?_⟩
      rw [iv]
      simpa using fin
    | false =>
      refine op_in_seq pins s σ H x y v u Q I rx ry ⟨a, vs, ey, hs, flat_flatV vx' f1, flats_flatV hr f2, ?_⟩
      rw [iv]
      simpa using fin
  cases dy with
  | lst ds =>
    simp only [isin] at e
    split at e
    · rename_i hf
      simp only [Bool.and_eq_true] at hf
      obtain ⟨a, vs, ey, h1, h2⟩ := vy.lists sr
      exact seq a vs ds ey (.inl h1) h2 hf.1 hf.2 e
    · split at e
      · rename_i hf
        simp only [Bool.and_eq_true] at hf
        obtain ⟨p, p1, p2⟩ := shaped_of hf.1
        obtain ⟨q, q1, q2⟩ := shaped_of hf.2
        have q1' := q1
        simp only [toPy, Option.map_eq_some_iff] at q1'
        obtain ⟨qs, q3, rfl⟩ := q1'
        have ok : eqOks 63 ds = true := by
          have := hf.2
          simp only [eqOk, Bool.and_eq_true] at this
          exact this.2
        have an := anyEq_any hf.1 p1 ok q3 e
        cases neg with
        | true =>
          refine op_notInD (by omega) pins s σ H x y v u Q I rx ry ⟨p, qs, vx.dp sr p1, vy.dp sr q1, p2, q2, ?_⟩
          rw [an]
          simpa using fin
        | false =>
          refine op_inD (by omega) pins s σ H x y v u Q I rx ry ⟨p, qs, vx.dp sr p1, vy.dp sr q1, p2, q2, ?_⟩
          rw [an]
          simpa using fin
      · cases e
  | tup ds =>
    simp only [isin] at e
    split at e
    · rename_i hf
      simp only [Bool.and_eq_true] at hf
      obtain ⟨a, vs, ey, h1, _, h2⟩ := vy.tups sr
      exact seq a vs ds ey (.inr h1) h2 hf.1 hf.2 e
    · cases e
  | str z =>
    simp only [isin] at e
    split at e
    · rename_i w
      split at e
      · rename_i c hc
        cases e
        obtain rfl := vx.str
        obtain rfl := vy.str
        have ew : w = ⟨#[c]⟩ := Str.ext' (by rw [← Array.toList_inj]; exact hc)
        subst ew
        cases neg with
        | true => exact op_notIn_sign pins s σ H _ _ v u Q I rx ry ⟨c, z, rfl, rfl, by simpa using fin⟩
        | false => exact op_in_sign pins s σ H _ _ v u Q I rx ry ⟨c, z, rfl, rfl, by simpa using fin⟩
      · cases e
    · cases e
  | dct ks ds =>
    simp only [isin, Option.map_eq_some_iff] at e
    obtain ⟨k, e1, e2⟩ := e
    obtain ⟨a, kvs, rfl, h1, h2, h3⟩ := vy.dcts sr
    subst h2
    have ex : x = kV k := by
      cases dx <;> simp [keyOf] at e1
      · subst e1
        exact vx.int
      · subst e1
        exact vx.str
    cases ry
    have q := RpL.valV (W := W) (n := st.length) (K := X.K) (cl := cl) k h3
    have eo : (valV kvs k).isSome = b := by
      rw [← e2]
      cases ev : valAt (kvs.map (·.1)) ds k with
      | none => rw [q.2 ev]; rfl
      | some d =>
        obtain ⟨w, hw, _⟩ := q.1 d ev
        rw [hw]
        rfl
    have g : DGet H a x (valV kvs k) := .inl ⟨kvs, k, .inl h1, ex, rfl⟩
    cases neg with
    | true => exact d_notIn (by omega) I g rx fun s' I' => ⟨.bl _, H, I', rfl, by rw [eo]; simpa using fin⟩
    | false => exact d_in (by omega) I g rx fun s' I' => ⟨.bl _, H, I', rfl, by rw [eo]; simpa using fin⟩
  | _ => simp [isin] at e
end
end Itp
namespace Itp
open L2 PySem.Spec PyProof.Rows PySem
section
variable {X : Cx} {cl : Nat → Addr}
theorem op_cmpp (c : Cmp) (hu : X.A.units + 65 < cLine) : OpR X (compareOp c.op) (r2 X.K cl fun x y => (cmpop c x y).map D.bl) := by
  have plain : ∀ (pins : List (Addr × Obj)) (s : Shared) (σ : L2.St) (H : Hp) (x y : V) (v u : Value) (Q : VK), Inv X pins σ H s → RelV x v → RelV y u → c ≠ .eq → c ≠ .ne → c ≠ .isin → c ≠ .notin → r2 X.K cl (fun x y => (cmpop c x y).map D.bl) x y H Q →
      wpAny (model X.prog X.w) X.A (compareOp c.op v u) (EP X pins σ Q) X.xe s := by
    intro pins s σ H x y v u Q I rx ry n1 n2 n3 n4 h
    obtain ⟨base, W, st, dx, dy, d, sr, vx, vy, e, nx⟩ := h
    simp only [Option.map_eq_some_iff] at e
    obtain ⟨b, e, rfl⟩ := e
    have fin := nx.same sr (.bl b)
    unfold cmpop at e
    split at e
    · exact absurd rfl n1
    · exact absurd rfl n2
    · exact absurd rfl n3
    · exact absurd rfl n4
    · cases e
      obtain rfl := vy.non
      refine op_isN pins s σ H _ _ v u Q I rx ry ⟨rfl, ?_⟩
      have : decide (x = .non) = isNon dx := by
        cases dx <;> first
          | (obtain rfl := vx.non; rfl)
          | (obtain rfl := vx.bl; rfl)
          | (obtain rfl := vx.int; rfl)
          | (obtain rfl := vx.str; rfl)
          | (obtain rfl := vx.rep; rfl)
          | (cases vx <;> first | rfl | (rename_i h; cases h <;> rfl))
      rw [this]
      exact fin
    · cases e
      obtain rfl := vy.non
      refine op_notN pins s σ H _ _ v u Q I rx ry ⟨rfl, ?_⟩
      have : decide (x = .non) = isNon dx := by
        cases dx <;> first
          | (obtain rfl := vx.non; rfl)
          | (obtain rfl := vx.bl; rfl)
          | (obtain rfl := vx.int; rfl)
          | (obtain rfl := vx.str; rfl)
          | (obtain rfl := vx.rep; rfl)
          | (cases vx <;> first | rfl | (rename_i h; cases h <;> rfl))
      rw [this]
      exact fin
    · cases e
      obtain rfl := vx.bl
      obtain rfl := vy.bl
      exact op_isBl pins s σ H _ _ v u Q I rx ry ⟨_, _, rfl, rfl, fin⟩
    · cases e
      obtain rfl := vx.bl
      obtain rfl := vy.bl
      exact op_notBl pins s σ H _ _ v u Q I rx ry ⟨_, _, rfl, rfl, fin⟩
    · cases e
      obtain rfl := vx.int
      obtain rfl := vy.int
      exact op_lt pins s σ H _ _ v u Q I rx ry ⟨_, _, rfl, rfl, fin⟩
    · cases e
      obtain rfl := vx.int
      obtain rfl := vy.int
      exact op_le pins s σ H _ _ v u Q I rx ry ⟨_, _, rfl, rfl, fin⟩
    · cases e
      obtain rfl := vx.int
      obtain rfl := vy.int
      exact op_gt pins s σ H _ _ v u Q I rx ry ⟨_, _, rfl, rfl, fin⟩
    · cases e
      obtain rfl := vx.int
      obtain rfl := vy.int
      exact op_ge pins s σ H _ _ v u Q I rx ry ⟨_, _, rfl, rfl, fin⟩
    · cases e
      obtain rfl := vx.str
      obtain rfl := vy.str
      exact op_lt_str pins s σ H _ _ v u Q I rx ry ⟨_, _, rfl, rfl, fin⟩
    · cases e
      obtain rfl := vx.str
      obtain rfl := vy.str
      exact op_le_str pins s σ H _ _ v u Q I rx ry ⟨_, _, rfl, rfl, fin⟩
    · cases e
  intro pins s σ H x y v u Q I rx ry h
  cases c with
  | eq =>
    refine op_eqq (cl := cl) false hu pins s σ H x y v u Q I rx ry ?_
    have e : (fun x y => (cmpop .eq x y).map D.bl) = fun x y => (eqD x y).map fun b => .bl (false ^^ b) := by
      funext x y
      simp [cmpop]
    rw [← e]
    exact h
  | ne =>
    refine op_eqq (cl := cl) true hu pins s σ H x y v u Q I rx ry ?_
    have e : (fun x y => (cmpop .ne x y).map D.bl) = fun x y => (eqD x y).map fun b => .bl (true ^^ b) := by
      funext x y
      simp only [cmpop, Option.map_map]
      congr 1
      funext b
      simp
    rw [← e]
    exact h
  | isin =>
    refine op_inn (cl := cl) false hu pins s σ H x y v u Q I rx ry ?_
    have e : (fun x y => (cmpop .isin x y).map D.bl) = fun x y => (isin x y).map fun b => .bl (false ^^ b) := by
      funext x y
      simp [cmpop]
    rw [← e]
    exact h
  | notin =>
    refine op_inn (cl := cl) true hu pins s σ H x y v u Q I rx ry ?_
    have e : (fun x y => (cmpop .notin x y).map D.bl) = fun x y => (isin x y).map fun b => .bl (true ^^ b) := by
      funext x y
      simp only [cmpop, Option.map_map]
      congr 1
      funext b
      simp
    rw [← e]
    exact h
  | lt => exact plain pins s σ H x y v u Q I rx ry (by decide) (by decide) (by decide) (by decide) h
  | le => exact plain pins s σ H x y v u Q I rx ry (by decide) (by decide) (by decide) (by decide) h
  | gt => exact plain pins s σ H x y v u Q I rx ry (by decide) (by decide) (by decide) (by decide) h
  | ge => exact plain pins s σ H x y v u Q I rx ry (by decide) (by decide) (by decide) (by decide) h
  | is => exact plain pins s σ H x y v u Q I rx ry (by decide) (by decide) (by decide) (by decide) h
  | isnot => exact plain pins s σ H x y v u Q I rx ry (by decide) (by decide) (by decide) (by decide) h
end
end Itp
namespace Itp
open L2 PySem.Spec PyProof.Rows PySem
/-! ### truth, places, cuts -/
def tru : D → Option Bool
  | .non => some false
  | .bl b => some b
  | .int i => some (i != 0)
  | .str x => if lim x.length then some ((x.length : Int) != 0) else none
  | .lst ds => some (!ds.isEmpty)
  | .tup ds => some (!ds.isEmpty)
  | .dct ks _ => some (!ks.isEmpty)
  | _ => none
def cutL {α : Type} (xs : List α) (lo hi : Option Int) : List α := (xs.drop (HT.sIx xs.length 0 lo)).take (HT.sIx xs.length xs.length hi - HT.sIx xs.length 0 lo)
def idx : D → D → Option D
  | .lst ds, .int i => atI ds i
  | .tup ds, .int i => atI ds i
  | .str z, .int i => if lim z.length then (atI z.cps.toList i).map fun c => .str ⟨#[c]⟩ else none
  | .dct ks ds, x => (keyOf x).bind fun k => valAt ks ds k
  | _, _ => none
def cut : D → Option Int → Option Int → Option D
  | .lst ds, lo, hi => some (.lst (cutL ds lo hi))
  | .tup ds, lo, hi => some (.tup (cutL ds lo hi))
  | .str z, lo, hi => if lim z.length then some (.str (cutS z lo hi)) else none
  | _, _, _ => none
section
variable {K : PySem.W.Frag} {cl : Nat → Addr} {W : Wd} {n : Nat} {H : Hp} {base : Lv} {st : Sto}
theorem RpL.empty {vs : List V} {ds : List D} (h : RpL K cl W.F W.r n vs ds) : vs.isEmpty = ds.isEmpty := by
  cases h <;> rfl
theorem Rv.tru (s : SR K cl base W st H) {v : V} {d : D} {b : Bool} (h : Rv K cl W n H v d) (e : tru d = some b) : TruV K v H b := by
  cases d <;> simp only [Itp.tru, Option.some.injEq, reduceCtorEq] at e
  · obtain rfl := h.non
    exact e.symm
  · obtain rfl := h.bl
    exact e.symm
  · obtain rfl := h.int
    exact e.symm
  · obtain rfl := h.str
    split at e
    · rename_i hl
      cases e
      exact ⟨limE hl, rfl⟩
    · cases e
  · obtain ⟨a, vs, rfl, h1, _, h2⟩ := h.tups s
    exact .inr (.inl ⟨vs, h1, by rw [← e, h2.empty]⟩)
  · obtain ⟨a, vs, rfl, h1, h2⟩ := h.lists s
    exact .inl ⟨vs, h1, by rw [← e, h2.empty]⟩
  · obtain ⟨a, kvs, rfl, h1, h2, h3⟩ := h.dcts s
    refine .inr (.inr ⟨kvs, h1, ?_⟩)
    rw [← e, ← h2]
    cases kvs <;> rfl
theorem RpL.cut {vs : List V} {ds : List D} (h : RpL K cl W.F W.r n vs ds) (lo hi : Option Int) : RpL K cl W.F W.r n (cutV vs lo hi) (cutL ds lo hi) := by
  unfold cutV cutL
  rw [h.length]
  exact (h.drop _).take _
theorem RpL.atI {vs : List V} {ds : List D} {i : Int} {d : D} (h : RpL K cl W.F W.r n vs ds) (e : L2.atI ds i = some d) : ∃ v, L2.atI vs i = some v ∧ Rp K cl W.F W.r n v d := by
  unfold L2.atI at e ⊢
  rw [h.length]
  cases q : ixN ds.length i with
  | none => rw [q] at e; cases e
  | some j =>
    rw [q] at e
    exact h.get e
end
theorem PE.or {X : Cx} {e : Expr} {t u : TE} (h : PE X e t) (k : PE X e u) : PE X e (fun σ H Q => t σ H Q ∨ u σ H Q) :=
  ⟨fun pins s σ H Q I q => q.elim (h.run pins s σ H Q I) (k.run pins s σ H Q I)⟩
theorem PE.imp {X : Cx} {e : Expr} {t u : TE} (h : PE X e t) (k : ∀ σ H Q, u σ H Q → t σ H Q) : PE X e u := ⟨fun pins s σ H Q I q => h.run pins s σ H Q I (k σ H Q q)⟩
theorem PT.imp {X : Cx} {e : Expr} {t u : TT} (h : PT X e t) (k : ∀ σ H Q, u σ H Q → t σ H Q) : PT X e u := ⟨fun pins s σ H Q I q => h.run pins s σ H Q I (k σ H Q q)⟩
theorem PA.imp {X : Cx} {e : List Expr} {t u : TA} (h : PA X e t) (k : ∀ σ H Q, u σ H Q → t σ H Q) : PA X e u := ⟨fun pos pins s σ H Q I q => h.run pos pins s σ H Q I (k σ H Q q)⟩
section
variable {X : Cx} {cl : Nat → Addr}
theorem ix_d : IxR X (r2 X.K cl fun x y => match x with | .dct _ _ => none | _ => idx x y) := by
  intro value slice pins s σ H x y v u Q I rx ry h hs
  obtain ⟨base, W, st, dx, dy, d, sr, vx, vy, e, nx⟩ := h
  cases dx with
  | lst ds =>
    cases dy <;> simp only [idx, reduceCtorEq] at e
    obtain rfl := vy.int
    obtain ⟨a, vs, rfl, h1, h2⟩ := vx.lists sr
    obtain ⟨w, hw, hr⟩ := h2.atI e
    exact ix_list value slice pins s σ H _ _ v u Q I rx ry ⟨a, vs, _, w, rfl, rfl, h1, hw, nx.same sr hr⟩ hs
  | tup ds =>
    cases dy <;> simp only [idx, reduceCtorEq] at e
    obtain rfl := vy.int
    obtain ⟨a, vs, rfl, h1, _, h2⟩ := vx.tups sr
    obtain ⟨w, hw, hr⟩ := h2.atI e
    exact ix_tup value slice pins s σ H _ _ v u Q I rx ry ⟨a, vs, _, w, rfl, rfl, h1, hw, nx.same sr hr⟩ hs
  | str z =>
    cases dy <;> simp only [idx, reduceCtorEq] at e
    obtain rfl := vy.int
    obtain rfl := vx.str
    split at e
    · rename_i hl
      simp only [Option.map_eq_some_iff] at e
      obtain ⟨c, e1, rfl⟩ := e
      exact ix_str value slice pins s σ H _ _ v u Q I rx ry ⟨z, _, c, rfl, rfl, limE hl, e1, nx.same sr (.str _)⟩ hs
    · cases e
  | _ => simp [idx] at e
/-- a dict's item -/
theorem ix_dict (hu : X.A.units + 1 < cLine) : IxR X (r2 X.K cl fun x y => match x with | .dct ks ds => idx (.dct ks ds) y | _ => none) := by
  intro value slice pins s σ H x y v u Q I rx ry h hs
  obtain ⟨base, W, st, dx, dy, d, sr, vx, vy, e, nx⟩ := h
  cases dx <;> simp only [idx, reduceCtorEq, Option.bind_eq_some_iff] at e
  obtain ⟨k, e1, e2⟩ := e
  obtain ⟨a, kvs, rfl, h1, rfl, h3⟩ := vx.dcts sr
  have ey : y = kV k := by
    cases dy <;> simp [keyOf] at e1
    · subst e1
      exact vy.int
    · subst e1
      exact vy.str
  obtain ⟨w, hw, hr⟩ := (RpL.valV (W := W) (n := st.length) (K := X.K) (cl := cl) k h3).1 d e2
  obtain rfl : v = Value.ref a := rx
  have g : DGet H a y (some w) := .inl ⟨kvs, k, .inl h1, ey, hw.symm⟩
  have ty := dict_typeIs I g
  have go : wpAny (model X.prog X.w) X.A (subscripted slice false (.ref a) u) (fun r s3 => wpAny (model X.prog X.w) X.A (do { letTemporaryGo value (.ref a) r; pure r }) (EP X pins σ Q) X.xe s3) X.xe s := by
    rw [hs]
    exact wpAny_operating (d_getItem hu I g ry fun w' s3 I3 rw' => wpAny_bind (wpAny_letTemporaryGo (wpAny_pure ⟨w, H, I3, rw', nx.same sr hr⟩)))
  unfold subscriptTail
  refine wpAny_bind ?_
  rw [getitemInPython_of_ne ty.not_modules]
  refine wpAny_bind (wpAny_specialOf ty PySem.F.slot_dict_getitem.lookup ?_)
  first | exact wpAny_pure (wpAny_bind go) | exact wpAny_bind (wpAny_pure (wpAny_bind go)) | exact wpAny_bind go
/-- o[i] of whatever it is -/
theorem ix_any (hu : X.A.units + 1 < cLine) : IxR X (r2 X.K cl idx) := by
  intro value slice pins s σ H x y v u Q I rx ry h hs
  obtain ⟨base, W, st, dx, dy, d, sr, vx, vy, e, nx⟩ := h
  cases dx with
  | dct ks ds => exact ix_dict (cl := cl) hu value slice pins s σ H x y v u Q I rx ry ⟨base, W, st, _, _, d, sr, vx, vy, e, nx⟩ hs
  | _ => exact ix_d (cl := cl) value slice pins s σ H x y v u Q I rx ry ⟨base, W, st, _, _, d, sr, vx, vy, e, nx⟩ hs
theorem sl_d {X : Cx} {cl : Nat → Addr} : SlR X (fun x lo hi H Q => ∃ base W st dx d, SR X.K cl base W st H ∧ Rv X.K cl W st.length H x dx ∧ cut dx lo hi = some d ∧ Nx X.K cl base W st.length st d Q) := by
  intro pins s σ H x v vl vu lo hi sl Q I rx hs pl pu h
  obtain ⟨base, W, st, dx, d, sr, vx, e, nx⟩ := h
  cases dx <;> simp only [cut, reduceCtorEq, Option.some.injEq] at e
  · obtain rfl := vx.str
    split at e
    · rename_i hl
      cases e
      exact sl_str pins s σ H _ v vl vu lo hi sl Q I rx hs pl pu ⟨_, rfl, limE hl, nx.same sr (.str _)⟩
    · cases e
  · subst e
    obtain ⟨a, vs, rfl, h1, h1', h2⟩ := vx.tups sr
    have hc := h2.cut lo hi
    refine sl_tupA pins s σ H _ v vl vu lo hi sl Q I rx hs pl pu ⟨a, vs, rfl, h1, fun hw => ?_, fun _ => nx.tup sr hc⟩
    have ec : ∀ ds : List D, vs.length = ds.length → cutL ds lo hi = ds := fun ds q => by
      unfold cutL
      rw [← q, hw.1, hw.2, List.drop_zero, Nat.sub_zero, q]
      exact List.take_length
    rw [ec _ h2.length] at nx
    exact nx.same sr (.tup h1' h2)
  · subst e
    obtain ⟨a, vs, rfl, h1, h2⟩ := vx.lists sr
    exact sl_list pins s σ H _ v vl vu lo hi sl Q I rx hs pl pu ⟨a, vs, rfl, h1, nx.lst sr (h2.cut lo hi)⟩
end
/-- xs[lo:hi:k] -/
def pickA {α : Type} (xs : List α) (lo hi st : Option Int) : List α := (sliceRange (sliceBounds lo hi st xs.length).1 (sliceBounds lo hi st xs.length).2.1 (sliceBounds lo hi st xs.length).2.2).filterMap (xs[·]?)
def cutK (k : Nat) : D → Option Int → Option Int → Option D
  | .lst ds, lo, hi => some (.lst (pickA ds lo hi (some (k : Int))))
  | _, _, _ => none
end Itp
namespace Itp
open L2 PySem.Spec PyProof.Rows PySem
/-! ### built-in functions -/
inductive RvL (K : PySem.W.Frag) (cl : Nat → Addr) (W : Wd) (n : Nat) (H : Hp) : List V → List D → Prop where
  | nil : RvL K cl W n H [] []
  | cons {v : V} {d : D} {vs : List V} {ds : List D} (h : Rv K cl W n H v d) (hs : RvL K cl W n H vs ds) : RvL K cl W n H (v :: vs) (d :: ds)
def rb (K : PySem.W.Frag) (cl : Nat → Addr) (g : List D → Option D) : List V → Hp → VK → Prop := fun xs H Q =>
  ∃ base W st ds d, SR K cl base W st H ∧ RvL K cl W st.length H xs ds ∧ g ds = some d ∧ Nx K cl base W st.length st d Q
def bLen : List D → Option D
  | [.lst ds] => some (.int ds.length)
  | [.tup ds] => some (.int ds.length)
  | [.dct ks _] => some (.int ks.length)
  | [.str x] => if lim x.length then some (.int x.length) else none
  | _ => none
def bAbs : List D → Option D
  | [.int i] => some (.int (if i < 0 then -i else i))
  | _ => none
def bGcd : List D → Option D
  | [.int a, .int b] => some (.int ((Nat.gcd a.natAbs b.natAbs : Nat) : Int))
  | _ => none
def bTuple : List D → Option D
  | [.lst ds] => some (.tup ds)
  | [.tup ds] => some (.tup ds)
  | _ => none
def bList : List D → Option D
  | [.lst ds] => some (.lst ds)
  | [.tup ds] => some (.lst ds)
  | _ => none
def bInt : List D → Option D
  | [.int i] => some (.int i)
  | [.bl b] => some (.int (if b then 1 else 0))
  | [.str x] => if decide (x.length ≤ 640) then (PySem.intText? x).map .int else none
  | _ => none
def bStr : List D → Option D
  | [.int i] => if decide (i.natAbs.log2 < 1920) then some (.str (toString i)) else none
  | _ => none
def unInts : List D → Option (List Int)
  | [] => some []
  | .int i :: ds => (unInts ds).map (i :: ·)
  | _ => none
def unBls : List D → Option (List Bool)
  | [] => some []
  | .bl b :: ds => (unBls ds).map (b :: ·)
  | _ => none
def maxI (i : Int) (l : List Int) : Int := l.foldl (fun a b => if b > a then b else a) i
def minI (i : Int) (l : List Int) : Int := l.foldl (fun a b => if b < a then b else a) i
def bSum : List D → Option D
  | [.lst ds] => (unInts ds).map fun l => .int l.sum
  | _ => none
def bAll : List D → Option D
  | [.lst ds] => (unBls ds).map fun l => .bl (l.all id)
  | _ => none
def bAny : List D → Option D
  | [.lst ds] => (unBls ds).map fun l => .bl (l.any id)
  | _ => none
def bIsqrt : List D → Option D
  | [.int i] => if decide (0 ≤ i) && decide (i < 2 ^ 64) then some (.int ((PySem.Float64.isqrt i.toNat : Nat) : Int)) else none
  | _ => none
def bMax : List D → Option D
  | [.int i, .int j] => some (.int (if j > i then j else i))
  | [.lst ds] => match unInts ds with
    | some (i :: l) => some (.int (maxI i l))
    | _ => none
  | _ => none
def bMin : List D → Option D
  | [.int i, .int j] => some (.int (if j < i then j else i))
  | [.lst ds] => match unInts ds with
    | some (i :: l) => some (.int (minI i l))
    | _ => none
  | _ => none
def repOk (p : PyData) : Bool := p.canLay0 && p.showable && decide (602 * p.weight + 600 ≤ sizeLine) && decide (p.depth ≤ 64)
def bRepr : List D → Option D
  | [d] => (toPy d).bind fun p => if repOk p then some (.rep p) else none
  | _ => none
/-- the classes that == and isinstance ask of data -/
def tyNm : D → Option String
  | .non => some "NoneType" | .bl _ => some "bool" | .int _ => some "int" | .str _ => some "str" | .rep _ => some "str"
  | .lst _ => some "list" | .tup _ => some "tuple" | .dct _ _ => some "dict"
  | _ => none
def tyIs (a : String) (t : Ty) : Bool := decide (a = t.nm) || (decide (a = "bool") && decide (t = .int))
def isI (sub : Nat → Nat → Option Bool) (x c : D) : Option Bool :=
  match x, c with
  | .exc n, .cls m => sub n m
  | .exc n, .ty .valueError => (sub n n).map fun _ => true
  | .exc _, _ => none
  | x, .ty t => (tyNm x).map fun a => tyIs a t
  | _, _ => none
def isAny (sub : Nat → Nat → Option Bool) (x : D) : List D → Option Bool
  | [] => some false
  | c :: cs => match isI sub x c with
    | some true => some true
    | some false => isAny sub x cs
    | none => none
def bIsi (sub : Nat → Nat → Option Bool) : List D → Option D
  | [x, .tup (c :: cs)] => (isAny sub x (c :: cs)).map .bl
  | [x, c] => (isI sub x c).map .bl
  | _ => none
/-- what the classes of the text say -/
structure KF (K : PySem.W.Frag) (cl : Nat → Addr) (sub : Nat → Nat → Option Bool) : Prop where
  exc : ∀ n m b, sub n m = some b → ExcC K (cl n)
  kit : ∀ n m b, sub n m = some b → PySem.W.kitOne K (.ref (cl n)) (.ref (cl m)) = some b
  exm : ∀ n m b, sub n m = some b → PySem.W.exmOne K (.ref (cl n)) (.ref (cl m)) = some b
  kitV : ∀ n m b, sub n m = some b → PySem.W.kitOne K (.ref (cl n)) (.type "ValueError") = some true
theorem kit_tys : ∀ {d : D} {a : String} {K : PySem.W.Frag} (t : Ty), tyNm d = some a → PySem.W.kitOne K (.type a) (.type t.nm) = some (tyIs a t) := by
  intro d a K t h
  apply kit_ty
  cases d <;> simp only [tyNm, Option.some.injEq, reduceCtorEq] at h <;> subst h <;> cases t <;> decide +kernel
section
variable {X : Cx} {cl : Nat → Addr}
theorem rv1 {K : PySem.W.Frag} {W : Wd} {n : Nat} {H : Hp} {xs : List V} {d : D} (h : RvL K cl W n H xs [d]) : ∃ v, xs = [v] ∧ Rv K cl W n H v d := by
  cases h with
  | cons h hs =>
    cases hs
    exact ⟨_, rfl, h⟩
theorem rv2 {K : PySem.W.Frag} {W : Wd} {n : Nat} {H : Hp} {xs : List V} {d e : D} (h : RvL K cl W n H xs [d, e]) : ∃ v w, xs = [v, w] ∧ Rv K cl W n H v d ∧ Rv K cl W n H w e := by
  cases h with
  | cons h hs =>
    cases hs with
    | cons h2 hs =>
      cases hs
      exact ⟨_, _, rfl, h, h2⟩
theorem call_lenD : CallR X (.builtin "len") (rb X.K cl bLen) := by
  intro pins s σ H xs us Q I r h
  obtain ⟨base, W, st, ds, d, sr, vs, e, nx⟩ := h
  unfold bLen at e
  split at e
  · cases e
    obtain ⟨v, rfl, h⟩ := rv1 vs
    obtain ⟨a, ws, rfl, h1, h2⟩ := h.lists sr
    exact call_len pins s σ H _ us Q I r ⟨_, ws.length, rfl, .inl ⟨ws, h1, rfl⟩, by rw [h2.length]; exact nx.same sr (.int _)⟩
  · cases e
    obtain ⟨v, rfl, h⟩ := rv1 vs
    obtain ⟨a, ws, rfl, h1, _, h2⟩ := h.tups sr
    exact call_len pins s σ H _ us Q I r ⟨_, ws.length, rfl, .inr ⟨ws, h1, rfl⟩, by rw [h2.length]; exact nx.same sr (.int _)⟩
  · cases e
    obtain ⟨v, rfl, h⟩ := rv1 vs
    obtain ⟨a, kvs, rfl, h1, h2, h3⟩ := h.dcts sr
    obtain ⟨u, rfl, rx⟩ := vals1 r
    cases rx
    refine d_len I (.inl h1) fun t s' I' => ⟨.int kvs.length, H, I', ⟨t, rfl⟩, ?_⟩
    have : kvs.length = (kvs.map (·.1)).length := by rw [List.length_map]
    rw [this, h2]
    exact nx.same sr (.int _)
  · split at e
    · rename_i hl
      cases e
      obtain ⟨v, rfl, h⟩ := rv1 vs
      obtain rfl := h.str
      exact call_len pins s σ H _ us Q I r ⟨_, _, rfl, ⟨limE hl, rfl⟩, nx.same sr (.int _)⟩
    · cases e
  · cases e
theorem call_absD : CallR X (.builtin "abs") (rb X.K cl bAbs) := by
  intro pins s σ H xs us Q I r h
  obtain ⟨base, W, st, ds, d, sr, vs, e, nx⟩ := h
  unfold bAbs at e
  split at e
  · cases e
    obtain ⟨v, rfl, h⟩ := rv1 vs
    obtain rfl := h.int
    exact call_abs pins s σ H _ us Q I r ⟨_, rfl, nx.same sr (.int _)⟩
  · cases e
theorem call_gcdD : CallR X (.builtin "math.gcd") (rb X.K cl bGcd) := by
  intro pins s σ H xs us Q I r h
  obtain ⟨base, W, st, ds, d, sr, vs, e, nx⟩ := h
  unfold bGcd at e
  split at e
  · cases e
    obtain ⟨v, w, rfl, h, h'⟩ := rv2 vs
    obtain rfl := h.int
    obtain rfl := h'.int
    exact cr_gcd pins s σ H _ us Q I r ⟨_, _, rfl, nx.same sr (.int _)⟩
  · cases e
theorem call_tupleD : CallR X (.type "tuple") (rb X.K cl bTuple) := by
  intro pins s σ H xs us Q I r h
  obtain ⟨base, W, st, ds, d, sr, vs, e, nx⟩ := h
  unfold bTuple at e
  split at e
  · cases e
    obtain ⟨v, rfl, h⟩ := rv1 vs
    obtain ⟨a, ws, rfl, h1, h2⟩ := h.lists sr
    exact call_tuple_of pins s σ H _ us Q I r ⟨a, ws, rfl, .inl ⟨h1, nx.tup sr h2⟩⟩
  · cases e
    obtain ⟨v, rfl, h⟩ := rv1 vs
    obtain ⟨a, ws, rfl, h1, h1', h2⟩ := h.tups sr
    exact call_tuple_of pins s σ H _ us Q I r ⟨a, ws, rfl, .inr ⟨h1, nx.same sr (.tup h1' h2)⟩⟩
  · cases e
theorem call_listD : CallR X (.type "list") (rb X.K cl bList) := by
  intro pins s σ H xs us Q I r h
  obtain ⟨base, W, st, ds, d, sr, vs, e, nx⟩ := h
  unfold bList at e
  split at e
  · cases e
    obtain ⟨v, rfl, h⟩ := rv1 vs
    obtain ⟨a, ws, rfl, h1, h2⟩ := h.lists sr
    exact call_list_of pins s σ H _ us Q I r ⟨a, ws, rfl, .inl h1, nx.lst sr h2⟩
  · cases e
    obtain ⟨v, rfl, h⟩ := rv1 vs
    obtain ⟨a, ws, rfl, h1, _, h2⟩ := h.tups sr
    exact call_list_of pins s σ H _ us Q I r ⟨a, ws, rfl, .inr h1, nx.lst sr h2⟩
  · cases e
theorem call_intD : CallR X (.type "int") (rb X.K cl bInt) := by
  intro pins s σ H xs us Q I r h
  obtain ⟨base, W, st, ds, d, sr, vs, e, nx⟩ := h
  unfold bInt at e
  split at e
  · cases e
    obtain ⟨v, rfl, h⟩ := rv1 vs
    obtain rfl := h.int
    exact call_int1 pins s σ H _ us Q I r (.inl ⟨_, rfl, nx.same sr (.int _)⟩)
  · cases e
    obtain ⟨v, rfl, h⟩ := rv1 vs
    obtain rfl := h.bl
    exact call_int1 pins s σ H _ us Q I r (.inr ⟨_, rfl, nx.same sr (.int _)⟩)
  · split at e
    · rename_i hl
      simp only [Option.map_eq_some_iff] at e
      obtain ⟨i, e, rfl⟩ := e
      obtain ⟨v, rfl, h⟩ := rv1 vs
      obtain rfl := h.str
      exact call_int_str pins s σ H _ us Q I r ⟨_, i, rfl, e, of_decide_eq_true hl, nx.same sr (.int _)⟩
    · cases e
  · cases e
theorem call_strD : CallR X (.type "str") (rb X.K cl bStr) := by
  intro pins s σ H xs us Q I r h
  obtain ⟨base, W, st, ds, d, sr, vs, e, nx⟩ := h
  unfold bStr at e
  split at e
  · split at e
    · rename_i hl
      cases e
      obtain ⟨v, rfl, h⟩ := rv1 vs
      obtain rfl := h.int
      exact call_str_int pins s σ H _ us Q I r ⟨_, rfl, of_decide_eq_true hl, nx.same sr (.str _)⟩
    · cases e
  · cases e
theorem maxI_in (l : List Int) : ∀ i, (maxI i l = i ∨ maxI i l ∈ l) ∧ i ≤ maxI i l ∧ ∀ y ∈ l, y ≤ maxI i l := by
  induction l with
  | nil => intro i; exact ⟨.inl rfl, Int.le_refl _, fun y hy => by cases hy⟩
  | cons b l ih =>
    intro i
    have e : maxI i (b :: l) = maxI (if b > i then b else i) l := rfl
    rw [e]
    obtain ⟨h1, h2, h3⟩ := ih (if b > i then b else i)
    by_cases hb : b > i
    · rw [if_pos hb] at h1 h2 h3 ⊢
      refine ⟨.inr ?_, by omega, fun y hy => ?_⟩
      · rcases h1 with h1 | h1
        · rw [h1]; exact List.mem_cons_self
        · exact List.mem_cons_of_mem _ h1
      · rcases List.mem_cons.mp hy with rfl | hy
        · exact h2
        · exact h3 y hy
    · rw [if_neg hb] at h1 h2 h3 ⊢
      refine ⟨?_, h2, fun y hy => ?_⟩
      · rcases h1 with h1 | h1
        · exact .inl h1
        · exact .inr (List.mem_cons_of_mem _ h1)
      · rcases List.mem_cons.mp hy with rfl | hy
        · omega
        · exact h3 y hy
theorem minI_in (l : List Int) : ∀ i, (minI i l = i ∨ minI i l ∈ l) ∧ minI i l ≤ i ∧ ∀ y ∈ l, minI i l ≤ y := by
  induction l with
  | nil => intro i; exact ⟨.inl rfl, Int.le_refl _, fun y hy => by cases hy⟩
  | cons b l ih =>
    intro i
    have e : minI i (b :: l) = minI (if b < i then b else i) l := rfl
    rw [e]
    obtain ⟨h1, h2, h3⟩ := ih (if b < i then b else i)
    by_cases hb : b < i
    · rw [if_pos hb] at h1 h2 h3 ⊢
      refine ⟨.inr ?_, by omega, fun y hy => ?_⟩
      · rcases h1 with h1 | h1
        · rw [h1]; exact List.mem_cons_self
        · exact List.mem_cons_of_mem _ h1
      · rcases List.mem_cons.mp hy with rfl | hy
        · exact h2
        · exact h3 y hy
    · rw [if_neg hb] at h1 h2 h3 ⊢
      refine ⟨?_, h2, fun y hy => ?_⟩
      · rcases h1 with h1 | h1
        · exact .inl h1
        · exact .inr (List.mem_cons_of_mem _ h1)
      · rcases List.mem_cons.mp hy with rfl | hy
        · omega
        · exact h3 y hy
theorem max_only {i : Int} {l : List Int} {m : Int} (hm : m ∈ i :: l) (h : ∀ y, y ∈ i :: l → y ≤ m) : m = maxI i l := by
  obtain ⟨h1, h2, h3⟩ := maxI_in l i
  have a : maxI i l ≤ m := h _ (h1.elim (fun e => by rw [e]; exact List.mem_cons_self) fun e => List.mem_cons_of_mem _ e)
  have b : m ≤ maxI i l := by
    rcases List.mem_cons.mp hm with rfl | hm
    · exact h2
    · exact h3 m hm
  omega
theorem min_only {i : Int} {l : List Int} {m : Int} (hm : m ∈ i :: l) (h : ∀ y, y ∈ i :: l → m ≤ y) : m = minI i l := by
  obtain ⟨h1, h2, h3⟩ := minI_in l i
  have a : m ≤ minI i l := h _ (h1.elim (fun e => by rw [e]; exact List.mem_cons_self) fun e => List.mem_cons_of_mem _ e)
  have b : minI i l ≤ m := by
    rcases List.mem_cons.mp hm with rfl | hm
    · exact h2
    · exact h3 m hm
  omega
theorem unInts_rp {K : PySem.W.Frag} {cl : Nat → Addr} {F : Hp} {r : Nat → Addr} {n : Nat} : ∀ {vs : List V} {ds : List D} {l : List Int}, RpL K cl F r n vs ds → unInts ds = some l → vs = l.map V.int
  | _, _, l, .nil, h => by
    simp only [unInts, Option.some.injEq] at h
    subst h
    rfl
  | _, _, l, .cons h hs, e => by
    cases h <;> simp only [unInts, reduceCtorEq, Option.map_eq_some_iff] at e
    obtain ⟨l', e, rfl⟩ := e
    rw [unInts_rp hs e]
    rfl
theorem unBls_rp {K : PySem.W.Frag} {cl : Nat → Addr} {F : Hp} {r : Nat → Addr} {n : Nat} : ∀ {vs : List V} {ds : List D} {l : List Bool}, RpL K cl F r n vs ds → unBls ds = some l → vs = l.map V.bl
  | _, _, l, .nil, h => by
    simp only [unBls, Option.some.injEq] at h
    subst h
    rfl
  | _, _, l, .cons h hs, e => by
    cases h <;> simp only [unBls, reduceCtorEq, Option.map_eq_some_iff] at e
    obtain ⟨l', e, rfl⟩ := e
    rw [unBls_rp hs e]
    rfl
theorem call_sumD (hc : X.calm = true) : CallR X (.builtin "sum") (rb X.K cl bSum) := by
  intro pins s σ H xs us Q I r h
  obtain ⟨base, W, st, ds, d, sr, vs, e, nx⟩ := h
  unfold bSum at e
  split at e
  · simp only [Option.map_eq_some_iff] at e
    obtain ⟨l, e, rfl⟩ := e
    obtain ⟨v, rfl, h⟩ := rv1 vs
    obtain ⟨a, ws, rfl, h1, h2⟩ := h.lists sr
    rw [unInts_rp h2 e] at h1
    exact cr_sum hc pins s σ H _ us Q I r ⟨a, l, rfl, h1, nx.same sr (.int _)⟩
  · cases e
theorem call_allD (hc : X.calm = true) : CallR X (.builtin "all") (rb X.K cl bAll) := by
  intro pins s σ H xs us Q I r h
  obtain ⟨base, W, st, ds, d, sr, vs, e, nx⟩ := h
  unfold bAll at e
  split at e
  · simp only [Option.map_eq_some_iff] at e
    obtain ⟨l, e, rfl⟩ := e
    obtain ⟨v, rfl, h⟩ := rv1 vs
    obtain ⟨a, ws, rfl, h1, h2⟩ := h.lists sr
    rw [unBls_rp h2 e] at h1
    exact cr_all hc pins s σ H _ us Q I r ⟨a, l, rfl, h1, nx.same sr (.bl _)⟩
  · cases e
theorem call_anyD (hc : X.calm = true) : CallR X (.builtin "any") (rb X.K cl bAny) := by
  intro pins s σ H xs us Q I r h
  obtain ⟨base, W, st, ds, d, sr, vs, e, nx⟩ := h
  unfold bAny at e
  split at e
  · simp only [Option.map_eq_some_iff] at e
    obtain ⟨l, e, rfl⟩ := e
    obtain ⟨v, rfl, h⟩ := rv1 vs
    obtain ⟨a, ws, rfl, h1, h2⟩ := h.lists sr
    rw [unBls_rp h2 e] at h1
    exact cr_any hc pins s σ H _ us Q I r ⟨a, l, rfl, h1, nx.same sr (.bl _)⟩
  · cases e
theorem call_isqrtD : CallR X (.builtin "math.isqrt") (rb X.K cl bIsqrt) := by
  intro pins s σ H xs us Q I r h
  obtain ⟨base, W, st, ds, d, sr, vs, e, nx⟩ := h
  unfold bIsqrt at e
  split at e
  · split at e
    · rename_i hb
      simp only [Bool.and_eq_true, decide_eq_true_eq] at hb
      cases e
      obtain ⟨v, rfl, h⟩ := rv1 vs
      obtain rfl := h.int
      obtain ⟨u, rfl, rx⟩ := vals1 r
      obtain ⟨t, rfl⟩ := rx
      exact PySem.W.mg_isqrt hb.1 hb.2 ⟨.int _, H, I.tok _, ⟨_, rfl⟩, nx.same sr (.int _)⟩
    · cases e
  · cases e
theorem call_maxD (hc : X.calm = true) : CallR X (.builtin "max") (rb X.K cl bMax) := by
  intro pins s σ H xs us Q I r h
  obtain ⟨base, W, st, ds, d, sr, vs, e, nx⟩ := h
  unfold bMax at e
  split at e
  · cases e
    obtain ⟨v, w, rfl, h, h'⟩ := rv2 vs
    obtain rfl := h.int
    obtain rfl := h'.int
    exact call_max2 hc pins s σ H _ us Q I r ⟨_, _, rfl, nx.same sr (.int _)⟩
  · split at e
    · rename_i i l q
      cases e
      obtain ⟨v, rfl, h⟩ := rv1 vs
      obtain ⟨a, ws, rfl, h1, h2⟩ := h.lists sr
      rw [unInts_rp h2 q] at h1
      exact cr_max hc pins s σ H _ us Q I r ⟨a, i :: l, rfl, h1, Nat.zero_lt_succ _, fun m hm hy => by rw [max_only hm hy]; exact nx.same sr (.int _)⟩
    · cases e
  · cases e
theorem call_minD (hc : X.calm = true) : CallR X (.builtin "min") (rb X.K cl bMin) := by
  intro pins s σ H xs us Q I r h
  obtain ⟨base, W, st, ds, d, sr, vs, e, nx⟩ := h
  unfold bMin at e
  split at e
  · cases e
    obtain ⟨v, w, rfl, h, h'⟩ := rv2 vs
    obtain rfl := h.int
    obtain rfl := h'.int
    exact call_min2 hc pins s σ H _ us Q I r ⟨_, _, rfl, nx.same sr (.int _)⟩
  · split at e
    · rename_i i l q
      cases e
      obtain ⟨v, rfl, h⟩ := rv1 vs
      obtain ⟨a, ws, rfl, h1, h2⟩ := h.lists sr
      rw [unInts_rp h2 q] at h1
      exact cr_min hc pins s σ H _ us Q I r ⟨a, i :: l, rfl, h1, Nat.zero_lt_succ _, fun m hm hy => by rw [min_only hm hy]; exact nx.same sr (.int _)⟩
    · cases e
  · cases e
end
end Itp
namespace Itp
open L2 PySem.Spec PyProof.Rows PySem
/-! ### repr -/
theorem pow1920 : (2 : Nat) ^ 1920 ≤ 10 ^ 590 := by decide +kernel
theorem int_len {i : Int} (h : i.natAbs.log2 < 1920) : (PyData.shown (.int i)).length ≤ 600 := by
  have hlt : i.natAbs < 10 ^ 590 := by
    by_cases h0 : i.natAbs = 0
    · rw [h0]
      decide +kernel
    · exact Nat.lt_of_lt_of_le ((Nat.log2_lt h0).mp h) pow1920
  have nat : ∀ k : Nat, k < 10 ^ 590 → (Str.ofString (toString ((k : Nat) : Int))).length ≤ 590 := fun k hk => by
    rw [TL.len_tl, TL.tl_num]
    exact TL.numL_len (by decide) hk
  simp only [PyData.shown]
  cases i with
  | ofNat k =>
    have := nat k hlt
    exact Nat.le_trans this (by decide)
  | negSucc k =>
    have hk : k + 1 < 10 ^ 590 := hlt
    have h1 := nat (k + 1) hk
    have e : toString (Int.negSucc k) = "-" ++ toString ((k + 1 : Nat) : Int) := rfl
    rw [e]
    have e2 : (Str.ofString ("-" ++ toString ((k + 1 : Nat) : Int))).length = 1 + (Str.ofString (toString ((k + 1 : Nat) : Int))).length := by
      rw [TL.len_tl, TL.len_tl, TL.tl_ofString, TL.tl_ofString]
      simp
      omega
    show (Str.ofString ("-" ++ toString ((k + 1 : Nat) : Int))).length ≤ 600
    rw [e2]
    omega
mutual
theorem ints_short : ∀ {p : PyData}, p.showable = true → p.canLay0 = true → p.intsShort 600 = true
  | .none, _, _ => rfl
  | .bool _, _, _ => rfl
  | .str _, _, _ => rfl
  | .int i, h, _ => by
    simp only [PyData.showable, decide_eq_true_eq] at h
    simp only [PyData.intsShort, decide_eq_true_eq]
    exact int_len h
  | .list xs, h, k => by
    simp only [PyData.showable] at h
    simp only [PyData.canLay0] at k
    simp only [PyData.intsShort]
    exact intss_short h k
  | .tuple xs, h, k => by
    simp only [PyData.showable] at h
    simp only [PyData.canLay0] at k
    simp only [PyData.intsShort]
    exact intss_short h k
  | .dict _, _, k => by simp [PyData.canLay0] at k
theorem intss_short : ∀ {ps : List PyData}, PyData.showableAll ps = true → PyData.canLayAll0 ps = true → PyData.intsShortAll 600 ps = true
  | [], _, _ => rfl
  | p :: ps, h, k => by
    simp only [PyData.showableAll, Bool.and_eq_true] at h
    simp only [PyData.canLayAll0, Bool.and_eq_true] at k
    simp only [PyData.intsShortAll, Bool.and_eq_true]
    exact ⟨ints_short h.1 k.1, intss_short h.2 k.2⟩
end
theorem rep_len {p : PyData} (h : repOk p = true) : p.shown.length ≤ sizeLine := by
  unfold repOk at h
  simp only [Bool.and_eq_true, decide_eq_true_eq] at h
  exact Nat.le_trans (PyData.shown_le 600 (by decide) p (PyData.leavesShort_of_canLay0 600 p h.1.1.1 (ints_short h.1.1.2 h.1.1.1))) h.1.2
section
variable {X : Cx} {cl : Nat → Addr}
theorem call_reprD (hg : X.A.guards = some []) (hu : X.A.units + 66 < cLine) : CallR X (.builtin "repr") (rb X.K cl bRepr) := by
  intro pins s σ H xs us Q I r h
  obtain ⟨base, W, st, ds, d, sr, vs, e, nx⟩ := h
  unfold bRepr at e
  split at e
  · rename_i d0
    simp only [Option.bind_eq_some_iff] at e
    obtain ⟨p, e1, e2⟩ := e
    split at e2
    · rename_i hr
      cases e2
      obtain ⟨v, rfl, h⟩ := rv1 vs
      obtain ⟨u, rfl, rx⟩ := vals1 r
      have hl := rep_len hr
      have hr' := hr
      unfold repOk at hr'
      simp only [Bool.and_eq_true, decide_eq_true_eq] at hr'
      have hsh := hr'.1.1.2
      have hd := hr'.2
      have hnd := PyData.hasDict_of_canLay p hr'.1.1.1
      have fin : ∀ (h' : Heap) (t tk : Nat), (∀ b o, s.heap.get? b = some o → h'.get? b = some o) → EP X pins σ Q (.str p.shown t) { s with heap := h', toks := tk } := fun h' t tk hk =>
        ⟨.str p.shown, H, I.kept (t' := tk) hk, ⟨t, rfl⟩, nx.same sr (.rep p)⟩
      have dp := h.dp sr e1
      obtain ⟨as, rd⟩ := Dp.reads I p v u dp rx
      cases rd with
      | none => exact PySem.P.repr_of_none (fin s.heap _ _ fun _ _ q => q)
      | bool b => exact PySem.P.repr_of_bool (fin s.heap _ _ fun _ _ q => q)
      | int i t =>
        simp only [PyData.showable, decide_eq_true_eq] at hsh
        exact PySem.P.repr_of_int hsh (fin s.heap _ _ fun _ _ q => q)
      | str x t => exact PySem.P.repr_of_str (fin s.heap _ _ fun _ _ q => q) hl
      | list h1 h2 h3 h4 => exact repr_of_reads' (.list h1 h2 h3 h4) hsh (PyData.noDict_hsm hnd) hg (by omega) (fun _ _ q => q) (fun h' t tk hk => fin h' t tk hk) hl
      | tuple h1 h2 h3 h4 => exact repr_of_reads' (.tuple h1 h2 h3 h4) hsh (PyData.noDict_hsm hnd) hg (by omega) (fun _ _ q => q) (fun h' t tk hk => fin h' t tk hk) hl
      | dict h1 h2 h3 h4 h5 => exact repr_of_reads' (.dict h1 h2 h3 h4 h5) hsh (PyData.noDict_hsm hnd) hg (by omega) (fun _ _ q => q) (fun h' t tk hk => fin h' t tk hk) hl
    · cases e2
  · cases e
/-! ### isinstance -/
theorem SqL.tyx {K : PySem.W.Frag} {H : Hp} {a : Addr} {vs : List V} (h : SqL K H a vs) : TyX K H (.ref a) (.type "list") := by
  rcases h with (h | ⟨o, h⟩) | ⟨o, its, n, hk, hc, _⟩
  · exact .base (.lst h)
  · exact .base (.frz h)
  · exact .kList hk hc
theorem SqT.tyx {K : PySem.W.Frag} {H : Hp} {a : Addr} {vs : List V} (h : SqT K H a vs) : TyX K H (.ref a) (.type "tuple") := by
  rcases h with (h | ⟨o, h⟩) | ⟨o, its, n, hk, hc, _⟩
  · exact .base (.tup h)
  · exact .fTuple h
  · exact .kTuple hk hc
theorem Rv.tyx {K : PySem.W.Frag} {W : Wd} {n : Nat} {H : Hp} {base : Lv} {st : Sto} (s : SR K cl base W st H) {v : V} {d : D} {a : String} (h : Rv K cl W n H v d) (e : tyNm d = some a) : TyX K H v (.type a) := by
  cases d <;> simp only [tyNm, Option.some.injEq, reduceCtorEq] at e <;> subst e
  · obtain rfl := h.non
    exact .base .non
  · obtain rfl := h.bl
    exact .base (.bl _)
  · obtain rfl := h.int
    exact .base (.int _)
  · obtain rfl := h.str
    exact .base (.str _)
  · obtain ⟨b, vs, rfl, h1, _, _⟩ := h.tups s
    exact Itp.SqT.tyx h1
  · obtain ⟨b, vs, rfl, h1, _⟩ := h.lists s
    exact Itp.SqL.tyx h1
  · obtain ⟨b, kvs, rfl, h1, _, _⟩ := h.dcts s
    exact .base (.dK h1)
  · obtain rfl := h.rep
    exact .base (.str _)
/-- how isinstance asks a value: its class, by what is true of the heap -/
theorem kit_d {sub : Nat → Nat → Option Bool} (F : KF X.K cl sub) {pins : List (Addr × Obj)} {s : Shared} {σ : L2.St} {H : Hp} (I : Inv X pins σ H s) {W : Wd} {n : Nat} {base : Lv} {st : Sto} (sr : SR X.K cl base W st H) {v : V} {u : Value} {d : D} (rx : RelV v u)
    (h : Rv X.K cl W n H v d) (hd : (∃ a, tyNm d = some a) ∨ ∃ m k b, d = .exc m ∧ sub m k = some b) : ∃ (t : Value) (P : Heap → Prop), PySem.W.KitX X.K u t P ∧ P s.heap ∧ u ≠ .builtin "__main__.__loader__#opaque" ∧
      (∀ a, tyNm d = some a → t = .type a) ∧ ∀ m, d = .exc m → t = .ref (cl m) := by
  rcases hd with ⟨a, ha⟩ | ⟨m, k, b, rfl, hs⟩
  · obtain ⟨P, Z, p, hx⟩ := kit_of I rx (h.tyx sr ha)
    refine ⟨_, P, Z, p, hx, fun a' e => ?_, fun m e => ?_⟩
    · rw [ha] at e
      cases e
      rfl
    · subst e
      simp [tyNm] at ha
  · obtain ⟨a, rfl, ha⟩ := h.excs sr
    cases rx
    obtain ⟨⟨oe, vs, h1, h2, h3, h4⟩, _⟩ : (∃ (oe : Obj) (vs : Array Value), s.heap.get? a = some oe ∧ oe.cls = .ref (cl m) ∧ oe.dict = none ∧ oe.data = .fields vs) ∧ _ := I.hok a _ ha
    have C := F.exc m k b hs
    obtain ⟨oc, od, oda, osl⟩ := oe
    dsimp only at h2 h3 h4
    subst h2 h3 h4
    refine ⟨.ref (cl m), _, PySem.W.handS_kitx_exc C.hg C.hk C.hs C.hd C.ha C.hn C.ht C.hm, ⟨h1, rfl, rfl, trivial⟩, (fun z => nomatch z), fun a e => ?_, fun m' e => ?_⟩
    · simp [tyNm] at e
    · cases e
      rfl
theorem kit_one {sub : Nat → Nat → Option Bool} (F : KF X.K cl sub) {H : Hp} {W : Wd} {n : Nat} {w : V} {u : Value} {d c : D} {t : Value} {b : Bool} (h : Rp X.K cl W.F W.r n w c) (rw' : RelV w u) (e : isI sub d c = some b)
    (h1 : ∀ a, tyNm d = some a → t = .type a) (h2 : ∀ m, d = .exc m → t = .ref (cl m)) : PySem.W.kitOne X.K t u = some b ∧ ((∃ a, tyNm d = some a) ∨ ∃ m k b, d = .exc m ∧ sub m k = some b) := by
  unfold isI at e
  split at e
  · rename_i m k
    cases h
    cases rw'
    rw [h2 m rfl]
    exact ⟨F.kit _ _ _ e, .inr ⟨m, _, _, rfl, e⟩⟩
  · rename_i m
    simp only [Option.map_eq_some_iff] at e
    obtain ⟨b', e, rfl⟩ := e
    cases h
    cases rw'
    rw [h2 m rfl]
    exact ⟨F.kitV _ _ _ e, .inr ⟨m, _, _, rfl, e⟩⟩
  · cases e
  · rename_i t'
    simp only [Option.map_eq_some_iff] at e
    obtain ⟨a, e, rfl⟩ := e
    cases h
    cases rw'
    rw [h1 a e]
    exact ⟨kit_tys _ e, .inl ⟨a, e⟩⟩
  · cases e
theorem kit_any {sub : Nat → Nat → Option Bool} (F : KF X.K cl sub) {H : Hp} {W : Wd} {n : Nat} {d : D} {t : Value} (h1 : ∀ a, tyNm d = some a → t = .type a) (h2 : ∀ m, d = .exc m → t = .ref (cl m)) :
    ∀ {ws : List V} {us : List Value} {cs : List D} {b : Bool}, RpL X.K cl W.F W.r n ws cs → Vals ws us → isAny sub d cs = some b → PySem.W.kitAny X.K t us = some b
  | _, _, _, b, .nil, .nil, e => by
    simp only [isAny, Option.some.injEq] at e
    subst e
    rfl
  | _, _, _, b, .cons h hs, .cons r rs, e => by
    simp only [isAny] at e
    split at e
    · rename_i q
      cases e
      obtain ⟨k, _⟩ := kit_one F (H := H) h r q h1 h2
      exact kitAny_cons k (fun z => nomatch z) fun _ => rfl
    · rename_i q
      obtain ⟨k, _⟩ := kit_one F (H := H) h r q h1 h2
      exact kitAny_cons k (fun _ => kit_any F (H := H) h1 h2 hs rs e) fun z => nomatch z
    · cases e
theorem isAny_known {sub : Nat → Nat → Option Bool} {d c : D} {cs : List D} {b : Bool} (e : isAny sub d (c :: cs) = some b) : ∃ b', isI sub d c = some b' := by
  simp only [isAny] at e
  split at e
  · exact ⟨_, by assumption⟩
  · exact ⟨_, by assumption⟩
  · cases e
theorem call_isiD {sub : Nat → Nat → Option Bool} (F : KF X.K cl sub) : CallR X (.builtin "isinstance") (rb X.K cl (bIsi sub)) := by
  intro pins s σ H xs us Q I r h
  obtain ⟨base, W, st, ds, d, sr, vs, e, nx⟩ := h
  have known : ∀ {x c : D} {b : Bool}, isI sub x c = some b → (∃ a, tyNm x = some a) ∨ ∃ m k b, x = .exc m ∧ sub m k = some b := fun {x c b} e => by
    unfold isI at e
    split at e
    · exact .inr ⟨_, _, _, rfl, e⟩
    · simp only [Option.map_eq_some_iff] at e
      obtain ⟨b', e, _⟩ := e
      exact .inr ⟨_, _, _, rfl, e⟩
    · cases e
    · simp only [Option.map_eq_some_iff] at e
      obtain ⟨a, e, _⟩ := e
      exact .inl ⟨a, e⟩
    · cases e
  unfold bIsi at e
  split at e
  · rename_i x c cs
    simp only [Option.map_eq_some_iff] at e
    obtain ⟨b, e, rfl⟩ := e
    obtain ⟨v, w, rfl, h, h'⟩ := rv2 vs
    obtain ⟨u1, u2, rfl, r1, r2⟩ := vals2 r
    obtain ⟨a, ws, rfl, k1, _, k2⟩ := h'.tups sr
    cases r2
    obtain ⟨b', e'⟩ := isAny_known e
    obtain ⟨t, P, Z, p, hx, q1, q2⟩ := kit_d F I sr r1 h (known e')
    obtain ⟨its, rv, ⟨⟨oc, od, dt, sl⟩, g1, g2, n, g3⟩, _⟩ := I.tuple k1
    simp only at g2 g3
    subst g2 g3
    exact PySem.W.kia_tup Z I.kIn p g1 (kit_any F (H := H) q1 q2 k2 rv e) hx fun tk => ⟨.bl b, H, I.tok tk, rfl, nx.same sr (.bl b)⟩
  · rename_i x c _
    simp only [Option.map_eq_some_iff] at e
    obtain ⟨b, e, rfl⟩ := e
    obtain ⟨v, w, rfl, h, h'⟩ := rv2 vs
    obtain ⟨u1, u2, rfl, r1, r2⟩ := vals2 r
    obtain ⟨t, P, Z, p, hx, q1, q2⟩ := kit_d F I sr r1 h (known e)
    have h'' : Rp X.K cl W.F W.r st.length w c := by
      cases h' with
      | of h => exact h
      | lst h hs => cases x <;> simp [isI] at e
      | dct h hk hs => cases x <;> simp [isI] at e
    exact PySem.W.kia_one Z I.kIn p (kit_one F (H := H) h'' r2 e q1 q2).1 hx fun tk => ⟨.bl b, H, I.tok tk, rfl, nx.same sr (.bl b)⟩
  · cases e
end
end Itp
namespace Itp
open L2 PySem.Spec PyProof.Rows PySem
/-! ### the interpreter -/
structure Cfg where
  call : Nat → List D → Sto → Out D
  glob : Nat → Option D
  sub : Nat → Nat → Option Bool
  fuel : Nat
  base : Nat
  callL : Nat → (Sto → Out D) → Sto → Out D := fun _ _ _ => .bad
  act : Sto → Out D := fun _ => .bad
  lamc : Nat := 0
  kd : Nat → List (Str × D) := fun _ => []
/-- a written dict at a text -/
def kdGet : List (Str × D) → Str → Option D
  | [], _ => none
  | (x, d) :: l, z => if x = z then some d else kdGet l z
/-- a key of a word and a number, among the rows of a written dict -/
def ktKey : D → Option (Str × Int)
  | .tup [.str z, .int i] => some (z, i)
  | _ => none
def ktRow : Str × D → Option (Str × Int)
  | (z, .int i) => some (z, i)
  | _ => none
def ktMem (l : List (Str × D)) (k : Str × Int) : Bool := l.any fun p => ktRow p == some k
/-- whether a value's own class is int -/
def tyInt : D → Option Bool
  | .int _ => some true
  | .non | .bl _ | .str _ | .rep _ | .tup _ | .lst _ | .dct _ _ => some false
  | _ => none
def view (st : Sto) : D → D
  | .obj c => match st[c]? with
    | some (.lst ds) => .lst ds
    | some (.dct ks ds) => .dct ks ds
    | _ => .obj c
  | d => d
mutual
/-- all cells that d speaks of lie below b -/
def low (b : Nat) : D → Bool
  | .obj c => decide (c < b)
  | .tup ds => lows b ds
  | .lst ds => lows b ds
  | .dct _ ds => lows b ds
  | _ => true
def lows (b : Nat) : List D → Bool
  | [] => true
  | d :: ds => low b d && lows b ds
end
def canPut (base c : Nat) (d : D) : Bool := decide (base ≤ c) || low 0 d
def bltop (C : Cfg) : Blt → List D → Option D
  | .len => bLen
  | .abs => bAbs
  | .repr => bRepr
  | .isinst => bIsi C.sub
  | .gcd => bGcd
  | .tuple => bTuple
  | .list => bList
  | .int => bInt
  | .str => bStr
  | .max => bMax
  | .min => bMin
  | .sum => bSum
  | .all => bAll
  | .any => bAny
  | .isqrt => bIsqrt
  | _ => fun _ => none
def isDct : D → Bool
  | .dct _ _ => true
  | _ => false
/-- d.get(k), d.get(k, z) -/
def dgetop (d y : D) (zs : List D) : Option D := match d with
  | .dct ks ds => (keyOf y).bind fun k => match zs with
    | [] => some ((valAt ks ds k).getD .non)
    | [z] => some ((valAt ks ds k).getD z)
    | _ => none
  | _ => none
/-- in its place, or at the end -/
def hasKey (ks : List Key) (k : Key) : Bool := ks.any fun x => decide (x = k)
def setKs (ks : List Key) (k : Key) : List Key := if hasKey ks k then ks else ks ++ [k]
def setDs : List Key → List D → Key → D → List D
  | k' :: ks, d :: ds, k, v => (if k' = k then v else d) :: setDs ks ds k v
  | _, _, _, _ => []
def setVs (ks : List Key) (ds : List D) (k : Key) (v : D) : List D := if hasKey ks k then setDs ks ds k v else ds ++ [v]
/-- o[k] = v -/
def setop (base : Nat) (o k v : D) (st : Sto) : Option Sto :=
  match o with
  | .obj c => match st[c]? with
    | some (.lst ds) => match k with
      | .int i => match ixN ds.length i with
        | some j => if canPut base c v then some (st.set c (.lst (ds.set j v))) else none
        | none => none
      | _ => none
    | some (.dct ks ds) => match keyOf k with
      | some kk => if canPut base c v && decide (ks.length < sizeLine) then some (st.set c (.dct (setKs ks kk) (setVs ks ds kk v))) else none
      | none => none
    | _ => none
  | _ => none
/-- x op= y of whole numbers -/
def augop (o : Bop) (x y : D) : Option D :=
  match o, x, y with
  | .pow, _, _ => none
  | o, .int i, .int j => binop o (.int i) (.int j)
  | _, _, _ => none
/-- what has this method -/
def mthTy (m : Mth) (d : D) : Bool :=
  match m, d with
  | .append, .lst _ => true
  | _, _ => false
def mthop (base : Nat) (m : Mth) (o : D) (xs : List D) (st : Sto) : Option (D × Sto) :=
  match m, o, xs with
  | .append, .obj c, [d] => match st[c]? with
    | some (.lst ds) => if canPut base c d && decide (ds.length < sizeLine) then some (.non, st.set c (.lst (ds ++ [d]))) else none
    | _ => none
  | _, _, _ => none
def bnd : Tg → D → Env → Option Env
  | .name i, d, env => if i < env.length then some (env.set i (some d)) else none
  | .tup ts, .tup ds, env => bnds ts ds env
  | .tup ts, .lst ds, env => bnds ts ds env
  | _, _, _ => none
where bnds : List Tg → List D → Env → Option Env
  | [], [], env => some env
  | t :: ts, d :: ds, env => (bnd t d env).bind fun env => bnds ts ds env
  | _, _, _ => none
def upto (lo : Int) (n : Nat) : List D := (List.range n).map fun k => D.int (lo + (k : Nat))
def small62 (i : Int) : Bool := decide (-(2 ^ 62) ≤ i) && decide (i < 2 ^ 62)
def items : IK → List D → Option (List D)
  | .seq, [.lst ds] => some ds
  | .seq, [.tup ds] => some ds
  | .seq, [.str z] => some (z.cps.toList.map fun c => .str ⟨#[c]⟩)
  | .range, [.int b] => if small62 b then some (upto 0 b.toNat) else none
  | .range, [.int a, .int b] => if small62 a && small62 b then some (upto a (b - a).toNat) else none
  | .enum, [.lst ds] => some ((List.range ds.length).zip ds |>.map fun p => .tup [.int (p.1 : Nat), p.2])
  | .zip, [.lst ds, .lst es] => some ((ds.zip es).map fun p => .tup [p.1, p.2])
  | _, _ => none
def wipeD (env : Env) : List Nat → Env
  | [] => env
  | v :: vs => (wipeD env vs).set v none
def compD (f : D → Sto → Out (Option D)) : List D → Sto → Out (List D)
  | [], st => .ok [] st
  | d :: ds, st => match f d st with
    | .ok r st => (compD f ds st).bind fun ys st => .ok (match r with | some y => y :: ys | none => ys) st
    | _ => .bad
/-- all, any -/
def genD (f : D → Sto → Out D) (k : Bool) : List D → Sto → Out D
  | [], st => .ok (.bl k) st
  | d :: ds, st => match f d st with
    | .ok (.bl b) st => if b = k then genD f k ds st else .ok (.bl (!k)) st
    | _ => .bad
def nodupK : List Key → Bool
  | [] => true
  | k :: ks => !hasKey ks k && nodupK ks
def dctOk (ks : List Key) (n : Nat) : Bool := nodupK ks && (decide (ks.length = n) && decide (n ≤ 15))
def forD (f : D → Env → Sto → OutS) : List D → Env → Sto → OutS
  | [], env, st => .nx env st
  | d :: ds, env, st => match f d env st with
    | .nx e s => forD f ds e s
    | .ct e s => forD f ds e s
    | .bk e s => .nx e s
    | r => r
def whlD (t : Env → Sto → Out Bool) (f : Env → Sto → OutS) : Nat → Env → Sto → OutS
  | 0, _, _ => .bad
  | k + 1, env, st => match t env st with
    | .ok true st => match f env st with
      | .nx e s => whlD t f k e s
      | .ct e s => whlD t f k e s
      | .bk e s => .nx e s
      | r => r
    | .ok false st => .nx env st
    | .exc n st => .exc n env st
    | .bad => .bad
def toOut {α : Type} : Option (α × Sto) → Out α
  | some p => .ok p.1 p.2
  | none => .bad
def allv (st : Sto) (ds : List D) : List D := ds.map (view st)
mutual
def ev (C : Cfg) : E → Env → Sto → Out D
  | .lit d, _, st => .ok d st
  | .var i, env, st => match env[i]? with
    | some (some d) => .ok d st
    | _ => .bad
  | .glob n, _, st => .of st (C.glob n)
  | .bin o a b, env, st => (ev C a env st).bind fun x st => (ev C b env st).bind fun y st => .of st (binop o (view st x) (view st y))
  | .neg a, env, st => (ev C a env st).bind fun x st => match x with
    | .int i => .ok (.int (-i)) st
    | _ => .bad
  | .not a, env, st => (ev C a env st).bind fun x st => .of st ((tru (view st x)).map fun b => .bl (!b))
  | .cmp c a b, env, st => (ev C a env st).bind fun x st => (ev C b env st).bind fun y st => .of st ((cmpop c (view st x) (view st y)).map .bl)
  | .chain c c' a b e, env, st => (ev C a env st).bind fun x st => (ev C b env st).bind fun y st => match cmpop c (view st x) (view st y) with
    | some true => (ev C e env st).bind fun z st => .of st ((cmpop c' (view st y) (view st z)).map .bl)
    | some false => .ok (.bl false) st
    | none => .bad
  | .bop k es, env, st => evb C k es env st
  | .ite c a b, env, st => (ev C c env st).bind fun x st => match tru (view st x) with
    | some true => ev C a env st
    | some false => ev C b env st
    | none => .bad
  | .tup es, env, st => (evs C es env st).bind fun ds st => if lim ds.length then .ok (.tup ds) st else .bad
  | .lst m es, env, st => (evs C es env st).bind fun ds st => if lim ds.length then (if m then .ok (.obj st.length) (st ++ [.lst ds]) else .ok (.lst ds) st) else .bad
  | .ix a b, env, st => (ev C a env st).bind fun x st => (ev C b env st).bind fun y st => .of st (idx (view st x) y)
  | .slc a lo hi, env, st => (ev C a env st).bind fun x st => (evo C lo env st).bind fun l st => (evo C hi env st).bind fun h st => .of st (cut (view st x) l h)
  | .addM a b, env, st => (ev C a env st).bind fun x st => (ev C b env st).bind fun y st => match view st x, view st y with
    | .lst as, .lst bs => if lim (as.length + bs.length) then .ok (.obj st.length) (st ++ [.lst (as ++ bs)]) else .bad
    | _, _ => .bad
  | .rept es k, env, st => (evs C es env st).bind fun ds st => if lim ds.length then (ev C k env st).bind fun y st => .of st (repop ds y) else .bad
  | .slcK a lo hi k, env, st => (ev C a env st).bind fun x st => (evo C lo env st).bind fun l st => (evo C hi env st).bind fun h st => .of st (cutK k (view st x) l h)
  | .call f es, env, st => (evs C es env st).bind fun ds st => C.call f ds st
  | .blt b es, env, st => (evs C es env st).bind fun ds st => .of st (bltop C b (allv st ds))
  | .mth m o es, env, st => (ev C o env st).bind fun x st => if mthTy m (view st x) then (evs C es env st).bind fun ds st => toOut (mthop C.base m x ds st) else .bad
  | .comp m own tg ik src cond elt, env, st => (evs C src env st).bind fun vs st => match items ik vs with
    | some xs => (compD (fun d st => match bnd tg d (wipeD env own) with
        | some env1 => (evc C cond env1 st).bind fun k st => if k then (ev C elt env1 st).bind fun y st => .ok (some y) st else .ok none st
        | none => .bad) xs st).bind fun ys st => if lim ys.length then (if m then .ok (.obj st.length) (st ++ [.lst ys]) else .ok (.lst ys) st) else .bad
    | none => .bad
  | .gen k own tg ik src elt, env, st => (evs C src env st).bind fun vs st => match items ik vs with
    | some xs => genD (fun d st => match bnd tg d (wipeD env own) with
        | some env1 => ev C elt env1 st
        | none => .bad) k xs st
    | none => .bad
  | .callL f body, env, st => C.callL f (fun st => ev C body env st) st
  | .act i, env, st => match env[i]? with
    | some (some (.obj c)) => if c = C.lamc then C.act st else .bad
    | _ => .bad
  | .dct m ks es, env, st => (evs C es env st).bind fun ds st => if dctOk ks ds.length then (if m then .ok (.obj st.length) (st ++ [.dct ks ds]) else .ok (.dct ks ds) st) else .bad
  | .kin neg a n, env, st => (ev C a env st).bind fun x st => match x with
    | .str z => .ok (.bl (cond neg (!(kdGet (C.kd n) z).isSome) (kdGet (C.kd n) z).isSome)) st
    | _ => .bad
  | .kinT neg a n, env, st => (ev C a env st).bind fun x st => match ktKey x with
    | some z => .ok (.bl (cond neg (!ktMem (C.kd n) z) (ktMem (C.kd n) z))) st
    | none => .bad
  | .tyis neg a, env, st => (ev C a env st).bind fun x st => match tyInt (view st x) with
    | some b => .ok (.bl (cond neg (!b) b)) st
    | none => .bad
  | .kix n b, env, st => (ev C b env st).bind fun y st => match y with
    | .str z => .of st (kdGet (C.kd n) z)
    | _ => .bad
  | .dget a k df, env, st => (ev C a env st).bind fun x st => if isDct (view st x) then (ev C k env st).bind fun y st => (evs C df env st).bind fun zs st => .of st (dgetop (view st x) y zs) else .bad
def evs (C : Cfg) : List E → Env → Sto → Out (List D)
  | [], _, st => .ok [] st
  | e :: es, env, st => (ev C e env st).bind fun d st => (evs C es env st).bind fun ds st => .ok (d :: ds) st
/-- and, or -/
def evb (C : Cfg) (k : Bool) : List E → Env → Sto → Out D
  | [], _, _ => .bad
  | [e], env, st => ev C e env st
  | e :: e' :: es, env, st => (ev C e env st).bind fun x st => match tru (view st x) with
    | some b => if b = k then evb C k (e' :: es) env st else .ok x st
    | none => .bad
/-- a part of a slice -/
def evo (C : Cfg) : List E → Env → Sto → Out (Option Int)
  | [], _, st => .ok none st
  | [e], env, st => (ev C e env st).bind fun x st => match x with
    | .int i => .ok (some i) st
    | _ => .bad
  | _, _, _ => .bad
/-- a comprehension's test -/
def evc (C : Cfg) : List E → Env → Sto → Out Bool
  | [], _, st => .ok true st
  | [e], env, st => (ev C e env st).bind fun x st => .of st (tru (view st x))
  | _, _, _ => .bad
end

def Out.thenS {α : Type} (r : Out α) (env : Env) (f : α → Sto → OutS) : OutS :=
  match r with
  | .ok a st => f a st
  | .exc n st => .exc n env st
  | .bad => .bad
def OutS.of (st : Sto) : Option Env → OutS
  | some e => .nx e st
  | none => .bad
def put (env : Env) (i : Nat) (d : D) : Option Env := if i < env.length then some (env.set i (some d)) else none
def puts : List Nat → List D → Env → Option Env
  | [], [], env => some env
  | i :: is, d :: ds, env => (put env i d).bind fun env => puts is ds env
  | _, _, _ => none
mutual
def evS (C : Cfg) : S → Env → Sto → OutS
  | .set i e, env, st => (ev C e env st).thenS env fun d st => .of st (put env i d)
  | .setT tg e, env, st => (ev C e env st).thenS env fun d st => .of st (bnd tg d env)
  | .par is es, env, st => (evs C es env st).thenS env fun ds st => .of st (puts is ds env)
  | .setIx o k v, env, st => (ev C v env st).thenS env fun d st => (ev C o env st).thenS env fun x st => (ev C k env st).thenS env fun y st => match setop C.base x y d st with
    | some st => .nx env st
    | none => .bad
  | .aug i o e, env, st => match env[i]? with
    | some (some x) => (ev C e env st).thenS env fun y st => match augop o x y with
      | some z => .of st (put env i z)
      | none => .bad
    | _ => .bad
  | .ex e, env, st => (ev C e env st).thenS env fun _ st => .nx env st
  | .ret e, env, st => (ev C e env st).thenS env fun d st => .rt d st
  | .retN, _, st => .rt .non st
  | .ifs c a b, env, st => (ev C c env st).thenS env fun x st => match tru (view st x) with
    | some true => evSs C a env st
    | some false => evSs C b env st
    | none => .bad
  | .whl c body, env, st => whlD (fun env st => (ev C c env st).bind fun x st => .of st (tru (view st x))) (fun env st => evSs C body env st) C.fuel env st
  | .fors tg ik src body, env, st => (evs C src env st).thenS env fun vs st => match items ik vs with
    | some xs => forD (fun d env st => match bnd tg d env with
      | some env1 => evSs C body env1 st
      | none => .bad) xs env st
    | none => .bad
  | .tryx body c i j, env, st => match evSs C body env st with
    | .exc n e s => match C.sub n c with
      | some true => if i < e.length then (match put e j (.exc n) with
        | some e1 => .nx (e1.set i none) s
        | none => .bad) else .bad
      | some false => .exc n e s
      | none => .bad
    | r => r
  | .raise n _, env, st => .exc n env st
  | .brk, env, st => .bk env st
  | .cnt, env, st => .ct env st
  | .pass, env, st => .nx env st
  | .frz i, env, st => match env[i]? with
    | some (some (.obj c)) => if decide (C.base ≤ c) then (match st[c]? with
      | some (.lst ds) => .nx (env.set i (some (.lst ds))) (st.set c .dead)
      | some (.dct ks ds) => .nx (env.set i (some (.dct ks ds))) (st.set c .dead)
      | _ => .bad) else .bad
    | _ => .bad
def evSs (C : Cfg) : List S → Env → Sto → OutS
  | [], env, st => .nx env st
  | s :: ss, env, st => match evS C s env st with
    | .nx e t => evSs C ss e t
    | r => r
end

/-! ### a program -/
structure Fn where
  np : Nat
  n : Nat
  keep : Bool
  body : List S
structure Prog where
  fns : List Fn
  glob : Nat → Option D
  sub : Nat → Nat → Option Bool
  fuel : Nat
  kd : Nat → List (Str × D) := fun _ => []
mutual
def frz0 (g : Nat → Option D) : D → Option D
  | .obj c => g c
  | .tup ds => (frz0s g ds).map .tup
  | .lst ds => (frz0s g ds).map .lst
  | .dct ks ds => (frz0s g ds).map (.dct ks)
  | d => some d
def frz0s (g : Nat → Option D) : List D → Option (List D)
  | [] => some []
  | d :: ds => match frz0 g d, frz0s g ds with
    | some a, some b => some (a :: b)
    | _, _ => none
end
def fzc (st : Sto) (base : Nat) : Nat → Nat → Option D
  | 0, _ => none
  | k + 1, c => if c < base then some (.obj c) else match st[c]? with
    | some (.lst ds) => (frz0s (fzc st base k) ds).map .lst
    | some (.dct ks ds) => (frz0s (fzc st base k) ds).map (.dct ks)
    | _ => none
def fin (keep : Bool) (base : Nat) (d : D) (st : Sto) : Out D :=
  if keep || decide (st.length = base) then .ok d st else match frz0 (fzc st base (st.length + 1)) d with
    | some d => .ok d (st.take base)
    | none => .bad
def endF (keep : Bool) (base : Nat) : OutS → Out D
  | .nx _ st => fin keep base .non st
  | .rt d st => fin keep base d st
  | .exc n _ st => .exc n (st.take base)
  | _ => .bad
def startD (n : Nat) (ds : List D) : Env := ds.map some ++ List.replicate (n - ds.length) none
def Out.calm {α : Type} : Out α → Out α
  | .exc _ _ => .bad
  | r => r
/-- the call of a def that gets a lambda -/
def cfgA (P : Prog) (call : Nat → List D → Sto → Out D) (act : Sto → Out D) (n : Nat) : Cfg := ⟨call, P.glob, P.sub, P.fuel, n, fun _ _ _ => .bad, act, n, P.kd⟩
def callA (P : Prog) (call : Nat → List D → Sto → Out D) (f : Nat) (act : Sto → Out D) (st : Sto) : Out D := match P.fns[f]? with
  | some fn => if fn.np = 1 then (endF fn.keep st.length (evSs (cfgA P call act st.length) fn.body (startD fn.n [.obj st.length]) (st ++ [.dead]))).calm else .bad
  | none => .bad
def cfg (P : Prog) (call : Nat → List D → Sto → Out D) (base : Nat) : Cfg := ⟨call, P.glob, P.sub, P.fuel, base, callA P call, fun _ => .bad, 0, P.kd⟩
def callF (P : Prog) : Nat → Nat → List D → Sto → Out D
  | 0, _, _, _ => .bad
  | k + 1, f, ds, st => match P.fns[f]? with
    | some fn => if ds.length = fn.np then endF fn.keep st.length (evSs (cfg P (callF P k) st.length) fn.body (startD fn.n ds) st) else .bad
    | none => .bad
end Itp
open Itp in
example : ev { call := fun _ _ _ => .bad, glob := fun _ => none, sub := fun _ _ => none, fuel := 5, base := 0 } (.bin .add (.lit (.int 1)) (.lit (.int 2))) [] [] = .ok (.int 3) [] := rfl
open Itp in
example (i : Int) : ev { call := fun _ _ _ => .bad, glob := fun _ => none, sub := fun _ _ => none, fuel := 5, base := 0 } (.bin .add (.var 0) (.lit (.int 2))) [some (.int i)] [] = .ok (.int (i + 2)) [] := rfl
namespace Itp
open L2 PySem.Spec PyProof.Rows PySem
section
variable {K : PySem.W.Frag} {cl : Nat → Addr} {W : Wd} {n : Nat} {H : Hp} {base : Lv} {st : Sto}
theorem view_rv (s : SR K cl base W st H) {v : V} {d : D} (h : Rp K cl W.F W.r st.length v d) : Rv K cl W st.length H v (view st d) := by
  cases d <;> try exact .of h
  rename_i c
  simp only [view]
  split
  · rename_i ds e
    cases h with
    | obj c hc =>
      obtain ⟨vs, h1, h2⟩ := s.cell c _ e
      exact .lst (SqL.of h1) (h2.up (fun _ _ q => q) (fun _ _ => rfl) (lvl_le s.ge))
  · rename_i ks ds e
    cases h with
    | obj c hc =>
      obtain ⟨kvs, h1, h2, h3⟩ := s.cell c _ e
      exact .dct h1 h2 (h3.up (fun _ _ q => q) (fun _ _ => rfl) (lvl_le s.ge))
  · exact .of h
mutual
theorem Rp.low {b : Nat} : ∀ {v : V} {d : D}, Rp K cl W.F W.r n v d → low b d = true → Rp K cl W.F W.r b v d
  | _, _, .non, _ => .non
  | _, _, .bl b, _ => .bl b
  | _, _, .int i, _ => .int i
  | _, _, .str x, _ => .str x
  | _, _, .rep d, _ => .rep d
  | _, _, .tup h hs, e => .tup h (RpL.low hs (by simpa [Itp.low] using e))
  | _, _, .lst h hs, e => .lst h (RpL.low hs (by simpa [Itp.low] using e))
  | _, _, .dct h hk hs, e => .dct h hk (RpL.low hs (by simpa [Itp.low] using e))
  | _, _, .obj c h, e => .obj c (by simpa [Itp.low] using e)
  | _, _, .cls m, _ => .cls m
  | _, _, .ty t, _ => .ty t
  | _, _, .exc m h, _ => .exc m h
theorem RpL.low {b : Nat} : ∀ {vs : List V} {ds : List D}, RpL K cl W.F W.r n vs ds → lows b ds = true → RpL K cl W.F W.r b vs ds
  | _, _, .nil, _ => .nil
  | _, _, .cons h hs, e => by
    simp only [Itp.lows, Bool.and_eq_true] at e
    exact .cons (Rp.low h e.1) (RpL.low hs e.2)
end
theorem put_ok {c : Nat} {v : V} {d : D} (h : Rp K cl W.F W.r n v d) (e : canPut base.b c d = true) : Rp K cl W.F W.r (lvl base n c) v d := by
  unfold canPut at e
  simp only [Bool.or_eq_true, decide_eq_true_eq] at e
  unfold lvl
  by_cases hc : c < base.b
  · rw [if_pos hc]
    exact (h.low (e.resolve_left (by omega))).up (fun _ _ q => q) (fun _ q => absurd q (Nat.not_lt_zero _)) (Nat.zero_le _)
  · rw [if_neg hc]
    exact h
theorem RpL.up' {W' : Wd} {m : Nat} {vs : List V} {ds : List D} (h : RpL K cl W.F W.r n vs ds) (l : Le n W W') (le : n ≤ m) : RpL K cl W'.F W'.r m vs ds := h.up l.sub l.at_ le
theorem Rp.up' {W' : Wd} {m : Nat} {v : V} {d : D} (h : Rp K cl W.F W.r n v d) (l : Le n W W') (le : n ≤ m) : Rp K cl W'.F W'.r m v d := h.up l.sub l.at_ le
/-- the names' values -/
def EnvR (K : PySem.W.Frag) (cl : Nat → Addr) (W : Wd) (n : Nat) (env : Env) (σ : L2.St) : Prop :=
  env.length = σ.length ∧ ∀ (i : Nat) (d : D), env[i]? = some (some d) → ∃ v, σ[i]? = some (some v) ∧ Rp K cl W.F W.r n v d
theorem EnvR.up {W' : Wd} {m : Nat} {env : Env} {σ : L2.St} (h : EnvR K cl W n env σ) (l : Le n W W') (le : n ≤ m) : EnvR K cl W' m env σ :=
  ⟨h.1, fun i d e => let ⟨v, h1, h2⟩ := h.2 i d e; ⟨v, h1, h2.up' l le⟩⟩
theorem EnvR.set {env : Env} {σ : L2.St} (h : EnvR K cl W n env σ) {i : Nat} {v : V} {d : D} (r : Rp K cl W.F W.r n v d) : EnvR K cl W n (env.set i (some d)) (σ.set i (some v)) := by
  refine ⟨by simpa using h.1, fun j e q => ?_⟩
  by_cases hj : j = i
  · subst hj
    by_cases hl : j < env.length
    · rw [List.getElem?_set_self hl] at q
      cases q
      exact ⟨v, List.getElem?_set_self (by rw [← h.1]; exact hl), r⟩
    · rw [List.getElem?_eq_none (by simpa using hl)] at q
      cases q
  · rw [List.getElem?_set_ne (Ne.symm hj)] at q ⊢
    exact h.2 j e q
theorem EnvR.clr {env : Env} {σ : L2.St} (h : EnvR K cl W n env σ) (i : Nat) : EnvR K cl W n (env.set i none) (σ.set i none) := by
  refine ⟨by simpa using h.1, fun j e q => ?_⟩
  by_cases hj : j = i
  · subst hj
    by_cases hl : j < env.length
    · rw [List.getElem?_set_self hl] at q
      cases q
    · rw [List.getElem?_eq_none (by simpa using hl)] at q
      cases q
  · rw [List.getElem?_set_ne (Ne.symm hj)] at q ⊢
    exact h.2 j e q
theorem EnvR.wipe {env : Env} {σ : L2.St} (h : EnvR K cl W n env σ) : ∀ own : List Nat, EnvR K cl W n (wipeD env own) (L2.wipe σ own)
  | [] => h
  | v :: vs => (EnvR.wipe h vs).clr v
end
/-- what is wanted behind what an expression (a list of them, a test) told -/
def Post {α β : Type} (rel : Wd → Nat → β → α → Prop) (K : PySem.W.Frag) (cl : Nat → Addr) (base : Lv) (Wx : WX) (W : Wd) (n : Nat) (σ : L2.St) (r : Out α) (Q : β → Hp → Prop) : Prop :=
  match r with
  | .ok d st' => ∀ W' H' v, Le n W W' → n ≤ st'.length → SR K cl base W' st' H' → rel W' st'.length v d → Q v H'
  | .exc m st' => ∀ W' H', Le n W W' → n ≤ st'.length → SR K cl base W' st' H' → Wx (.ref (cl m)) none σ H'
  | .bad => False
abbrev relD (K : PySem.W.Frag) (cl : Nat → Addr) : Wd → Nat → V → D → Prop := fun W n v d => Rp K cl W.F W.r n v d
abbrev relL (K : PySem.W.Frag) (cl : Nat → Addr) : Wd → Nat → List V → List D → Prop := fun W n v d => RpL K cl W.F W.r n v d
abbrev relB : Wd → Nat → Bool → Bool → Prop := fun _ _ b c => b = c
abbrev relO : Wd → Nat → Option Int → Option Int → Prop := fun _ _ b c => b = c
def tP {α β : Type} (rel : Wd → Nat → β → α → Prop) (K : PySem.W.Frag) (cl : Nat → Addr) (base : Lv) (Wx : WX) (f : Env → Sto → Out α) : L2.St → Hp → (β → Hp → Prop) → Prop :=
  fun σ H Q => ∃ W env st, SR K cl base W st H ∧ EnvR K cl W st.length env σ ∧ Post rel K cl base Wx W st.length σ (f env st) Q
abbrev tD (K : PySem.W.Frag) (cl : Nat → Addr) (base : Lv) (Wx : WX) (f : Env → Sto → Out D) : TE := tP (relD K cl) K cl base Wx f
abbrev tL (K : PySem.W.Frag) (cl : Nat → Addr) (base : Lv) (Wx : WX) (f : Env → Sto → Out (List D)) : TA := tP (relL K cl) K cl base Wx f
abbrev tB (K : PySem.W.Frag) (cl : Nat → Addr) (base : Lv) (Wx : WX) (f : Env → Sto → Out Bool) : TT := tP relB K cl base Wx f
abbrev tO (K : PySem.W.Frag) (cl : Nat → Addr) (base : Lv) (Wx : WX) (f : Env → Sto → Out (Option Int)) : TO := tP relO K cl base Wx f
/-- a test, by an expression's truth -/
def tst (f : Env → Sto → Out D) : Env → Sto → Out Bool := fun env st => (f env st).bind fun x st => .of st (tru (view st x))
section
variable {K : PySem.W.Frag} {cl : Nat → Addr} {base : Lv} {Wx : WX} {α β α' β' : Type} {rel : Wd → Nat → β → α → Prop} {rel' : Wd → Nat → β' → α' → Prop} {W : Wd} {n : Nat} {σ : L2.St}
theorem Post.mono {W1 : Wd} {m : Nat} {r : Out α} {Q : β → Hp → Prop} (h : Post rel K cl base Wx W n σ r Q) (l : Le n W W1) (le : n ≤ m) : Post rel K cl base Wx W1 m σ r Q := by
  cases r with
  | ok d st => exact fun W' H' u a b c q => h W' H' u (l.trans a le) (Nat.le_trans le b) c q
  | exc k st => exact fun W' H' a b c => h W' H' (l.trans a le) (Nat.le_trans le b) c
  | bad => exact h
/-- one behind another: what the second one needs of the first -/
theorem Post.bind {r : Out α} {F : α → Sto → Out α'} {Q : β' → Hp → Prop} {R : β → Hp → Prop} (h : Post rel' K cl base Wx W n σ (r.bind F) Q)
    (step : ∀ W1 H1 st1 d v, r = .ok d st1 → Le n W W1 → n ≤ st1.length → SR K cl base W1 st1 H1 → rel W1 st1.length v d → Post rel' K cl base Wx W1 st1.length σ (F d st1) Q → R v H1) : Post rel K cl base Wx W n σ r R := by
  cases r with
  | ok d st1 => exact fun W1 H1 v l1 le1 sr1 rp => step W1 H1 st1 d v rfl l1 le1 sr1 rp (Post.mono (r := F d st1) h l1 le1)
  | exc k st => exact h
  | bad => exact h
theorem Post.of {st : Sto} {o : Option D} {Q : VK} (h : Post (relD K cl) K cl base Wx W st.length σ (Out.of st o) Q) : ∃ d, o = some d ∧ Nx K cl base W st.length st d Q := by
  cases o with
  | none => exact h.elim
  | some d => exact ⟨d, rfl, fun W' H' v a b c => h W' H' v a (Nat.le_refl _) b c⟩
theorem tP.imp {f : Env → Sto → Out α} {H : Hp} {Q : β → Hp → Prop} {G : Env → Sto → Out α'} {R : β' → Hp → Prop} (h : tP rel K cl base Wx f σ H Q)
    (k : ∀ W env st, SR K cl base W st H → EnvR K cl W st.length env σ → Post rel K cl base Wx W st.length σ (f env st) Q → Post rel' K cl base Wx W st.length σ (G env st) R) : tP rel' K cl base Wx G σ H R := by
  obtain ⟨W, env, st, sr, er, p⟩ := h
  exact ⟨W, env, st, sr, er, k W env st sr er p⟩
end
section
variable {X : Cx} {cl : Nat → Addr} {base : Lv} {Wx : WX} {f g k : Env → Sto → Out D} {a b c : Expr} {pos : Pos}
/-- two operands, an operation by values -/
theorem two {op : D → D → Option D} {r : R2} (hr : ∀ x y H Q, r2 X.K cl op x y H Q → r x y H Q) {σ : L2.St} {H : Hp} {Q : VK}
    (h : tD X.K cl base Wx (fun env st => (f env st).bind fun x st => (g env st).bind fun y st => .of st (op (view st x) (view st y))) σ H Q) : tOp r (tD X.K cl base Wx f) (tD X.K cl base Wx g) σ H Q := by
  refine tP.imp h fun W env st sr er p => p.bind fun W1 H1 st1 d1 v1 e1 l1 le1 sr1 rp1 p1 => ?_
  refine ⟨W1, env, st1, sr1, er.up l1 le1, p1.bind fun W2 H2 st2 d2 v2 e2 l2 le2 sr2 rp2 p2 => ?_⟩
  obtain ⟨d, e, nx⟩ := p2.of
  exact hr _ _ _ _ ⟨base, W2, st2, _, _, d, sr2, view_rv sr2 (rp1.up' l2 le2), view_rv sr2 rp2, e, nx⟩
theorem pe_bin (o : Bop) (ha : PE X a (tD X.K cl base Wx f)) (hb : PE X b (tD X.K cl base Wx g)) :
    PE X (.BinOp a o.op b pos) (tD X.K cl base Wx fun env st => (f env st).bind fun x st => (g env st).bind fun y st => .of st (binop o (view st x) (view st y))) :=
  Itp.PE.imp (pe_op (op_bin (cl := cl) o) ha hb) fun _ _ _ h => two (fun _ _ _ _ q => q) h
theorem pe_cmp (o : Cmp) (hu : X.A.units + 65 < cLine) (hm : behindInMarks o.op b = false) (ha : PE X a (tD X.K cl base Wx f)) (hb : PE X b (tD X.K cl base Wx g)) :
    PE X (.Compare a [o.op] [b] pos) (tD X.K cl base Wx fun env st => (f env st).bind fun x st => (g env st).bind fun y st => .of st ((cmpop o (view st x) (view st y)).map .bl)) :=
  Itp.PE.imp (pe_cmpR (op_cmpp (cl := cl) o hu) ha hb hm) fun _ _ _ h => two (op := fun x y => (cmpop o x y).map D.bl) (fun _ _ _ _ q => q) h
end
end Itp
namespace Itp
open L2 PySem.Spec PyProof.Rows PySem
section
variable {X : Cx} {cl : Nat → Addr} {base : Lv} {Wx : WX} {f g k : Env → Sto → Out D} {a b c : Expr} {pos : Pos}
theorem tD_const {u : V} {d : D} (hr : ∀ F r n, Rp X.K cl F r n u d) {σ : L2.St} {H : Hp} {Q : VK} (h : tD X.K cl base Wx (fun _ st => .ok d st) σ H Q) : tC u σ H Q := by
  obtain ⟨W, env, st, sr, er, p⟩ := h
  exact p W H u (Le.refl _ _) (Nat.le_refl _) sr (hr _ _ _)
theorem tD_var {i : Nat} {σ : L2.St} {H : Hp} {Q : VK} (h : tD X.K cl base Wx (fun env st => match env[i]? with | some (some d) => .ok d st | _ => .bad) σ H Q) : tVar i σ H Q := by
  obtain ⟨W, env, st, sr, er, p⟩ := h
  simp only at p
  split at p
  · rename_i d e
    obtain ⟨v, h1, h2⟩ := er.2 i d e
    exact ⟨v, h1, p W H v (Le.refl _ _) (Nat.le_refl _) sr h2⟩
  · exact p.elim
theorem pe_neg (ha : PE X a (tD X.K cl base Wx f)) : PE X (.UnaryOp .USub a pos) (tD X.K cl base Wx fun env st => (f env st).bind fun x st => match x with | .int i => .ok (.int (-i)) st | _ => .bad) := by
  refine Itp.PE.imp (pe_un un_neg ha) fun σ H Q h => ?_
  refine tP.imp h fun W env st sr er p => p.bind fun W1 H1 st1 d1 v1 e1 l1 le1 sr1 rp1 p1 => ?_
  cases d1 <;> try exact (show False from p1).elim
  cases rp1
  exact ⟨_, rfl, p1 W1 H1 _ (Le.refl _ _) (Nat.le_refl _) sr1 (.int _)⟩
theorem pe_nott (ha : PE X a (tD X.K cl base Wx f)) : PE X (.UnaryOp .Not a pos) (tD X.K cl base Wx fun env st => (f env st).bind fun x st => .of st ((tru (view st x)).map fun b => .bl (!b))) := by
  refine Itp.PE.imp (pe_notT ha) fun σ H Q h => ?_
  refine tP.imp h fun W env st sr er p => p.bind fun W1 H1 st1 d1 v1 e1 l1 le1 sr1 rp1 p1 => ?_
  obtain ⟨d, e, nx⟩ := p1.of
  simp only [Option.map_eq_some_iff] at e
  obtain ⟨b, e, rfl⟩ := e
  exact ⟨b, (view_rv sr1 rp1).tru sr1 e, nx.same sr1 (.bl _)⟩
theorem chn_imp {o o' : Cmp} {σ : L2.St} {H : Hp} {Q : VK} (h : tD X.K cl base Wx (fun env st => (f env st).bind fun x st => (g env st).bind fun y st => match cmpop o (view st x) (view st y) with
    | some true => (k env st).bind fun z st => .of st ((cmpop o' (view st y) (view st z)).map .bl)
    | some false => .ok (.bl false) st
    | none => .bad) σ H Q) : tChain (r2 X.K cl fun x y => (cmpop o x y).map D.bl) (r2 X.K cl fun x y => (cmpop o' x y).map D.bl) (tD X.K cl base Wx f) (tD X.K cl base Wx g) (tD X.K cl base Wx k) σ H Q := by
  refine tP.imp h fun W env st sr er p => p.bind fun W1 H1 st1 d1 v1 e1 l1 le1 sr1 rp1 p1 => ?_
  refine ⟨W1, env, st1, sr1, er.up l1 le1, p1.bind fun W2 H2 st2 d2 v2 e2 l2 le2 sr2 rp2 p2 => ?_⟩
  cases e : cmpop o (view st2 d1) (view st2 d2) with
  | none =>
    rw [e] at p2
    exact (show False from p2).elim
  | some q =>
    rw [e] at p2
    refine ⟨base, W2, st2, _, _, .bl q, sr2, view_rv sr2 (rp1.up' l2 le2), view_rv sr2 rp2, (congrArg (Option.map D.bl) e : _), fun W3 H3 v3 l3 sr3 rp3 => ?_⟩
    cases rp3
    refine ⟨q, rfl, ?_⟩
    cases q with
    | true =>
      rw [if_pos rfl]
      refine ⟨W3, env, st2, sr3, ((er.up l1 le1).up l2 le2).up l3 (Nat.le_refl _), (Post.mono p2 l3 (Nat.le_refl _)).bind fun W4 H4 st4 d4 v4 e4 l4 le4 sr4 rp4 p4 => ?_⟩
      obtain ⟨d, e', nx⟩ := p4.of
      exact ⟨base, W4, st4, _, _, d, sr4, view_rv sr4 ((rp2.up' l3 (Nat.le_refl _)).up' l4 le4), view_rv sr4 rp4, e', nx⟩
    | false =>
      rw [if_neg Bool.false_ne_true]
      exact p2 W3 H3 _ l3 (Nat.le_refl _) sr3 (.bl false)
theorem marks2 {o o' : CmpOp} {b c : Expr} (h : behindInMarks o' c = false) : lastMarks [o, o'] [b, c] = false := by
  show lastMarks [o'] [c] = false
  exact h
theorem pe_chn (o o' : Cmp) (hu : X.A.units + 65 < cLine) (hm : behindInMarks o'.op c = false) (ha : PE X a (tD X.K cl base Wx f)) (hb : PE X b (tD X.K cl base Wx g)) (hc : PE X c (tD X.K cl base Wx k)) :
    PE X (.Compare a [o.op, o'.op] [b, c] pos) (tD X.K cl base Wx fun env st => (f env st).bind fun x st => (g env st).bind fun y st => match cmpop o (view st x) (view st y) with
    | some true => (k env st).bind fun z st => .of st ((cmpop o' (view st y) (view st z)).map .bl)
    | some false => .ok (.bl false) st
    | none => .bad) :=
  Itp.PE.imp (pe_chain (op_cmpp (cl := cl) o hu) (op_cmpp (cl := cl) o' hu) ha hb hc (marks2 hm)) fun _ _ _ h => chn_imp h
/-! ### tests -/
theorem tst_tru {σ : L2.St} {H : Hp} {Q : Bool → Hp → Prop} (h : tB X.K cl base Wx (tst f) σ H Q) : tD X.K cl base Wx f σ H fun x H' => ∃ k, TruV X.K x H' k ∧ Q k H' := by
  refine tP.imp h fun W env st sr er p => ?_
  have p : Post relB X.K cl base Wx W st.length σ ((f env st).bind fun x st => .of st (tru (view st x))) Q := p
  refine p.bind fun W1 H1 st1 d1 v1 e1 l1 le1 sr1 rp1 p1 => ?_
  cases e : tru (view st1 d1) with
  | none =>
    rw [e] at p1
    exact (show False from p1).elim
  | some q =>
    rw [e] at p1
    exact ⟨q, (view_rv sr1 rp1).tru sr1 e, p1 W1 H1 q (Le.refl _ _) (Nat.le_refl _) sr1 rfl⟩
theorem pt_plain (ha : PE X a (tD X.K cl base Wx f)) (he : ∀ whole, isTrue a X.env whole = (do let v ← whole; standAt a.pos; holding [v] (truthy v))) : PT X a (tB X.K cl base Wx (tst f)) :=
  Itp.PT.imp (pt_truth ha he) fun _ _ _ h => tst_tru h
theorem tst_bl {σ : L2.St} {H : Hp} {Q : Bool → Hp → Prop} (h : tB X.K cl base Wx (tst f) σ H Q) (hb : ∀ env st d st', f env st = .ok d st' → ∃ b, d = .bl b) : tD X.K cl base Wx f σ H fun x H' => ∃ k, x = .bl k ∧ Q k H' := by
  refine tP.imp h fun W env st sr er p => ?_
  have p : Post relB X.K cl base Wx W st.length σ ((f env st).bind fun x st => .of st (tru (view st x))) Q := p
  refine p.bind fun W1 H1 st1 d1 v1 e1 l1 le1 sr1 rp1 p1 => ?_
  obtain ⟨b, rfl⟩ := hb _ _ _ _ e1
  cases rp1
  exact ⟨b, rfl, p1 W1 H1 b (Le.refl _ _) (Nat.le_refl _) sr1 rfl⟩
theorem of_bl {st st' : Sto} {o : Option Bool} {d : D} (h : Out.of st (o.map D.bl) = .ok d st') : ∃ b, d = .bl b := by
  cases o with
  | none => cases h
  | some b =>
    cases h
    exact ⟨b, rfl⟩
theorem bind_ok {α β : Type} {r : Out α} {F : α → Sto → Out β} {b : β} {st' : Sto} (h : r.bind F = .ok b st') : ∃ a st, r = .ok a st ∧ F a st = .ok b st' := by
  cases r with
  | ok a st => exact ⟨a, st, rfl, h⟩
  | exc n st => cases h
  | bad => cases h
theorem pt_cmp2 (o : Cmp) (hu : X.A.units + 65 < cLine) (hm : behindInMarks o.op b = false) (ha : PE X a (tD X.K cl base Wx f)) (hb : PE X b (tD X.K cl base Wx g)) :
    PT X (.Compare a [o.op] [b] pos) (tB X.K cl base Wx (tst fun env st => (f env st).bind fun x st => (g env st).bind fun y st => .of st ((cmpop o (view st x) (view st y)).map .bl))) := by
  refine Itp.PT.imp (pt_cmpR (op_cmpp (cl := cl) o hu) ha hb hm) fun σ H Q h => ?_
  refine two (op := fun x y => (cmpop o x y).map D.bl) (Q := fun x H' => ∃ k, x = .bl k ∧ Q k H') (fun _ _ _ _ q => q) (tst_bl h fun env st d st' e => ?_)
  obtain ⟨x, s1, _, e⟩ := bind_ok e
  obtain ⟨y, s2, _, e⟩ := bind_ok e
  exact of_bl e
theorem pt_chn (o o' : Cmp) (hu : X.A.units + 65 < cLine) (hm : behindInMarks o'.op c = false) (ha : PE X a (tD X.K cl base Wx f)) (hb : PE X b (tD X.K cl base Wx g)) (hc : PE X c (tD X.K cl base Wx k)) :
    PT X (.Compare a [o.op, o'.op] [b, c] pos) (tB X.K cl base Wx (tst fun env st => (f env st).bind fun x st => (g env st).bind fun y st => match cmpop o (view st x) (view st y) with
    | some true => (k env st).bind fun z st => .of st ((cmpop o' (view st y) (view st z)).map .bl)
    | some false => .ok (.bl false) st
    | none => .bad)) := by
  refine Itp.PT.imp (pt_chain (op_cmpp (cl := cl) o hu) (op_cmpp (cl := cl) o' hu) ha hb hc (marks2 hm)) fun σ H Q h => ?_
  refine chn_imp (tst_bl h fun env st d st' e => ?_)
  obtain ⟨x, s1, _, e⟩ := bind_ok e
  obtain ⟨y, s2, _, e⟩ := bind_ok e
  split at e
  · obtain ⟨z, s3, _, e⟩ := bind_ok e
    exact of_bl e
  · cases e
    exact ⟨_, rfl⟩
  · cases e
theorem pt_nott {t : Env → Sto → Out Bool} (ha : PT X a (tB X.K cl base Wx (tst f))) : PT X (.UnaryOp .Not a pos) (tB X.K cl base Wx (tst fun env st => (f env st).bind fun x st => .of st ((tru (view st x)).map fun b => .bl (!b)))) := by
  refine Itp.PT.imp (pt_not ha) fun σ H Q h => ?_
  refine tP.imp h fun W env st sr er p => ?_
  have p : Post relB X.K cl base Wx W st.length σ (((f env st).bind fun x st => .of st ((tru (view st x)).map fun b => .bl (!b))).bind fun x st => .of st (tru (view st x))) Q := p
  show Post relB X.K cl base Wx W st.length σ ((f env st).bind fun x st => .of st (tru (view st x))) fun c H1 => Q (!c) H1
  cases e : f env st with
  | bad =>
    rw [e] at p
    exact p
  | exc n s1 =>
    rw [e] at p
    exact p
  | ok d s1 =>
    rw [e] at p
    simp only [Out.bind] at p ⊢
    cases e2 : tru (view s1 d) with
    | none =>
      rw [e2] at p
      exact p
    | some q =>
      rw [e2] at p
      exact fun W' H' v a b c r => p W' H' _ a b c (congrArg Bool.not r)
end
end Itp
namespace Itp
open L2 PySem.Spec PyProof.Rows PySem
/-- and, or, by what the parts tell -/
def evbF (k : Bool) : List (Env → Sto → Out D) → Env → Sto → Out D
  | [], _, _ => .bad
  | [e], env, st => e env st
  | e :: e' :: es, env, st => (e env st).bind fun x st => match tru (view st x) with
    | some b => if b = k then evbF k (e' :: es) env st else .ok x st
    | none => .bad
section
variable {X : Cx} {cl : Nat → Addr} {base : Lv} {Wx : WX} {f g k : Env → Sto → Out D} {a b c : Expr} {pos : Pos}
theorem bop_imp {kk : Bool} {g : Env → Sto → Out D} {σ : L2.St} {H : Hp} {Q : VK} (h : tD X.K cl base Wx (fun env st => (f env st).bind fun x st => match tru (view st x) with
    | some b => if b = kk then g env st else .ok x st
    | none => .bad) σ H Q) : tD X.K cl base Wx f σ H fun x H1 => ∃ q, TruV X.K x H1 q ∧ if q = kk then tD X.K cl base Wx g σ H1 Q else Q x H1 := by
  refine tP.imp h fun W env st sr er p => p.bind fun W1 H1 st1 d1 v1 e1 l1 le1 sr1 rp1 p1 => ?_
  cases e : tru (view st1 d1) with
  | none =>
    rw [e] at p1
    exact (show False from p1).elim
  | some q =>
    rw [e] at p1
    refine ⟨q, (view_rv sr1 rp1).tru sr1 e, ?_⟩
    by_cases hq : q = kk
    · rw [if_pos hq]
      have p1 : Post (relD X.K cl) X.K cl base Wx W1 st1.length σ (if q = kk then g env st1 else .ok d1 st1) Q := p1
      rw [if_pos hq] at p1
      exact ⟨W1, env, st1, sr1, er.up l1 le1, p1⟩
    · rw [if_neg hq]
      have p1 : Post (relD X.K cl) X.K cl base Wx W1 st1.length σ (if q = kk then g env st1 else .ok d1 st1) Q := p1
      rw [if_neg hq] at p1
      exact p1 W1 H1 v1 (Le.refl _ _) (Nat.le_refl _) sr1 rp1
def bopOp (k : Bool) : BoolOp := if k then .And else .Or
/-- parts and what they tell, in a row -/
inductive PEs (X : Cx) (cl : Nat → Addr) (base : Lv) (Wx : WX) : List Expr → List (Env → Sto → Out D) → Prop where
  | nil : PEs X cl base Wx [] []
  | cons {e : Expr} {es : List Expr} {f : Env → Sto → Out D} {fs : List (Env → Sto → Out D)} (h : PE X e (tD X.K cl base Wx f)) (hs : PEs X cl base Wx es fs) : PEs X cl base Wx (e :: es) (f :: fs)
theorem pe_bop (kk : Bool) : ∀ {es : List Expr} {fs : List (Env → Sto → Out D)}, PEs X cl base Wx es fs → es ≠ [] → PE X (.BoolOp (bopOp kk) es pos) (tD X.K cl base Wx (evbF kk fs))
  | _, _, .nil, h => absurd rfl h
  | [e], [f], .cons h .nil, _ => pe_one h
  | e :: e' :: es, f :: f' :: fs, .cons h hs, _ => by
    have r := pe_bop kk hs (by simp)
    cases kk with
    | true => exact Itp.PE.imp (pe_andT h r) fun σ H Q q => bop_imp (kk := true) (g := evbF true (f' :: fs)) q
    | false =>
      refine Itp.PE.imp (pe_orT h r) fun σ H Q q => ?_
      refine tP.imp (bop_imp (kk := false) (g := evbF false (f' :: fs)) q) fun W env st sr er p => ?_
      cases e : f env st with
      | bad =>
        rw [e] at p
        exact p
      | exc n s1 =>
        rw [e] at p
        exact p
      | ok d s1 =>
        rw [e] at p
        intro W' H' v x y z r
        obtain ⟨q1, t1, h1⟩ := p W' H' v x y z r
        refine ⟨q1, t1, ?_⟩
        cases q1 with
        | true =>
          rw [if_neg (by simp)] at h1
          rw [if_pos rfl]
          exact h1
        | false =>
          rw [if_pos rfl] at h1
          rw [if_neg (by simp)]
          exact h1
theorem tst_bop {kk : Bool} {g : Env → Sto → Out D} {σ : L2.St} {H : Hp} {Q : Bool → Hp → Prop} (h : tB X.K cl base Wx (tst fun env st => (f env st).bind fun x st => match tru (view st x) with
    | some b => if b = kk then g env st else .ok x st
    | none => .bad) σ H Q) : tB X.K cl base Wx (tst f) σ H fun q H1 => if q = kk then tB X.K cl base Wx (tst g) σ H1 Q else Q q H1 := by
  refine tP.imp h fun W env st sr er p => ?_
  have p : Post relB X.K cl base Wx W st.length σ (((f env st).bind fun x st => match tru (view st x) with
    | some b => if b = kk then g env st else .ok x st
    | none => .bad).bind fun x st => .of st (tru (view st x))) Q := p
  show Post relB X.K cl base Wx W st.length σ ((f env st).bind fun x st => .of st (tru (view st x))) _
  cases e : f env st with
  | bad =>
    rw [e] at p
    exact p
  | exc n s1 =>
    rw [e] at p
    exact p
  | ok d s1 =>
    rw [e] at p
    simp only [Out.bind] at p ⊢
    cases e2 : tru (view s1 d) with
    | none =>
      rw [e2] at p
      exact p
    | some q =>
      rw [e2] at p
      intro W' H' v a b c r
      cases r
      by_cases hq : q = kk
      · rw [if_pos hq]
        have p : Post relB X.K cl base Wx W st.length σ ((if q = kk then g env s1 else .ok d s1).bind fun x st => .of st (tru (view st x))) Q := p
        rw [if_pos hq] at p
        exact ⟨W', env, s1, c, er.up a b, p.mono a b⟩
      · rw [if_neg hq]
        have p : Post relB X.K cl base Wx W st.length σ ((if q = kk then g env s1 else .ok d s1).bind fun x st => .of st (tru (view st x))) Q := p
        rw [if_neg hq] at p
        simp only [Out.bind] at p
        rw [e2] at p
        exact p W' H' q a b c rfl
inductive PTss (X : Cx) (cl : Nat → Addr) (base : Lv) (Wx : WX) : List Expr → List (Env → Sto → Out D) → Prop where
  | nil : PTss X cl base Wx [] []
  | cons {e : Expr} {es : List Expr} {f : Env → Sto → Out D} {fs : List (Env → Sto → Out D)} (h : PT X e (tB X.K cl base Wx (tst f))) (hs : PTss X cl base Wx es fs) : PTss X cl base Wx (e :: es) (f :: fs)
theorem PW.imp {X : Cx} {e : Expr} {t u : TT} (h : PW X e t) (k : ∀ σ H Q, u σ H Q → t σ H Q) : PW X e u := ⟨fun wh pins s σ H Q I q => h.run wh pins s σ H Q I (k σ H Q q)⟩
theorem pw_bop (kk : Bool) : ∀ {es : List Expr} {fs : List (Env → Sto → Out D)}, PTss X cl base Wx es fs → es ≠ [] → PW X (.BoolOp (bopOp kk) es pos) (tB X.K cl base Wx (tst (evbF kk fs)))
  | _, _, .nil, h => absurd rfl h
  | [e], [f], .cons h .nil, _ => by
    cases kk with
    | true => exact pw_and1 h
    | false => exact pw_or1 h
  | e :: e' :: es, f :: f' :: fs, .cons h hs, _ => by
    have r := pw_bop kk hs (by simp)
    cases kk with
    | true =>
      refine Itp.PW.imp (pw_and h r) fun σ H Q q => ?_
      refine tP.imp (tst_bop (kk := true) (g := evbF true (f' :: fs)) q) fun W env st sr er p => ?_
      cases e : tst f env st with
      | bad =>
        rw [e] at p
        exact p
      | exc n s1 =>
        rw [e] at p
        exact p
      | ok d s1 =>
        rw [e] at p
        intro W' H' v x y z r
        have h1 := p W' H' v x y z r
        cases v <;> simpa using h1
    | false =>
      refine Itp.PW.imp (pw_or h r) fun σ H Q q => ?_
      refine tP.imp (tst_bop (kk := false) (g := evbF false (f' :: fs)) q) fun W env st sr er p => ?_
      cases e : tst f env st with
      | bad =>
        rw [e] at p
        exact p
      | exc n s1 =>
        rw [e] at p
        exact p
      | ok d s1 =>
        rw [e] at p
        intro W' H' v x y z r
        have h1 := p W' H' v x y z r
        cases v <;> simpa using h1
theorem pe_ite (hc : PT X c (tB X.K cl base Wx (tst k))) (ha : PE X a (tD X.K cl base Wx f)) (hb : PE X b (tD X.K cl base Wx g)) : PE X (.IfExp c a b pos) (tD X.K cl base Wx fun env st => (k env st).bind fun x st => match tru (view st x) with
    | some true => f env st
    | some false => g env st
    | none => .bad) := by
  refine Itp.PE.imp (pe_ifExp hc ha hb) fun σ H Q h => ?_
  refine tP.imp h fun W env st sr er p => ?_
  show Post relB X.K cl base Wx W st.length σ ((k env st).bind fun x st => .of st (tru (view st x))) _
  cases e : k env st with
  | bad =>
    rw [e] at p
    exact p
  | exc n s1 =>
    rw [e] at p
    exact p
  | ok d s1 =>
    rw [e] at p
    simp only [Out.bind] at p ⊢
    cases e2 : tru (view s1 d) with
    | none =>
      rw [e2] at p
      exact p
    | some q =>
      rw [e2] at p
      intro W' H' v x y z r
      cases r
      cases q with
      | true =>
        rw [if_pos rfl]
        exact ⟨W', env, s1, z, er.up x y, Post.mono p x y⟩
      | false =>
        rw [if_neg (by simp)]
        exact ⟨W', env, s1, z, er.up x y, Post.mono p x y⟩
/-! ### lists of expressions -/
def evsF : List (Env → Sto → Out D) → Env → Sto → Out (List D)
  | [], _, st => .ok [] st
  | e :: es, env, st => (e env st).bind fun d st => (evsF es env st).bind fun ds st => .ok (d :: ds) st
def noStar : List Expr → Bool
  | [] => true
  | .Starred _ _ :: _ => false
  | _ :: es => noStar es
theorem star_cons {e : Expr} {es : List Expr} {env : PySem.Env} (h : noStar (e :: es) = true) : starEach (e :: es) env = (false, eval e env) :: starEach es env := by
  cases e <;> first | rfl | (simp [noStar] at h)
theorem noStar_tail {e : Expr} {es : List Expr} (h : noStar (e :: es) = true) : noStar es = true := by
  cases e <;> first | exact h | (simp [noStar] at h)
theorem pa_es : ∀ {es : List Expr} {fs : List (Env → Sto → Out D)}, PEs X cl base Wx es fs → noStar es = true → PA X es (tL X.K cl base Wx (evsF fs))
  | _, _, .nil, _ => Itp.PA.imp pa_nil fun σ H Q h => by
    obtain ⟨W, env, st, sr, er, p⟩ := h
    exact p W H [] (Le.refl _ _) (Nat.le_refl _) sr .nil
  | _, _, .cons h hs, ns => by
    refine Itp.PA.imp (pa_cons h (pa_es hs (noStar_tail ns)) (star_cons ns)) fun σ H Q q => ?_
    refine tP.imp q fun W env st sr er p => p.bind fun W1 H1 st1 d1 v1 e1 l1 le1 sr1 rp1 p1 => ?_
    refine ⟨W1, env, st1, sr1, er.up l1 le1, p1.bind fun W2 H2 st2 ds2 vs2 e2 l2 le2 sr2 rp2 p2 => ?_⟩
    exact p2 W2 H2 _ (Le.refl _ _) (Nat.le_refl _) sr2 (.cons (rp1.up' l2 le2) rp2)
theorem pe_tupp {x1 : Nat} {es : List Expr} {fs : List (Env → Sto → Out D)} (h : PEs X cl base Wx es fs) (ns : noStar es = true) : PE X (.Tuple es x1 pos) (tD X.K cl base Wx fun env st => (evsF fs env st).bind fun ds st => if lim ds.length then .ok (.tup ds) st else .bad) := by
  refine Itp.PE.imp (pe_tup (pa_es h ns)) fun σ H Q q => ?_
  refine tP.imp q fun W env st sr er p => p.bind fun W1 H1 st1 ds vs e1 l1 le1 sr1 rp1 p1 => ?_
  by_cases hl : lim ds.length = true
  · rw [if_pos hl] at p1
    exact ⟨by rw [rp1.length]; exact limE hl, Nx.tup (ds := ds) (fun W' H' v a b c => p1 W' H' v a (Nat.le_refl _) b c) sr1 rp1⟩
  · rw [if_neg hl] at p1
    exact (show False from p1).elim
theorem Nx.cell {W : Wd} {st : Sto} {H : Hp} {ds : List D} {vs : List V} {Q : VK} (sr : SR X.K cl base W st H) (r : RpL X.K cl W.F W.r st.length vs ds)
    (h : Post (relD X.K cl) X.K cl base Wx W st.length σ (.ok (.obj st.length) (st ++ [.lst ds])) Q) : ∀ p, H p = none → Q (.ref p) (upd H p (.lst vs)) := fun p hp => by
  obtain ⟨s', l⟩ := sr.fresh (u := .lst vs) (o := .lst ds) hp fun H' e => ⟨vs, e, r⟩
  have := h _ _ (.ref ((W.put st.length p).r st.length)) l (by simp) s' (.obj _ (by simp))
  rw [Wd.put_self] at this
  exact this
theorem pe_lstt {m : Bool} {es : List Expr} {fs : List (Env → Sto → Out D)} (h : PEs X cl base Wx es fs) (ns : noStar es = true) : PE X (.List es pos) (tD X.K cl base Wx fun env st => (evsF fs env st).bind fun ds st => if lim ds.length then (if m then .ok (.obj st.length) (st ++ [.lst ds]) else .ok (.lst ds) st) else .bad) := by
  refine Itp.PE.imp (pe_lst (pa_es h ns)) fun σ H Q q => ?_
  refine tP.imp q fun W env st sr er p => p.bind fun W1 H1 st1 ds vs e1 l1 le1 sr1 rp1 p1 => ?_
  by_cases hl : lim ds.length = true
  · rw [if_pos hl] at p1
    refine ⟨by rw [rp1.length]; exact limE hl, ?_⟩
    cases m with
    | true => exact Nx.cell sr1 rp1 p1
    | false => exact Nx.lst (ds := ds) (fun W' H' v a b c => p1 W' H' v a (Nat.le_refl _) b c) sr1 rp1
  · rw [if_neg hl] at p1
    exact (show False from p1).elim
end
end Itp
namespace Itp
open L2 PySem.Spec PyProof.Rows PySem
section
variable {X : Cx} {cl : Nat → Addr} {base : Lv} {Wx : WX} {f g k : Env → Sto → Out D} {a b c : Expr} {pos : Pos}
theorem pe_ixx (hu : X.A.units + 1 < cLine) (ha : PE X a (tD X.K cl base Wx f)) (hb : PE X b (tD X.K cl base Wx g)) (hp : PlainIx b) :
    PE X (.Subscript a b pos) (tD X.K cl base Wx fun env st => (f env st).bind fun x st => (g env st).bind fun y st => .of st (idx (view st x) y)) := by
  refine Itp.PE.imp (pe_ix (ix_any (cl := cl) hu) ha hb hp) fun σ H Q h => ?_
  refine tP.imp h fun W env st sr er p => p.bind fun W1 H1 st1 d1 v1 e1 l1 le1 sr1 rp1 p1 => ?_
  refine ⟨W1, env, st1, sr1, er.up l1 le1, p1.bind fun W2 H2 st2 d2 v2 e2 l2 le2 sr2 rp2 p2 => ?_⟩
  obtain ⟨d, e, nx⟩ := p2.of
  exact ⟨base, W2, st2, _, _, d, sr2, view_rv sr2 (rp1.up' l2 le2), .of rp2, e, nx⟩
theorem po_no : PO X none (tO X.K cl base Wx fun _ st => .ok none st) := by
  refine ⟨fun pins s σ H Q I h => (po_none (X := X)).run pins s σ H Q I ?_⟩
  obtain ⟨W, env, st, sr, er, p⟩ := h
  exact p W H none (Le.refl _ _) (Nat.le_refl _) sr rfl
theorem po_so (ha : PE X a (tD X.K cl base Wx f)) : PO X (some a) (tO X.K cl base Wx fun env st => (f env st).bind fun x st => match x with | .int i => .ok (some i) st | _ => .bad) := by
  refine ⟨fun pins s σ H Q I h => (po_some ha).run pins s σ H Q I ?_⟩
  refine tP.imp h fun W env st sr er p => p.bind fun W1 H1 st1 d1 v1 e1 l1 le1 sr1 rp1 p1 => ?_
  cases d1 <;> try exact (show False from p1).elim
  cases rp1
  exact ⟨_, rfl, p1 W1 H1 _ (Le.refl _ _) (Nat.le_refl _) sr1 rfl⟩
theorem pe_slcc {lo hi : Option Expr} {p2 : Pos} {fl fh : Env → Sto → Out (Option Int)} (ha : PE X a (tD X.K cl base Wx f)) (hl : PO X lo (tO X.K cl base Wx fl)) (hh : PO X hi (tO X.K cl base Wx fh)) :
    PE X (.Subscript a (.Slice lo hi none p2) pos) (tD X.K cl base Wx fun env st => (f env st).bind fun x st => (fl env st).bind fun l st => (fh env st).bind fun h st => .of st (cut (view st x) l h)) := by
  refine Itp.PE.imp (pe_slice (sl_d (cl := cl)) ha hl hh) fun σ H Q h => ?_
  refine tP.imp h fun W env st sr er p => p.bind fun W1 H1 st1 d1 v1 e1 l1 le1 sr1 rp1 p1 => ?_
  refine ⟨W1, env, st1, sr1, er.up l1 le1, p1.bind fun W2 H2 st2 d2 v2 e2 l2 le2 sr2 rp2 p2 => ?_⟩
  refine ⟨W2, env, st2, sr2, (er.up l1 le1).up l2 le2, p2.bind fun W3 H3 st3 d3 v3 e3 l3 le3 sr3 rp3 p3 => ?_⟩
  obtain ⟨d, e, nx⟩ := p3.of
  cases rp2
  cases rp3
  exact ⟨base, W3, st3, _, d, sr3, view_rv sr3 ((rp1.up' l2 le2).up' l3 le3), e, nx⟩
/-! ### calls of what Python has -/
theorem RpL.views {W : Wd} {st : Sto} {H : Hp} (sr : SR X.K cl base W st H) : ∀ {vs : List V} {ds : List D}, RpL X.K cl W.F W.r st.length vs ds → RvL X.K cl W st.length H vs (allv st ds)
  | _, _, .nil => .nil
  | _, _, .cons h hs => .cons (view_rv sr h) (RpL.views sr hs)
theorem tCB_imp {bo : List D → Option D} {fs : Env → Sto → Out (List D)} {r : List V → Hp → VK → Prop} (hr : ∀ xs H Q, rb X.K cl bo xs H Q → r xs H Q) {σ : L2.St} {H : Hp} {Q : VK}
    (h : tD X.K cl base Wx (fun env st => (fs env st).bind fun ds st => .of st (bo (allv st ds))) σ H Q) : tCB r (tL X.K cl base Wx fs) σ H Q := by
  refine tP.imp h fun W env st sr er p => p.bind fun W1 H1 st1 ds vs e1 l1 le1 sr1 rp1 p1 => ?_
  obtain ⟨d, e, nx⟩ := p1.of
  exact hr _ _ _ ⟨base, W1, st1, _, d, sr1, RpL.views sr1 rp1, e, nx⟩
/-- a row of arguments, none of them starred -/
theorem star_all {pos : Pos} {env : PySem.Env} : ∀ {es : List Expr}, noStar es = true → ((backTo pos (starEach es env)).any fun x => x.fst) = false := by
  have h : ∀ {es : List Expr}, noStar es = true → ∀ x ∈ starEach es env, x.1 = false := by
    intro es
    induction es with
    | nil => intro _ x hx; simp [starEach] at hx
    | cons e es ih =>
      intro ns x hx
      rw [star_cons ns] at hx
      rcases List.mem_cons.mp hx with rfl | hx
      · rfl
      · exact ih (noStar_tail ns) x hx
  intro es ns
  rw [List.any_eq_false]
  intro x hx
  unfold backTo at hx
  obtain ⟨y, hy, e⟩ := List.mem_map.mp hx
  rw [← e, h ns y hy]
  simp
theorem pe_callBD {x : Str} {p : Pos} {e : Expr} {es : List Expr} {fs : List (Env → Sto → Out D)} {id : String} {bo : List D → Option D} (hr : CallR X (.builtin id) (rb X.K cl bo)) (hg : Gl X x) (hm : X.mg x = none) (hb : bootBuiltins x = some (.builtin id))
    (h : PEs X cl base Wx (e :: es) fs) (ns : noStar (e :: es) = true) (n1 : x ≠ Str.ofString "__name__") (n2 : (x == Str.ofString "__debug__") = false) :
    PE X (.Call (.Name x p) (e :: es) [] pos) (tD X.K cl base Wx fun env st => (evsF fs env st).bind fun ds st => .of st (bo (allv st ds))) :=
  Itp.PE.imp (pe_callB hr hg hm hb (pa_es h ns) n1 n2 (star_cons ns) (star_all (noStar_tail ns))) fun _ _ _ h => tCB_imp (fun _ _ _ q => q) h
theorem pe_callTD {x : Str} {p : Pos} {e : Expr} {es : List Expr} {fs : List (Env → Sto → Out D)} {T : String} {bo : List D → Option D} (hr : CallR X (.type T) (rb X.K cl bo)) (hg : Gl X x) (hm : X.mg x = none) (hb : bootBuiltins x = some (.type T))
    (h : PEs X cl base Wx (e :: es) fs) (ns : noStar (e :: es) = true) (n1 : x ≠ Str.ofString "__name__") (n2 : (x == Str.ofString "__debug__") = false) :
    PE X (.Call (.Name x p) (e :: es) [] pos) (tD X.K cl base Wx fun env st => (evsF fs env st).bind fun ds st => .of st (bo (allv st ds))) :=
  Itp.PE.imp (pe_callTy hr hg hm hb (pa_es h ns) n1 n2 (star_cons ns) (star_all (noStar_tail ns))) fun _ _ _ h => tCB_imp (fun _ _ _ q => q) h
theorem pe_callMD {x : Str} {p : Pos} {e : Expr} {es : List Expr} {fs : List (Env → Sto → Out D)} {id : String} {bo : List D → Option D} (hr : CallR X (.builtin id) (rb X.K cl bo)) (hg : Gl X x) (hm : X.mg x = some (.builtin id))
    (h : PEs X cl base Wx (e :: es) fs) (ns : noStar (e :: es) = true) (n2 : (x == Str.ofString "__debug__") = false) :
    PE X (.Call (.Name x p) (e :: es) [] pos) (tD X.K cl base Wx fun env st => (evsF fs env st).bind fun ds st => .of st (bo (allv st ds))) :=
  Itp.PE.imp (pe_callBfun hr hg hm (pa_es h ns) n2 (star_cons ns) (star_all (noStar_tail ns))) fun _ _ _ h => tCB_imp (fun _ _ _ q => q) h
end
end Itp
namespace Itp
open L2 PySem.Spec PyProof.Rows PySem
/-! ### xs[lo:hi:k] -/
theorem RpL.fm {K : PySem.W.Frag} {cl : Nat → Addr} {F : Hp} {r : Nat → Addr} {n : Nat} {vs : List V} {ds : List D} (h : RpL K cl F r n vs ds) : ∀ l : List Nat, RpL K cl F r n (l.filterMap (vs[·]?)) (l.filterMap (ds[·]?))
  | [] => .nil
  | i :: l => by
    by_cases hi : i < ds.length
    · have e : ds[i]? = some ds[i] := List.getElem?_eq_getElem hi
      obtain ⟨v, h1, h2⟩ := h.get e
      rw [List.filterMap_cons_some (f := fun i => vs[i]?) h1, List.filterMap_cons_some (f := fun i => ds[i]?) e]
      exact .cons h2 (h.fm l)
    · have e : ds[i]? = none := List.getElem?_eq_none (by omega)
      have e2 : vs[i]? = none := List.getElem?_eq_none (by rw [h.length]; omega)
      rw [List.filterMap_cons_none (f := fun i => vs[i]?) e2, List.filterMap_cons_none (f := fun i => ds[i]?) e]
      exact h.fm l
theorem RpL.pick {K : PySem.W.Frag} {cl : Nat → Addr} {F : Hp} {r : Nat → Addr} {n : Nat} {vs : List V} {ds : List D} (h : RpL K cl F r n vs ds) (lo hi st : Option Int) : RpL K cl F r n (pickA vs lo hi st) (pickA ds lo hi st) := by
  unfold pickA
  rw [h.length]
  exact h.fm _
theorem vals_get {vs : List V} {us : List Value} (h : Vals vs us) : ∀ i : Nat, (vs[i]? = none ∧ us[i]? = none) ∨ ∃ v u, vs[i]? = some v ∧ us[i]? = some u ∧ RelV v u := by
  induction h with
  | nil => intro i; exact .inl ⟨rfl, rfl⟩
  | cons h hs ih =>
    intro i
    cases i with
    | zero => exact .inr ⟨_, _, rfl, rfl, h⟩
    | succ i => exact ih i
theorem vals_fm {vs : List V} {us : List Value} (h : Vals vs us) : ∀ l : List Nat, Vals (l.filterMap (vs[·]?)) (l.filterMap (us[·]?))
  | [] => .nil
  | i :: l => by
    rcases vals_get h i with ⟨e1, e2⟩ | ⟨v, u, e1, e2, r⟩
    · rw [List.filterMap_cons_none (f := fun i => vs[i]?) e1, List.filterMap_cons_none (f := fun i => us[i]?) e2]
      exact vals_fm h l
    · rw [List.filterMap_cons_some (f := fun i => vs[i]?) e1, List.filterMap_cons_some (f := fun i => us[i]?) e2]
      exact .cons r (vals_fm h l)
section
variable {X : Cx} {cl : Nat → Addr} {base : Lv} {Wx : WX} {f g k : Env → Sto → Out D} {a b c : Expr} {pos : Pos}
theorem slK (n : Nat) (hn : n ≠ 0) (pins : List (Addr × Obj)) (s : Shared) (σ : L2.St) (H : Hp) (x : V) (v vl vu vs : Value) (lo hi : Option Int) (sl : Addr) (Q : VK) (I : Inv X pins σ H s) (rx : RelV x v) (hs : s.heap.IsSliceOf sl vl vu vs) (pl : IsPart vl lo) (pu : IsPart vu hi) (ps : IsPart vs (some (n : Int)))
    (h : ∃ a xs, x = .ref a ∧ SqL X.K H a xs ∧ ∀ p, H p = none → Q (.ref p) (upd H p (.lst (pickA xs lo hi (some (n : Int)))))) :
    s.TypeIs v "list" ∧ wpAny (model X.prog X.w) X.A (getItem v (.ref sl)) (EP X pins σ Q) X.xe s := by
  obtain ⟨a, xs, rfl, hx, q⟩ := h
  cases rx
  obtain ⟨its, r, ht, hz⟩ := I.list hx
  have hlen := r.length
  refine ⟨ht.isList.typeIs, ?_⟩
  refine wpAny_getItem_list_slice ht.isList hs pl pu ps (by simpa using hn) ?_ (by rw [List.size_toArray] <;> omega)
  have e : slicePick its.toArray lo hi (some (n : Int)) = (pickA its lo hi (some (n : Int))).toArray := by
    unfold slicePick pickA
    simp only [List.size_toArray, List.getElem?_toArray]
  rw [e]
  have hp : Vals (pickA xs lo hi (some (n : Int))) (pickA its lo hi (some (n : Int))) := by
    unfold pickA
    rw [hlen]
    exact vals_fm r _
  have hsz : (pickA xs lo hi (some (n : Int))).length ≤ sizeLine := by
    have h1 := slicePick_size_le its.toArray lo hi (some (n : Int))
    rw [e, List.size_toArray, List.size_toArray, ← hp.length] at h1
    omega
  refine ⟨.ref s.heap.objs.size, _, I.laid (t' := s.toks) (o := .lst (pickA xs lo hi (some (n : Int)))) (fun b ob q => Heap.get?_push_of_some _ q) (Nat.le_refl _) ?_, rfl, q _ (I.hok.fresh (Nat.le_refl _))⟩
  exact ⟨hsz, _, 0, hp, Heap.get?_push_size _ rfl⟩
theorem pe_slcK {lo hi : Option Expr} {p1 p2 : Pos} {n kk : Nat} {fl fh : Env → Sto → Out (Option Int)} (hn : n ≠ 0) (ha : PE X a (tD X.K cl base Wx f)) (hl : PO X lo (tO X.K cl base Wx fl)) (hh : PO X hi (tO X.K cl base Wx fh)) :
    PE X (.Subscript a (.Slice lo hi (some (.Constant (.int (n : Int)) kk p1)) p2) pos) (tD X.K cl base Wx fun env st => (f env st).bind fun x st => (fl env st).bind fun l st => (fh env st).bind fun h st => .of st (cutK n (view st x) l h)) := by
  have main : PE X (.Subscript a (.Slice lo hi (some (.Constant (.int (n : Int)) kk p1)) p2) pos) (tSl (fun x lo hi H Q => ∃ a xs, x = .ref a ∧ SqL X.K H a xs ∧ ∀ p, H p = none → Q (.ref p) (upd H p (.lst (pickA xs lo hi (some (n : Int)))))) (tD X.K cl base Wx f) (tO X.K cl base Wx fl) (tO X.K cl base Wx fh)) := by
    refine ⟨fun pins s σ H Q I h => ?_⟩
    refine Subscript_ (thn (ha.run pins s σ H _ I h) fun v s1 ⟨x, H1, I1, r1, q1⟩ => ?_)
    have hst : PO X (some (.Constant (.int (n : Int)) kk p1)) (tPart (tC (.int (n : Int)))) := po_some pe_int
    refine wpAny_Slice (thn (hl.run pins s1 σ H1 _ I1 q1) fun vl s2 ⟨l, H2, I2, pl, q2⟩ => thn (hh.run pins s2 σ H2 _ I2 q2) fun vu s3 ⟨u, H3, I3, pu, q3⟩ => ?_)
    refine thn (hst.run pins s3 σ H3 (fun o H4 => o = some (n : Int) ∧ H4 = H3) I3 ⟨(n : Int), rfl, rfl, rfl⟩) fun vs s4 ⟨o, H4, I4, ps, eo, e4⟩ => ?_
    subst eo e4
    have I5 : Inv X pins σ H4 { s4 with heap := s4.heap.push { cls := .type "slice", data := .fields #[vl, vu, vs] } } := I4.kept (t' := s4.toks) fun b ob q => Heap.get?_push_of_some _ q
    obtain ⟨ht, hg⟩ := slK n hn pins _ σ H4 x v vl vu vs l u s4.heap.objs.size Q I5 r1 (Heap.IsSliceOf.new ..) pl pu ps q3
    show wpAny (model X.prog X.w) X.A (subscriptTail a (.Slice lo hi (some (.Constant (.int (n : Int)) kk p1)) p2) v (.ref s4.heap.objs.size)) (EP X pins σ Q) X.xe { s4 with heap := s4.heap.push { cls := .type "slice", data := .fields #[vl, vu, vs] } }
    exact tail_any (ops := [v, .ref s4.heap.objs.size]) ht PySem.slot_list_getitem.lookup hg (by with_unfolding_all rfl)
  refine Itp.PE.imp main fun σ H Q h => ?_
  refine tP.imp h fun W env st sr er p => p.bind fun W1 H1 st1 d1 v1 e1 l1 le1 sr1 rp1 p1 => ?_
  refine ⟨W1, env, st1, sr1, er.up l1 le1, p1.bind fun W2 H2 st2 d2 v2 e2 l2 le2 sr2 rp2 p2 => ?_⟩
  refine ⟨W2, env, st2, sr2, (er.up l1 le1).up l2 le2, p2.bind fun W3 H3 st3 d3 v3 e3 l3 le3 sr3 rp3 p3 => ?_⟩
  obtain ⟨d, e, nx⟩ := p3.of
  cases rp2
  cases rp3
  have rv := view_rv sr3 ((rp1.up' l2 le2).up' l3 le3)
  unfold cutK at e
  split at e
  · rename_i ds q
    rw [q] at rv
    cases e
    obtain ⟨a, vs, rfl, h1, h2⟩ := rv.lists sr3
    exact ⟨a, vs, rfl, h1, nx.lst sr3 (h2.pick _ _ _)⟩
  · cases e
/-- xs + ys into a cell of its own -/
def addMF (f g : Env → Sto → Out D) : Env → Sto → Out D := fun env st => (f env st).bind fun x st => (g env st).bind fun y st => match view st x, view st y with
    | .lst as, .lst bs => if lim (as.length + bs.length) then .ok (.obj st.length) (st ++ [.lst (as ++ bs)]) else .bad
    | _, _ => .bad
theorem pe_addM (ha : PE X a (tD X.K cl base Wx f)) (hb : PE X b (tD X.K cl base Wx g)) : PE X (.BinOp a .Add b pos) (tD X.K cl base Wx (addMF f g)) := by
  refine Itp.PE.imp (pe_op (op_catL (X := X)) ha hb) fun σ H Q h => ?_
  refine tP.imp h fun W env st sr er p => p.bind fun W1 H1 st1 d1 v1 e1 l1 le1 sr1 rp1 p1 => ?_
  refine ⟨W1, env, st1, sr1, er.up l1 le1, p1.bind fun W2 H2 st2 d2 v2 e2 l2 le2 sr2 rp2 p2 => ?_⟩
  have rx := view_rv sr2 (rp1.up' l2 le2)
  have ry := view_rv sr2 rp2
  split at p2
  · rename_i as bs q1 q2
    rw [q1] at rx
    rw [q2] at ry
    split at p2
    · rename_i hm
      obtain ⟨p, vs, rfl, h1, h2⟩ := rx.lists sr2
      obtain ⟨q, ws, rfl, h3, h4⟩ := ry.lists sr2
      exact ⟨_, _, _, _, rfl, rfl, h1, h3, by rw [h2.length, h4.length]; exact limE hm, Nx.cell sr2 (h2.append h4) p2⟩
    · exact (show False from p2).elim
  · exact (show False from p2).elim
end
end Itp
namespace Itp
open L2 PySem.Spec PyProof.Rows PySem
/-! ### [a, b] * n -/
section
variable {X : Cx} {cl : Nat → Addr} {base : Lv} {Wx : WX} {g : Env → Sto → Out D} {b : Expr} {pos p2 : Pos}
def reptF (f : Env → Sto → Out (List D)) (g : Env → Sto → Out D) : Env → Sto → Out D := fun env st => (f env st).bind fun ds st => if lim ds.length then (g env st).bind fun y st => .of st (repop ds y) else .bad
theorem pe_rept {es : List Expr} {fs : List (Env → Sto → Out D)} (h : PEs X cl base Wx es fs) (ns : noStar es = true) (hb : PE X b (tD X.K cl base Wx g)) :
    PE X (.BinOp (.List es p2) .Mult b pos) (tD X.K cl base Wx (reptF (evsF fs) g)) := by
  refine Itp.PE.imp (pe_op op_rep (pe_lst (pa_es h ns)) hb) fun σ H Q q => ?_
  refine tP.imp q fun W env st sr er p => p.bind fun W1 H1 st1 ds vs e1 l1 le1 sr1 rp1 p1 => ?_
  by_cases hl : lim ds.length = true
  · rw [if_pos hl] at p1
    refine ⟨by rw [rp1.length]; exact limE hl, fun a ha => ?_⟩
    obtain ⟨s2, l2⟩ := sr1.share (o := .lst vs) ha
    refine ⟨_, env, st1, s2, (er.up l1 le1).up l2 (Nat.le_refl _), (p1.mono l2 (Nat.le_refl _)).bind fun W3 H3 st3 d3 v3 e3 l3 le3 sr3 rp3 p3 => ?_⟩
    obtain ⟨d, e, nx⟩ := p3.of
    unfold repop at e
    split at e
    · rename_i k
      split at e
      · rename_i hk
        cases e
        cases rp3
        simp only [Bool.and_eq_true, decide_eq_true_eq] at hk
        have hF : W3.F a = some (.lst vs) := l3.sub a _ upd_same
        have rp := ((rp1.up' l2 (Nat.le_refl _)).up' l3 le3).rep k.toNat
        have hz : vs.length * k.toNat ≤ sizeLine := by
          rw [rp1.length, sizeLine_eq]
          have : ds.length * k.toNat ≤ 1000 * 1000 := Nat.mul_le_mul hk.2.2 (by omega)
          omega
        exact ⟨a, k, vs, rfl, rfl, sr3.sub a _ hF, by omega, by omega, hz, nx.lst sr3 rp⟩
      · cases e
    · cases e
  · rw [if_neg hl] at p1
    exact (show False from p1).elim
end
end Itp
namespace Itp
open L2 PySem.Spec PyProof.Rows PySem
/-! ### statements: what is wanted behind one -/
def PostS (K : PySem.W.Frag) (cl : Nat → Addr) (base : Lv) (Wx : WX) (W : Wd) (n : Nat) (r : OutS) (D : Ends) : Prop :=
  match r with
  | .nx e st => ∀ W' H' σ', Le n W W' → n ≤ st.length → SR K cl base W' st H' → EnvR K cl W' st.length e σ' → D.nx σ' H'
  | .bk e st => ∀ W' H' σ', Le n W W' → n ≤ st.length → SR K cl base W' st H' → EnvR K cl W' st.length e σ' → D.bk σ' H'
  | .ct e st => ∀ W' H' σ', Le n W W' → n ≤ st.length → SR K cl base W' st H' → EnvR K cl W' st.length e σ' → D.ct σ' H'
  | .rt d st => ∀ W' H' v, Le n W W' → n ≤ st.length → SR K cl base W' st H' → Rp K cl W'.F W'.r st.length v d → D.rt v H'
  | .exc m e st => ∀ W' H' σ', Le n W W' → n ≤ st.length → SR K cl base W' st H' → EnvR K cl W' st.length e σ' → Wx (.ref (cl m)) none σ' H'
  | .bad => False
def tS (K : PySem.W.Frag) (cl : Nat → Addr) (base : Lv) (Wx : WX) (f : Env → Sto → OutS) : TS :=
  fun D σ H => ∃ W env st, SR K cl base W st H ∧ EnvR K cl W st.length env σ ∧ PostS K cl base Wx W st.length (f env st) D
section
variable {K : PySem.W.Frag} {cl : Nat → Addr} {base : Lv} {Wx : WX} {α β α' β' : Type} {rel : Wd → Nat → β → α → Prop} {W : Wd} {n : Nat} {σ : L2.St} {D : Ends}
theorem PostS.mono {W1 : Wd} {m : Nat} {r : OutS} (h : PostS K cl base Wx W n r D) (l : Le n W W1) (le : n ≤ m) : PostS K cl base Wx W1 m r D := by
  cases r with
  | nx e st => exact fun W' H' u a b c q => h W' H' u (l.trans a le) (Nat.le_trans le b) c q
  | bk e st => exact fun W' H' u a b c q => h W' H' u (l.trans a le) (Nat.le_trans le b) c q
  | ct e st => exact fun W' H' u a b c q => h W' H' u (l.trans a le) (Nat.le_trans le b) c q
  | rt e st => exact fun W' H' u a b c q => h W' H' u (l.trans a le) (Nat.le_trans le b) c q
  | exc k e st => exact fun W' H' u a b c q => h W' H' u (l.trans a le) (Nat.le_trans le b) c q
  | bad => exact h
theorem PostS.thenS {r : Out α} {env : Env} {F : α → Sto → OutS} {R : β → Hp → Prop} (er : EnvR K cl W n env σ) (h : PostS K cl base Wx W n (r.thenS env F) D)
    (step : ∀ W1 H1 st1 d v, r = .ok d st1 → Le n W W1 → n ≤ st1.length → SR K cl base W1 st1 H1 → rel W1 st1.length v d → PostS K cl base Wx W1 st1.length (F d st1) D → R v H1) : Post rel K cl base Wx W n σ r R := by
  cases r with
  | ok d st1 => exact fun W1 H1 v l1 le1 sr1 rp => step W1 H1 st1 d v rfl l1 le1 sr1 rp (PostS.mono (r := F d st1) h l1 le1)
  | exc k st => exact fun W1 H1 l1 le1 sr1 => h W1 H1 σ l1 le1 sr1 (er.up l1 le1)
  | bad => exact h
theorem PostS.of {st : Sto} {o : Option Env} (h : PostS K cl base Wx W st.length (OutS.of st o) D) : ∃ e, o = some e ∧ ∀ W' H' σ', Le st.length W W' → SR K cl base W' st H' → EnvR K cl W' st.length e σ' → D.nx σ' H' := by
  cases o with
  | none => exact h.elim
  | some d => exact ⟨d, rfl, fun W' H' v a b c => h W' H' v a (Nat.le_refl _) b c⟩
theorem tS.imp {α : Type} {rel : Wd → Nat → β → α → Prop} {f : Env → Sto → OutS} {H : Hp} {G : Env → Sto → Out α} {R : β → Hp → Prop} (h : tS K cl base Wx f D σ H)
    (k : ∀ W env st, SR K cl base W st H → EnvR K cl W st.length env σ → PostS K cl base Wx W st.length (f env st) D → Post rel K cl base Wx W st.length σ (G env st) R) : tP rel K cl base Wx G σ H R := by
  obtain ⟨W, env, st, sr, er, p⟩ := h
  exact ⟨W, env, st, sr, er, k W env st sr er p⟩
end
/-! ### targets -/
/-- alike but at these slots -/
def Same (sl : List Nat) (σ σ' : L2.St) : Prop := σ'.length = σ.length ∧ ∀ i, i ∉ sl → σ'[i]? = σ[i]?
theorem Same.refl (sl : List Nat) (σ : L2.St) : Same sl σ σ := ⟨rfl, fun _ _ => rfl⟩
theorem Same.trans {a b : List Nat} {σ σ1 σ2 : L2.St} (h : Same a σ σ1) (k : Same b σ1 σ2) : Same (a ++ b) σ σ2 :=
  ⟨k.1.trans h.1, fun i q => (k.2 i fun m => q (List.mem_append_right _ m)).trans (h.2 i fun m => q (List.mem_append_left _ m))⟩
mutual
def Tg.slots : Tg → List Nat
  | .name i => [i]
  | .tup ts => slotss ts
def slotss : List Tg → List Nat
  | [] => []
  | t :: ts => t.slots ++ slotss ts
end
def gD (K : PySem.W.Frag) (cl : Nat → Addr) (base : Lv) (sl : List Nat) (b : D → Env → Option Env) : TG := fun v σ H Q =>
  ∃ W env st d e', SR K cl base W st H ∧ EnvR K cl W st.length env σ ∧ Rp K cl W.F W.r st.length v d ∧ b d env = some e' ∧ ∀ σ', EnvR K cl W st.length e' σ' → Same sl σ σ' → Q σ' H
def gDs (K : PySem.W.Frag) (cl : Nat → Addr) (base : Lv) (sl : List Nat) (b : List D → Env → Option Env) : TGs := fun vs σ H Q =>
  ∃ W env st ds e', SR K cl base W st H ∧ EnvR K cl W st.length env σ ∧ RpL K cl W.F W.r st.length vs ds ∧ b ds env = some e' ∧ ∀ σ', EnvR K cl W st.length e' σ' → Same sl σ σ' → Q σ' H
theorem PG.imp {X : Cx} {e : Expr} {t u : TG} (h : PG X e t) (k : ∀ v σ H Q, u v σ H Q → t v σ H Q) : PG X e u := ⟨fun pins s σ H v w Q I r q => h.run pins s σ H v w Q I r (k v σ H Q q)⟩
theorem PGs.imp {X : Cx} {e : List Expr} {t u : TGs} (h : PGs X e t) (k : ∀ v σ H Q, u v σ H Q → t v σ H Q) : PGs X e u := ⟨fun pins s σ H v w Q I r q => h.run pins s σ H v w Q I r (k v σ H Q q)⟩
mutual
/-- a target's names stand in their slots -/
def tgOk (N : List Str) (sc : Scope) (fn : Str → Bool) : Tg → Expr → Bool
  | .name i, .Name x _ => decide (N[i]? = some x) && (decide (List.lookup x sc.names = some .local) || (decide (List.lookup x sc.names = some .cell) && fn x))
  | .tup ts, .Tuple es _ _ => tgsOk N sc fn ts es
  | _, _ => false
def tgsOk (N : List Str) (sc : Scope) (fn : Str → Bool) : List Tg → List Expr → Bool
  | [], [] => true
  | t :: ts, e :: es => tgOk N sc fn t e && tgsOk N sc fn ts es
  | _, _ => false
end
theorem each_cons {t : Tg} {e : Expr} {es : List Expr} {N : List Str} {sc : Scope} {fn : Str → Bool} {env : PySem.Env} (h : tgOk N sc fn t e = true) : assignEach (e :: es) env = (false, assign e env) :: assignEach es env := by
  cases t <;> cases e <;> first | rfl | (simp [tgOk] at h)
theorem each_all {N : List Str} {sc : Scope} {fn : Str → Bool} {env : PySem.Env} : ∀ {ts : List Tg} {es : List Expr}, tgsOk N sc fn ts es = true → (assignEach es env).length = ts.length ∧ List.findIdx? (fun x => x.1) (assignEach es env) = none
  | [], [], _ => ⟨rfl, rfl⟩
  | [], _ :: _, h => by simp [tgsOk] at h
  | _ :: _, [], h => by simp [tgsOk] at h
  | t :: ts, e :: es, h => by
    simp only [tgsOk, Bool.and_eq_true] at h
    obtain ⟨h1, h2⟩ := each_all (env := env) h.2
    rw [each_cons h.1]
    exact ⟨by simp [h1], by rw [List.findIdx?_cons]; simp [h2]⟩
theorem lenB : ∀ {ts : List Tg} {ds : List D} {env e' : Env}, bnd.bnds ts ds env = some e' → ts.length = ds.length := by
  intro ts
  induction ts with
  | nil =>
    intro ds env e' h
    cases ds with
    | nil => rfl
    | cons d ds => simp [bnd.bnds] at h
  | cons t ts ih =>
    intro ds env e' h
    cases ds with
    | nil => simp [bnd.bnds] at h
    | cons d ds =>
      simp only [bnd.bnds, Option.bind_eq_some_iff] at h
      obtain ⟨e1, _, h2⟩ := h
      simp [ih (ds := ds) (env := e1) (e' := e') h2]
theorem PG.or {X : Cx} {e : Expr} {t u : TG} (h : PG X e t) (k : PG X e u) : PG X e (fun v σ H Q => t v σ H Q ∨ u v σ H Q) :=
  ⟨fun pins s σ H v w Q I r q => q.elim (h.run pins s σ H v w Q I r) (k.run pins s σ H v w Q I r)⟩
section
variable {X : Cx} {cl : Nat → Addr} {base : Lv} {Wx : WX}
mutual
theorem pg_bnd (hc : X.calm = true) (nd : X.N.Nodup) : ∀ {t : Tg} {e : Expr}, tgOk X.N X.env.scope X.fn t e = true → PG X e (gD X.K cl base t.slots (bnd t))
  | .name i, .Name x pos, h => by
    simp only [tgOk, Bool.and_eq_true, Bool.or_eq_true, decide_eq_true_eq] at h
    refine Itp.PG.imp (pg_name (i := i) nd h.1 (h.2.imp id (·.1)) (h.2.elim .inr fun q => .inl q.2)) fun v σ H Q q => ?_
    obtain ⟨W, env, st, d, e', sr, er, rp, hb, k⟩ := q
    simp only [bnd] at hb
    split at hb
    · cases hb
      exact k _ (er.set rp) ⟨by simp, fun j hj => List.getElem?_set_ne fun e => hj (by simp [Tg.slots, e])⟩
    · cases hb
  | .tup ts, .Tuple es kk pos, h => by
    simp only [tgOk] at h
    obtain ⟨h1, h2⟩ := each_all (env := X.env) h
    refine Itp.PG.imp (PG.or (pg_tup hc (pgs_bnds hc nd h) h1 h2) (pg_lst hc (pgs_bnds hc nd h) h1 h2)) fun v σ H Q q => ?_
    obtain ⟨W, env, st, d, e', sr, er, rp, hb, k⟩ := q
    cases d <;> try (simp [bnd] at hb; done)
    · rename_i ds
      have hb : bnd.bnds ts ds env = some e' := by simpa only [bnd] using hb
      cases rp with
      | tup hs hl =>
        refine .inl ⟨_, _, rfl, SqT.up sr.sub hs, ?_, W, env, st, ds, e', sr, er, hl, hb, k⟩
        rw [hl.length]
        exact (lenB hb).symm
    · rename_i ds
      have hb : bnd.bnds ts ds env = some e' := by simpa only [bnd] using hb
      cases rp with
      | lst hs hl =>
        refine .inr ⟨_, _, rfl, SqL.up sr.sub hs, ?_, W, env, st, ds, e', sr, er, hl, hb, k⟩
        rw [hl.length]
        exact (lenB hb).symm
  | .name _, .Tuple _ _ _, h => by simp [tgOk] at h
  | .tup _, .Name _ _, h => by simp [tgOk] at h
theorem pgs_bnds (hc : X.calm = true) (nd : X.N.Nodup) : ∀ {ts : List Tg} {es : List Expr}, tgsOk X.N X.env.scope X.fn ts es = true → PGs X es (gDs X.K cl base (slotss ts) (bnd.bnds ts))
  | [], [], h => by
    refine Itp.PGs.imp pgs_nil fun v σ H Q q => ?_
    obtain ⟨W, env, st, ds, e', sr, er, rp, hb, k⟩ := q
    cases ds with
    | nil =>
      cases rp
      simp only [bnd.bnds, Option.some.injEq] at hb
      subst hb
      exact ⟨rfl, k _ er (Same.refl _ _)⟩
    | cons d ds => simp [bnd.bnds] at hb
  | [], _ :: _, h => by simp [tgsOk] at h
  | _ :: _, [], h => by simp [tgsOk] at h
  | t :: ts, e :: es, h => by
    simp only [tgsOk, Bool.and_eq_true] at h
    refine Itp.PGs.imp (pgs_cons (pg_bnd hc nd h.1) (pgs_bnds hc nd h.2) (by rw [each_cons h.1]; rfl)) fun v σ H Q q => ?_
    obtain ⟨W, env, st, ds, e', sr, er, rp, hb, k⟩ := q
    cases ds with
    | nil => simp [bnd.bnds] at hb
    | cons d ds =>
      cases rp with
      | cons r rs =>
        simp only [bnd.bnds, Option.bind_eq_some_iff] at hb
        obtain ⟨e1, hb1, hb2⟩ := hb
        exact ⟨_, _, rfl, W, env, st, d, e1, sr, er, r, hb1, fun σ' er' s1 => ⟨W, e1, st, ds, e', sr, er', rs, hb2, fun σ2 er2 s2 => k σ2 er2 (s1.trans s2)⟩⟩
end
end
end Itp
namespace Itp
open L2 PySem.Spec PyProof.Rows PySem
section
variable {X : Cx} {cl : Nat → Addr} {base : Lv} {Wx : WX} {f g k : Env → Sto → Out D} {a b c : Expr} {pos : Pos}
theorem PS.imp {X : Cx} {e : Stmt} {t u : TS} (h : PS X e t) (k : ∀ D σ H, u D σ H → t D σ H) : PS X e u := ⟨fun pins s σ H D I q => h.run pins s σ H D I (k D σ H q)⟩
theorem PSs.imp {X : Cx} {e : List Stmt} {t u : TS} (h : PSs X e t) (k : ∀ D σ H, u D σ H → t D σ H) : PSs X e u := ⟨fun pins s σ H D I q => h.run pins s σ H D I (k D σ H q)⟩
theorem asg_imp {sl : List Nat} {bb : D → Env → Option Env} {D : Ends} {σ : L2.St} {H : Hp} (h : tS X.K cl base Wx (fun env st => (f env st).thenS env fun d st => .of st (bb d env)) D σ H) : tAsg (tD X.K cl base Wx f) (gD X.K cl base sl bb) D σ H := by
  refine tS.imp h fun W env st sr er p => p.thenS er fun W1 H1 st1 d1 v1 e1 l1 le1 sr1 rp1 p1 => ?_
  obtain ⟨e', he, q⟩ := p1.of
  exact ⟨W1, env, st1, d1, e', sr1, er.up l1 le1, rp1, he, fun σ' er' _ => q W1 H1 σ' (Le.refl _ _) sr1 er'⟩
theorem ps_asgD {tg : Expr} {sl : List Nat} {bb : D → Env → Option Env} (ha : PE X a (tD X.K cl base Wx f)) (hg : PG X tg (gD X.K cl base sl bb)) (h1 : swapsWithSole [tg] a pos.line X.env = pure false) (h2 : swappedStores [tg] a X.env = pure none)
    (h3 : List.map (fun x => x.snd) (assignEach [tg] X.env) = [assign tg X.env]) : PS X (.Assign [tg] a pos) (tS X.K cl base Wx fun env st => (f env st).thenS env fun d st => .of st (bb d env)) :=
  PS.imp (ps_asg ha hg h1 h2 h3) fun D σ H h => asg_imp h
theorem bnd_name {i : Nat} : bnd (.name i) = fun d env => put env i d := by
  funext d env
  simp [bnd, put]
theorem set_imp {i : Nat} {t : TE} {D : Ends} {σ : L2.St} {H : Hp} (h : tS X.K cl base Wx (fun env st => (f env st).thenS env fun d st => .of st (put env i d)) D σ H) (ht : ∀ σ H Q, tD X.K cl base Wx f σ H Q → t σ H Q) : tAsg t (gName i) D σ H := by
  refine ht _ _ _ ?_
  refine tS.imp h fun W env st sr er p => p.thenS er fun W1 H1 st1 d1 v1 e1 l1 le1 sr1 rp1 p1 => ?_
  obtain ⟨e', he, q⟩ := p1.of
  unfold put at he
  split at he
  · cases he
    exact q W1 H1 _ (Le.refl _ _) sr1 ((er.up l1 le1).set rp1)
  · cases he
theorem ps_setD {i : Nat} {x : Str} {p : Pos} (nd : X.N.Nodup) (hx : X.N[i]? = some x) (hl : L2.Loc X.env.scope x) (ha : PE X a (tD X.K cl base Wx f)) (h1 : swapsWith a (some (.Name x p)) pos.line X.env = pure false)
    (h2 : X.fn x = true ∨ List.lookup x X.env.scope.names = some .local) : PS X (.Assign [.Name x p] a pos) (tS X.K cl base Wx fun env st => (f env st).thenS env fun d st => .of st (put env i d)) :=
  PS.imp (ps_set (i := i) nd hx hl ha h1 h2) fun D σ H h => set_imp h fun _ _ _ q => q
/-- a row of values into slots -/
theorem puts_env {K : PySem.W.Frag} {W : Wd} {n : Nat} {env e' : Env} {σ : L2.St} {i j : Nat} {d1 d2 : D} {v1 v2 : V} (er : EnvR K cl W n env σ) (r1 : Rp K cl W.F W.r n v1 d1) (r2 : Rp K cl W.F W.r n v2 d2) (h : puts [i, j] [d1, d2] env = some e') : EnvR K cl W n e' ((σ.set i (some v1)).set j (some v2)) := by
  simp only [puts, put, Option.bind_eq_some_iff] at h
  obtain ⟨e1, h1, h⟩ := h
  split at h1
  · cases h1
    obtain ⟨e2, h2, h⟩ := h
    split at h2
    · cases h2
      cases h
      exact (er.set r1).set r2
    · cases h2
  · cases h1
theorem puts_env3 {K : PySem.W.Frag} {W : Wd} {n : Nat} {env e' : Env} {σ : L2.St} {i j l : Nat} {d1 d2 d3 : D} {v1 v2 v3 : V} (er : EnvR K cl W n env σ) (r1 : Rp K cl W.F W.r n v1 d1) (r2 : Rp K cl W.F W.r n v2 d2) (r3 : Rp K cl W.F W.r n v3 d3) (h : puts [i, j, l] [d1, d2, d3] env = some e') :
    EnvR K cl W n e' (((σ.set i (some v1)).set j (some v2)).set l (some v3)) := by
  simp only [puts, put, Option.bind_eq_some_iff] at h
  obtain ⟨e1, h1, h⟩ := h
  split at h1
  · cases h1
    obtain ⟨e2, h2, h⟩ := h
    split at h2
    · cases h2
      obtain ⟨e3, h3, h⟩ := h
      split at h3
      · cases h3
        cases h
        exact ((er.set r1).set r2).set r3
      · cases h3
    · cases h2
  · cases h1
theorem puts_len : ∀ {is : List Nat} {ds : List D} {env e' : Env}, puts is ds env = some e' → is.length = ds.length
  | [], [], _, _, _ => rfl
  | [], _ :: _, _, _, h => by simp [puts] at h
  | _ :: _, [], _, _, h => by simp [puts] at h
  | i :: is, d :: ds, env, e', h => by
    simp only [puts, Option.bind_eq_some_iff] at h
    obtain ⟨e1, _, h⟩ := h
    simp [puts_len h]
theorem ps_parD {i j : Nat} {x y : Str} {fs : List (Env → Sto → Out D)} {px py pt pt2 : Pos} {kt k2 : Nat} (hc : X.calm = true) (nd : X.N.Nodup) (hi : X.N[i]? = some x) (hj : X.N[j]? = some y) (ne : i ≠ j)
    (hx : List.lookup x X.env.scope.names = some .local) (hy : List.lookup y X.env.scope.names = some .local) (h : PEs X cl base Wx [a, b] fs) (ns : noStar [a, b] = true)
    (h1 : swappedStores [.Tuple [.Name x px, .Name y py] kt pt] (.Tuple [a, b] k2 pt2) X.env = pure (some [x, y])) :
    PS X (.Assign [.Tuple [.Name x px, .Name y py] kt pt] (.Tuple [a, b] k2 pt2) pos) (tS X.K cl base Wx fun env st => (evsF fs env st).thenS env fun ds st => .of st (puts [i, j] ds env)) := by
  refine PS.imp (ps_par hc nd hi hj ne hx hy (pa_es h ns) h1) fun D σ H h => ?_
  refine tS.imp h fun W env st sr er p => p.thenS er fun W1 H1 st1 d1 v1 e1 l1 le1 sr1 rp1 p1 => ?_
  obtain ⟨e', he, q⟩ := p1.of
  have hl := puts_len he
  match d1, v1, rp1, hl with
  | [d1, d2], _, .cons r1 (.cons r2 .nil), _ => exact ⟨_, _, rfl, q W1 H1 _ (Le.refl _ _) sr1 (puts_env (er.up l1 le1) r1 r2 he)⟩
theorem ps_parD3 {i j l : Nat} {x y z : Str} {fs : List (Env → Sto → Out D)} {px py pz pt pt2 : Pos} {kt k2 : Nat} (hc : X.calm = true) (nd : X.N.Nodup) (hi : X.N[i]? = some x) (hj : X.N[j]? = some y) (hk : X.N[l]? = some z) (n1 : i ≠ j) (n2 : i ≠ l) (n3 : j ≠ l)
    (hx : List.lookup x X.env.scope.names = some .local) (hy : List.lookup y X.env.scope.names = some .local) (hz : List.lookup z X.env.scope.names = some .local) (h : PEs X cl base Wx [a, b, c] fs) (ns : noStar [a, b, c] = true)
    (h1 : swappedStores [.Tuple [.Name x px, .Name y py, .Name z pz] kt pt] (.Tuple [a, b, c] k2 pt2) X.env = pure (some [x, y, z])) :
    PS X (.Assign [.Tuple [.Name x px, .Name y py, .Name z pz] kt pt] (.Tuple [a, b, c] k2 pt2) pos) (tS X.K cl base Wx fun env st => (evsF fs env st).thenS env fun ds st => .of st (puts [i, j, l] ds env)) := by
  refine PS.imp (ps_par3 hc nd hi hj hk n1 n2 n3 hx hy hz (pa_es h ns) h1) fun D σ H h => ?_
  refine tS.imp h fun W env st sr er p => p.thenS er fun W1 H1 st1 d1 v1 e1 l1 le1 sr1 rp1 p1 => ?_
  obtain ⟨e', he, q⟩ := p1.of
  have hl := puts_len he
  match d1, v1, rp1, hl with
  | [d1, d2, d3], _, .cons r1 (.cons r2 (.cons r3 .nil)), _ => exact ⟨_, _, _, rfl, q W1 H1 _ (Le.refl _ _) sr1 (puts_env3 (er.up l1 le1) r1 r2 r3 he)⟩
/-! ### returns, ifs, rows of statements -/
theorem ps_retD (ha : PE X a (tD X.K cl base Wx f)) : PS X (.Return (some a) pos) (tS X.K cl base Wx fun env st => (f env st).thenS env fun d st => .rt d st) := by
  refine PS.imp (ps_ret ha) fun D σ H h => ?_
  refine tS.imp h fun W env st sr er p => p.thenS er fun W1 H1 st1 d1 v1 e1 l1 le1 sr1 rp1 p1 => ?_
  exact p1 W1 H1 v1 (Le.refl _ _) (Nat.le_refl _) sr1 rp1
theorem ps_retND : PS X (.Return none pos) (tS X.K cl base Wx fun _ st => .rt .non st) := by
  refine PS.imp ps_retN fun D σ H h => ?_
  obtain ⟨W, env, st, sr, er, p⟩ := h
  exact p W H _ (Le.refl _ _) (Nat.le_refl _) sr .non
theorem ps_exD (ha : PE X a (tD X.K cl base Wx f)) (h1 : swapsWith a none pos.line X.env = pure false) : PS X (.Expr a pos) (tS X.K cl base Wx fun env st => (f env st).thenS env fun _ st => .nx env st) := by
  refine PS.imp (ps_expr ha h1) fun D σ H h => ?_
  refine tS.imp h fun W env st sr er p => p.thenS er fun W1 H1 st1 d1 v1 e1 l1 le1 sr1 rp1 p1 => ?_
  exact p1 W1 H1 σ (Le.refl _ _) (Nat.le_refl _) sr1 (er.up l1 le1)
theorem ps_brkD : PS X (.Break pos) (tS X.K cl base Wx fun env st => .bk env st) := by
  refine PS.imp ps_break fun D σ H h => ?_
  obtain ⟨W, env, st, sr, er, p⟩ := h
  exact p W H _ (Le.refl _ _) (Nat.le_refl _) sr er
theorem ps_cntD : PS X (.Continue pos) (tS X.K cl base Wx fun env st => .ct env st) := by
  refine PS.imp ps_continue fun D σ H h => ?_
  obtain ⟨W, env, st, sr, er, p⟩ := h
  exact p W H _ (Le.refl _ _) (Nat.le_refl _) sr er
theorem ps_passD : PS X (.Pass pos) (tS X.K cl base Wx fun env st => .nx env st) := by
  refine PS.imp ps_pass fun D σ H h => ?_
  obtain ⟨W, env, st, sr, er, p⟩ := h
  exact p W H _ (Le.refl _ _) (Nat.le_refl _) sr er
theorem pss_nilD : PSs X [] (tS X.K cl base Wx fun env st => .nx env st) := by
  refine PSs.imp pss_nil fun D σ H h => ?_
  obtain ⟨W, env, st, sr, er, p⟩ := h
  exact p W H _ (Le.refl _ _) (Nat.le_refl _) sr er
theorem tst_thenS {F : Bool → Env → Sto → OutS} {D : Ends} {σ : L2.St} {H : Hp} {R : Bool → Hp → Prop} (h : tS X.K cl base Wx (fun env st => (f env st).thenS env fun x st => match tru (view st x) with
    | some b => F b env st
    | none => .bad) D σ H) (step : ∀ b H1, tS X.K cl base Wx (F b) D σ H1 → R b H1) : tB X.K cl base Wx (tst f) σ H R := by
  refine tS.imp h fun W env st sr er p => ?_
  show Post relB X.K cl base Wx W st.length σ ((f env st).bind fun x st => .of st (tru (view st x))) _
  cases e : f env st with
  | bad =>
    rw [e] at p
    exact p
  | exc n s1 =>
    rw [e] at p
    exact fun W1 H1 l1 le1 sr1 => p W1 H1 σ l1 le1 sr1 (er.up l1 le1)
  | ok d s1 =>
    rw [e] at p
    simp only [Out.thenS, Out.bind] at p ⊢
    cases e2 : tru (view s1 d) with
    | none =>
      rw [e2] at p
      exact p
    | some q =>
      rw [e2] at p
      intro W' H' v x y z r
      cases r
      exact step q H' ⟨W', env, s1, z, er.up x y, PostS.mono p x y⟩
theorem ps_ifD {sa sb : List Stmt} {fa fb : Env → Sto → OutS} (hc : PT X c (tB X.K cl base Wx (tst f))) (ha : PSs X sa (tS X.K cl base Wx fa)) (hb : PSs X sb (tS X.K cl base Wx fb)) :
    PS X (.If c sa sb pos) (tS X.K cl base Wx fun env st => (f env st).thenS env fun x st => match tru (view st x) with
      | some true => fa env st
      | some false => fb env st
      | none => .bad) := by
  refine PS.imp (ps_if hc ha hb) fun D σ H h => ?_
  have h : tS X.K cl base Wx (fun env st => (f env st).thenS env fun x st => match tru (view st x) with
      | some b => if b = true then fa env st else fb env st
      | none => .bad) D σ H := by
    obtain ⟨W, env, st, sr, er, p⟩ := h
    refine ⟨W, env, st, sr, er, ?_⟩
    simp only at p ⊢
    cases e : f env st with
    | bad =>
      rw [e] at p
      exact p
    | exc n s1 =>
      rw [e] at p
      exact p
    | ok d s1 =>
      rw [e] at p
      simp only [Out.thenS] at p ⊢
      cases e2 : tru (view s1 d) with
      | none =>
        rw [e2] at p
        exact p
      | some q =>
        rw [e2] at p
        cases q <;> simpa using p
  refine tst_thenS (F := fun b env st => if b = true then fa env st else fb env st) h fun b H1 q => ?_
  cases b with
  | true => simpa using q
  | false => simpa using q
def seqF (f g : Env → Sto → OutS) : Env → Sto → OutS := fun env st => match f env st with
  | .nx e t => g e t
  | r => r
theorem pss_consD {s : Stmt} {ss : List Stmt} {f g : Env → Sto → OutS} (h : PS X s (tS X.K cl base Wx f)) (hs : PSs X ss (tS X.K cl base Wx g)) : PSs X (s :: ss) (tS X.K cl base Wx (seqF f g)) := by
  refine PSs.imp (pss_cons h hs) fun D σ H h => ?_
  obtain ⟨W, env, st, sr, er, p⟩ := h
  refine ⟨W, env, st, sr, er, ?_⟩
  unfold seqF at p
  cases e : f env st with
  | nx e1 s1 =>
    rw [e] at p
    exact fun W1 H1 σ1 l1 le1 sr1 er1 => ⟨W1, e1, s1, sr1, er1, PostS.mono p l1 le1⟩
  | _ =>
    rw [e] at p
    exact p
end
end Itp
namespace Itp
open L2 PySem.Spec PyProof.Rows PySem
section
variable {X : Cx} {cl : Nat → Addr} {base : Lv} {Wx : WX} {f g k : Env → Sto → Out D} {a b c : Expr} {pos : Pos}
theorem ps_whlD {body : List Stmt} {fb : Env → Sto → OutS} {fuel : Nat} (hp : PassesOwn (model X.prog X.w) X.A X.env X.xe) (hc : PT X c (tB X.K cl base Wx (tst f))) (hb : PSs X body (tS X.K cl base Wx fb)) :
    PS X (.While c body [] pos) (tS X.K cl base Wx fun env st => whlD (tst f) fb fuel env st) := by
  refine PS.imp (ps_while hp hc hb) fun D σ H h => ?_
  refine ⟨fun m σ H => tS X.K cl base Wx (whlD (tst f) fb m) D σ H, ⟨fuel, h⟩, fun m σ H h => ?_⟩
  cases m with
  | zero =>
    obtain ⟨W, env, st, sr, er, p⟩ := h
    exact p.elim
  | succ m =>
    refine tS.imp h fun W env st sr er p => ?_
    rw [whlD] at p
    cases e : tst f env st with
    | bad =>
      rw [e] at p
      exact p.elim
    | exc n s1 =>
      rw [e] at p
      exact fun W1 H1 l1 le1 sr1 => p W1 H1 σ l1 le1 sr1 (er.up l1 le1)
    | ok q s1 =>
      rw [e] at p
      intro W1 H1 v l1 le1 sr1 r
      cases r
      cases q with
      | false =>
        rw [if_neg (by simp)]
        exact p W1 H1 σ l1 le1 sr1 (er.up l1 le1)
      | true =>
        rw [if_pos rfl]
        refine ⟨fun σ' H' => tS X.K cl base Wx (whlD (tst f) fb m) D σ' H', fun σ' H' q => ⟨m, Nat.lt_succ_self m, q⟩, W1, env, s1, sr1, er.up l1 le1, ?_⟩
        have p := PostS.mono p l1 le1
        simp only at p
        cases e2 : fb env s1 with
        | nx e1 s2 =>
          rw [e2] at p
          exact fun W2 H2 σ2 l2 le2 sr2 er2 => ⟨W2, e1, s2, sr2, er2, PostS.mono p l2 le2⟩
        | ct e1 s2 =>
          rw [e2] at p
          exact fun W2 H2 σ2 l2 le2 sr2 er2 => ⟨W2, e1, s2, sr2, er2, PostS.mono p l2 le2⟩
        | _ =>
          rw [e2] at p
          exact p
/-! ### walks -/
/-- more is shared, the older cells stay; what is held may be otherwise -/
structure Lx (n : Nat) (W W' : Wd) : Prop where
  sub : ∀ a o, W.F a = some o → W'.F a = some o
  at_ : ∀ c, c < n → W'.r c = W.r c
theorem Le.x {n : Nat} {W W' : Wd} (h : Le n W W') : Lx n W W' := ⟨h.sub, h.at_⟩
theorem Lx.trans {n m : Nat} {W W1 W2 : Wd} (a : Lx n W W1) (b : Lx m W1 W2) (h : n ≤ m) : Lx n W W2 :=
  ⟨fun x o q => b.sub x o (a.sub x o q), fun c q => (b.at_ c (Nat.lt_of_lt_of_le q h)).trans (a.at_ c q)⟩
def Walks (K : PySem.W.Frag) (cl : Nat → Addr) (J : It) (xs : List D) (W0 : Wd) (n0 : Nat) : Prop :=
  ∃ G Y, Walk J xs.length G Y ∧ (∀ base W st H, Lx n0 W0 W → n0 ≤ st.length → SR K cl base W st H → G H) ∧
    ∀ i d base W st H x H', xs[i]? = some d → Lx n0 W0 W → n0 ≤ st.length → SR K cl base W st H → Y i H x H' → ∃ W', Le st.length W W' ∧ SR K cl base W' st H' ∧ Rp K cl W'.F W'.r st.length x d
def tI (K : PySem.W.Frag) (cl : Nat → Addr) (base : Lv) (Wx : WX) (ik : IK) (fs : Env → Sto → Out (List D)) : TI := fun σ H R =>
  ∃ W env st, SR K cl base W st H ∧ EnvR K cl W st.length env σ ∧ match fs env st with
    | .ok ds st1 => match items ik ds with
      | some xs => ∀ W1 H1, Le st.length W W1 → st.length ≤ st1.length → SR K cl base W1 st1 H1 → ∀ J, Walks K cl J xs W1 st1.length → R J H1
      | none => False
    | .exc m st1 => ∀ W1 H1, Le st.length W W1 → st.length ≤ st1.length → SR K cl base W1 st1 H1 → Wx (.ref (cl m)) none σ H1
    | .bad => False
theorem tI.post {ik : IK} {fs : Env → Sto → Out (List D)} {σ : L2.St} {H : Hp} {R : It → Hp → Prop} (h : tI X.K cl base Wx ik fs σ H R) {T : List V → Hp → Prop}
    (k : ∀ W1 H1 st1 ds vs xs, (∃ env st, fs env st = .ok ds st1) → SR X.K cl base W1 st1 H1 → RpL X.K cl W1.F W1.r st1.length vs ds → items ik ds = some xs → (∀ J, Walks X.K cl J xs W1 st1.length → R J H1) → T vs H1) : tL X.K cl base Wx fs σ H T := by
  obtain ⟨W, env, st, sr, er, p⟩ := h
  refine ⟨W, env, st, sr, er, ?_⟩
  cases e : fs env st with
  | bad =>
    rw [e] at p
    exact p
  | exc m s1 =>
    rw [e] at p
    exact p
  | ok ds s1 =>
    rw [e] at p
    intro W1 H1 vs l1 le1 sr1 r1
    simp only at p
    cases e2 : items ik ds with
    | none =>
      rw [e2] at p
      exact p.elim
    | some xs =>
      rw [e2] at p
      exact k W1 H1 s1 ds vs xs ⟨_, _, e⟩ sr1 r1 e2 (p W1 H1 l1 le1 sr1)
theorem walks_list {W0 : Wd} {n0 : Nat} {p : Addr} {vs : List V} {ds : List D} (h : SqL X.K W0.F p vs) (r : RpL X.K cl W0.F W0.r n0 vs ds) : Walks X.K cl (Itl X.K p) ds W0 n0 := by
  refine ⟨_, _, by rw [← r.length]; exact walk_list (xs := vs), fun base W st H l le sr => SqL.up (fun a o q => sr.sub a o (l.sub a o q)) h, fun i d base W st H x H' hd l le sr y => ?_⟩
  obtain ⟨rfl, hx⟩ := y
  obtain ⟨v, hv, rv⟩ := r.get hd
  rw [hx] at hv
  cases hv
  exact ⟨W, Le.refl _ _, sr, rv.up l.sub l.at_ le⟩
theorem walks_tup {W0 : Wd} {n0 : Nat} {p : Addr} {vs : List V} {ds : List D} (h : SqT X.K W0.F p vs) (r : RpL X.K cl W0.F W0.r n0 vs ds) : Walks X.K cl (Itt X.K p) ds W0 n0 := by
  refine ⟨_, _, by rw [← r.length]; exact walk_tup (xs := vs), fun base W st H l le sr => SqT.up (fun a o q => sr.sub a o (l.sub a o q)) h, fun i d base W st H x H' hd l le sr y => ?_⟩
  obtain ⟨rfl, hx⟩ := y
  obtain ⟨v, hv, rv⟩ := r.get hd
  rw [hx] at hv
  cases hv
  exact ⟨W, Le.refl _ _, sr, rv.up l.sub l.at_ le⟩
theorem walks_str {W0 : Wd} {n0 : Nat} {z : Str} : Walks X.K cl (Its z) (z.cps.toList.map fun c => .str ⟨#[c]⟩) W0 n0 := by
  refine ⟨_, _, by rw [List.length_map, Array.length_toList]; exact walk_str, fun _ _ _ _ _ _ _ => trivial, fun i d base W st H x H' hd l le sr y => ?_⟩
  obtain ⟨rfl, c, hc, rfl⟩ := y
  rw [List.getElem?_map, Array.getElem?_toList, hc] at hd
  cases hd
  exact ⟨W, Le.refl _ _, sr, .str _⟩
theorem walks_range {W0 : Wd} {n0 : Nat} {lo : Int} {n : Nat} : Walks X.K cl (Itr lo n) (upto lo n) W0 n0 := by
  refine ⟨_, _, by rw [upto, List.length_map, List.length_range]; exact walk_range, fun _ _ _ _ _ _ _ => trivial, fun i d base W st H x H' hd l le sr y => ?_⟩
  obtain ⟨rfl, rfl⟩ := y
  obtain ⟨hi, hd⟩ := List.getElem?_eq_some_iff.mp hd
  simp [upto] at hd
  subst hd
  exact ⟨W, Le.refl _ _, sr, .int _⟩
theorem pi_seqD {tg e : Expr} (he : PE X e (tD X.K cl base Wx f)) : PI X tg e (tI X.K cl base Wx .seq (evsF [f])) := by
  refine ⟨fun pins s σ H R I h => ?_⟩
  have h' := h
  obtain ⟨W, env, st, sr, er, p⟩ := h'
  -- what the source tells decides which walk it is
  have go : ∀ {T : V → Hp → Prop}, (∀ W1 H1 st1 d v xs, f env st = .ok d st1 → SR X.K cl base W1 st1 H1 → Rp X.K cl W1.F W1.r st1.length v d → items .seq [d] = some xs → (∀ J, Walks X.K cl J xs W1 st1.length → R J H1) → T v H1) → tD X.K cl base Wx f σ H T := by
    intro T k
    refine ⟨W, env, st, sr, er, ?_⟩
    simp only [evsF, Out.bind] at p
    cases e : f env st with
    | bad =>
      rw [e] at p
      exact p
    | exc m s1 =>
      rw [e] at p
      exact p
    | ok d s1 =>
      rw [e] at p
      intro W1 H1 v l1 le1 sr1 r1
      simp only at p
      cases e2 : items .seq [d] with
      | none =>
        rw [e2] at p
        exact p.elim
      | some xs =>
        rw [e2] at p
        exact k W1 H1 s1 d v xs e sr1 r1 e2 (p W1 H1 l1 le1 sr1)
  by_cases q1 : ∃ ds s1, f env st = .ok (.tup ds) s1
  · obtain ⟨ds, s1, q1⟩ := q1
    refine (pi_tup he).run pins s σ H R I (go fun W1 H1 st1 d v xs e sr1 r1 hi w => ?_)
    rw [q1] at e
    cases e
    cases hi
    cases r1 with
    | tup h hs => exact ⟨_, rfl, ⟨_, SqT.up sr1.sub h⟩, w _ (walks_tup h hs)⟩
  · by_cases q2 : ∃ z s1, f env st = .ok (.str z) s1
    · obtain ⟨z, s1, q2⟩ := q2
      refine (pi_str he).run pins s σ H R I (go fun W1 H1 st1 d v xs e sr1 r1 hi w => ?_)
      rw [q2] at e
      cases e
      cases hi
      cases r1
      exact ⟨_, rfl, w _ walks_str⟩
    · refine (pi_list he).run pins s σ H R I (go fun W1 H1 st1 d v xs e sr1 r1 hi w => ?_)
      cases d <;> try (simp [items] at hi; done)
      · exact absurd ⟨_, _, e⟩ q2
      · exact absurd ⟨_, _, e⟩ q1
      · cases hi
        cases r1 with
        | lst h hs => exact ⟨_, rfl, ⟨_, SqL.up sr1.sub h⟩, w _ (walks_list h hs)⟩
end
end Itp
namespace Itp
open L2 PySem.Spec PyProof.Rows PySem
section
variable {K : PySem.W.Frag} {cl : Nat → Addr} {base : Lv} {W : Wd} {st : Sto} {H : Hp}
theorem SR.holdF (h : SR K cl base W st H) {p : Addr} (hp : H p = none) : W.F p = none := by
  cases e : W.F p with
  | none => rfl
  | some u =>
    rw [h.sub p u e] at hp
    cases hp
theorem SR.apartN (h : SR K cl base W st H) {p : Addr} (hp : H p = none) : ∀ c o, st[c]? = some o → o ≠ .dead → W.r c ≠ p := fun c o hc nd e => by
  obtain ⟨u, hu⟩ := h.trk c o hc nd
  rw [e, hp] at hu
  cases hu
/-- a new object that is held -/
theorem SR.hold (h : SR K cl base W st H) {p : Addr} {u : HO} (hp : H p = none) (hu : (∃ vs, u = .lst vs) ∨ ∃ kvs, u = .dK kvs := by first | exact .inl ⟨_, rfl⟩ | exact .inr ⟨_, rfl⟩) : SR K cl base ⟨W.F, W.r, upd W.G p u⟩ st (upd H p u) := by
  have fp := h.holdF hp
  have ne := h.apartN hp
  refine ⟨fun a o q => ?_, h.inj, h.apart, fun c o hc nd => ?_, fun c o q => ?_, h.ge, fun a o q => ?_, fun a o q => ?_, fun c o hc nd => ?_, tabs_kx h.tab (Kx.fresh hp), h.ftb, fun a o q => ?_, base.mono (W := W) (fun _ _ z => z) (fun _ _ => rfl) (Nat.le_refl _) h.inv⟩
  · have : a ≠ p := fun e => by
      rw [e] at q
      rw [show W.F p = some o from q] at fp
      cases fp
    rw [upd_ne this]
    exact h.sub a o q
  · obtain ⟨v, ho⟩ := h.trk c o hc nd
    exact ⟨v, by rw [upd_ne (ne c o hc nd)]; exact ho⟩
  · by_cases nd : o = .dead
    · subst nd
      trivial
    · have r : OR K cl ⟨W.F, W.r, upd W.G p u⟩ (lvl base st.length c) H (W.r c) o := by
        have := h.cell c o q
        cases o <;> exact this
      refine OR.heap (fun v hv => ?_) r
      rw [upd_ne (ne c o q nd)]
      exact hv
  · have q : upd W.G p u a = some o := q
    by_cases e : a = p
    · subst e
      rw [upd_same] at q ⊢
      exact q
    · rw [upd_ne e] at q ⊢
      exact h.held a o q
  · have q : upd W.G p u a = some o := q
    by_cases e : a = p
    · rw [e]
      exact fp
    · rw [upd_ne e] at q
      exact h.hF a o q
  · show upd W.G p u (W.r c) = none
    rw [upd_ne (ne c o hc nd)]
    exact h.hr c o hc nd
  · have q : upd W.G p u a = some o := q
    by_cases e : a = p
    · subst e
      rw [upd_same] at q
      cases q
      exact hu
    · rw [upd_ne e] at q
      exact h.gls a o q
theorem OR.anyG {W : Wd} {G : Hp} {n : Nat} {a : Addr} {o : O} (h : OR K cl W n H a o) : OR K cl ⟨W.F, W.r, G⟩ n H a o := by
  cases o <;> exact h
/-- a held list is written -/
theorem SR.rehold {F : Hp} {r : Nat → Addr} {G : Hp} {p : Addr} {u u' : HO} (h : SR K cl base ⟨F, r, upd G p u⟩ st H) (hu : (∃ vs, u' = .lst vs) ∨ ∃ kvs, u' = .dK kvs := by first | exact .inl ⟨_, rfl⟩ | exact .inr ⟨_, rfl⟩) : SR K cl base ⟨F, r, upd G p u'⟩ st (upd H p u') := by
  have fp : F p = none := h.hF p _ upd_same
  have hp : H p = some u := h.held p _ upd_same
  have hu0 := h.gls p u upd_same
  have ne : ∀ c o, st[c]? = some o → o ≠ .dead → r c ≠ p := fun c o hc nd e => by
    have : upd G p u (r c) = none := h.hr c o hc nd
    rw [e, upd_same] at this
    cases this
  refine ⟨fun a o q => ?_, h.inj, h.apart, fun c o hc nd => ?_, fun c o q => ?_, h.ge, fun a o q => ?_, fun a o q => ?_, fun c o hc nd => ?_, tabs_kx h.tab (Kx.over hp hu0), h.ftb, fun a o q => ?_, base.mono (W := ⟨F, r, upd G p u⟩) (fun _ _ z => z) (fun _ _ => rfl) (Nat.le_refl _) h.inv⟩
  · have : a ≠ p := fun e => by
      rw [e] at q
      rw [show F p = some o from q] at fp
      cases fp
    rw [upd_ne this]
    exact h.sub a o q
  · obtain ⟨v, ho⟩ := h.trk c o hc nd
    exact ⟨v, by rw [show Wd.r ⟨F, r, upd G p u'⟩ c = r c from rfl, upd_ne (ne c o hc nd)]; exact ho⟩
  · by_cases nd : o = .dead
    · subst nd
      trivial
    · refine OR.heap (fun v hv => ?_) (OR.anyG (G := upd G p u') (h.cell c o q))
      rw [show Wd.r ⟨F, r, upd G p u'⟩ c = r c from rfl, upd_ne (ne c o q nd)]
      exact hv
  · have q : upd G p u' a = some o := q
    by_cases e : a = p
    · subst e
      rw [upd_same] at q ⊢
      exact q
    · rw [upd_ne e] at q ⊢
      exact h.held a o (by show upd G p _ a = some o; rw [upd_ne e]; exact q)
  · have q : upd G p u' a = some o := q
    by_cases e : a = p
    · rw [e]
      exact fp
    · rw [upd_ne e] at q
      exact h.hF a o (by show upd G p _ a = some o; rw [upd_ne e]; exact q)
  · show upd G p u' (r c) = none
    rw [upd_ne (ne c o hc nd)]
    have : upd G p u (r c) = none := h.hr c o hc nd
    rw [upd_ne (ne c o hc nd)] at this
    exact this
  · have q : upd G p u' a = some o := q
    by_cases e : a = p
    · subst e
      rw [upd_same] at q
      cases q
      exact hu
    · rw [upd_ne e] at q
      exact h.gls a o (by show upd G p _ a = _; rw [upd_ne e]; exact q)
/-- a held object is shared from now on -/
theorem SR.give {F : Hp} {r : Nat → Addr} {G : Hp} {p : Addr} {u : HO} (h : SR K cl base ⟨F, r, upd G p u⟩ st H) (gp : G p = none) : SR K cl base ⟨upd F p u, r, G⟩ st H := by
  have fp : F p = none := h.hF p u upd_same
  have ne : ∀ c o, st[c]? = some o → o ≠ .dead → r c ≠ p := fun c o hc nd e => by
    have : upd G p u (r c) = none := h.hr c o hc nd
    rw [e, upd_same] at this
    cases this
  have sub : ∀ a o, F a = some o → upd F p u a = some o := fun a o q => by
    have : a ≠ p := fun e => by
      rw [e, fp] at q
      cases q
    rw [upd_ne this]
    exact q
  refine ⟨fun a o q => ?_, h.inj, fun c o q nd => ?_, h.trk, fun c o q => ?_, h.ge, fun a o q => ?_, fun a o q => ?_, fun c o hc nd => ?_, h.tab, fun a ps q => ?_, fun a o q => ?_, base.mono (W := ⟨F, r, upd G p u⟩) sub (fun _ _ => rfl) (Nat.le_refl _) h.inv⟩
  · have q : upd F p u a = some o := q
    by_cases e : a = p
    · subst e
      rw [upd_same] at q
      cases q
      exact h.held a u upd_same
    · rw [upd_ne e] at q
      exact h.sub a o q
  · show upd F p u (r c) = none
    rw [upd_ne (ne c o q nd)]
    exact h.apart c o q nd
  · have := h.cell c o q
    cases o with
    | lst ds =>
      obtain ⟨vs, h1, h2⟩ := this
      exact ⟨vs, h1, h2.up sub (fun _ _ => rfl) (Nat.le_refl _)⟩
    | dct ks ds =>
      obtain ⟨kvs, h1, h2, h3⟩ := this
      exact ⟨kvs, h1, h2, h3.up sub (fun _ _ => rfl) (Nat.le_refl _)⟩
    | dead => trivial
  · have q : G a = some o := q
    have e : a ≠ p := fun e => by
      rw [e, gp] at q
      cases q
    exact h.held a o (by show upd G p u a = some o; rw [upd_ne e]; exact q)
  · have q : G a = some o := q
    have e : a ≠ p := fun e => by
      rw [e, gp] at q
      cases q
    show upd F p u a = none
    rw [upd_ne e]
    exact h.hF a o (by show upd G p u a = some o; rw [upd_ne e]; exact q)
  · have := h.hr c o hc nd
    have this : upd G p u (r c) = none := this
    rw [upd_ne (ne c o hc nd)] at this
    exact this
  · have q : upd F p u a = some (.tbl ps) := q
    by_cases e : a = p
    · subst e
      rw [upd_same] at q
      cases q
      rcases h.gls a _ upd_same with ⟨vs, e⟩ | ⟨vs, e⟩ <;> cases e
    · rw [upd_ne e] at q
      exact h.ftb a ps q
  · have q : G a = some o := q
    have e : a ≠ p := fun e => by
      rw [e, gp] at q
      cases q
    exact h.gls a o (by show upd G p u a = _; rw [upd_ne e]; exact q)
/-- a held object is a cell from now on -/
theorem SR.cellG {F : Hp} {r : Nat → Addr} {G : Hp} {p : Addr} {u : HO} {o : O} (h : SR K cl base ⟨F, r, upd G p u⟩ st H) (gp : G p = none) (ho : ∀ H', H' p = some u → OR K cl ⟨F, r, G⟩ st.length H' p o) :
    SR K cl base (Wd.put ⟨F, r, G⟩ st.length p) (st ++ [o]) H := by
  have fp : F p = none := h.hF p u upd_same
  have ne : ∀ c v, st[c]? = some v → v ≠ .dead → r c ≠ p := fun c v hc nd e => by
    have : upd G p u (r c) = none := h.hr c v hc nd
    rw [e, upd_same] at this
    cases this
  have hp : H p = some u := h.held p u upd_same
  have l := Wd.put_le ⟨F, r, G⟩ st.length p
  have rc : ∀ c, c < st.length → (Wd.put ⟨F, r, G⟩ st.length p).r c = r c := l.at_
  have rn : (Wd.put ⟨F, r, G⟩ st.length p).r st.length = p := Wd.put_self _ _ _
  refine ⟨h.sub, fun c c' v v' hc nd hc' nd' e => ?_, fun c v q nd => ?_, fun c v hc nd => ?_, fun c v q => ?_, ?_, fun a v q => ?_, fun a v q => ?_, fun c v hc nd => ?_, h.tab, h.ftb, fun a o' q => ?_, base.mono (W := ⟨F, r, upd G p u⟩) l.sub l.at_ (by rw [List.length_append]; omega) h.inv⟩
  · rcases get_snoc hc with ⟨h1, q1⟩ | ⟨rfl, _⟩ <;> rcases get_snoc hc' with ⟨h2, q2⟩ | ⟨h2, _⟩
    · rw [rc c h1, rc c' h2] at e
      exact h.inj c c' _ _ q1 nd q2 nd' e
    · rw [h2, rn, rc c h1] at e
      exact absurd e (ne c _ q1 nd)
    · rw [rn, rc c' h2] at e
      exact absurd e.symm (ne c' _ q2 nd')
    · exact h2.symm
  · rcases get_snoc q with ⟨h1, q1⟩ | ⟨rfl, _⟩
    · rw [rc c h1]
      exact h.apart c v q1 nd
    · rw [rn]
      exact fp
  · rcases get_snoc hc with ⟨h1, q1⟩ | ⟨rfl, _⟩
    · rw [rc c h1]
      exact h.trk c v q1 nd
    · rw [rn]
      exact ⟨u, hp⟩
  · rcases get_snoc q with ⟨h1, q1⟩ | ⟨rfl, rfl⟩
    · rw [rc c h1]
      have lv : lvl base st.length c ≤ lvl base (st ++ [o]).length c := by
        unfold lvl
        rw [List.length_append]
        split <;> omega
      exact (OR.anyG (G := G) (h.cell c v q1)).up ⟨l.sub, fun d hd => l.at_ d (Nat.lt_of_lt_of_le hd (lvl_le h.ge)), rfl⟩ lv
    · rw [rn]
      have : ¬ st.length < base.b := Nat.not_lt.mpr h.ge
      unfold lvl
      rw [if_neg this, List.length_append]
      exact (ho H hp).up l (Nat.le_add_right _ _)
  · rw [List.length_append]
    exact Nat.le_trans h.ge (Nat.le_add_right _ _)
  · have q : G a = some v := q
    have e : a ≠ p := fun e => by
      rw [e, gp] at q
      cases q
    exact h.held a v (by show upd G p u a = some v; rw [upd_ne e]; exact q)
  · have q : G a = some v := q
    have e : a ≠ p := fun e => by
      rw [e, gp] at q
      cases q
    exact h.hF a v (by show upd G p u a = some v; rw [upd_ne e]; exact q)
  · show G _ = none
    rcases get_snoc hc with ⟨h1, q1⟩ | ⟨rfl, _⟩
    · rw [rc c h1]
      have : upd G p u (r c) = none := h.hr c v q1 nd
      rw [upd_ne (ne c v q1 nd)] at this
      exact this
    · rw [rn]
      exact gp
  · have q : G a = some o' := q
    have e : a ≠ p := fun e => by
      rw [e, gp] at q
      cases q
    exact h.gls a o' (by show upd G p u a = _; rw [upd_ne e]; exact q)
end
end Itp
namespace Itp
open L2 PySem.Spec PyProof.Rows PySem
def WF : WX := fun _ _ _ _ => False
theorem compD_noexc {f : D → Sto → Out (Option D)} : ∀ {ds : List D} {st s : Sto} {n : Nat}, compD f ds st ≠ .exc n s
  | [], _, _, _, h => by cases h
  | d :: ds, st, s, n, h => by
    rw [compD] at h
    cases e : f d st with
    | ok r s1 =>
      rw [e] at h
      simp only at h
      cases e2 : compD f ds s1 with
      | ok ys s2 =>
        rw [e2] at h
        cases h
      | exc m s2 => exact compD_noexc e2
      | bad =>
        rw [e2] at h
        cases h
    | exc m s1 =>
      rw [e] at h
      cases h
    | bad =>
      rw [e] at h
      cases h
theorem wipe_get {σ : L2.St} : ∀ {vs : List Nat} {i : Nat}, (L2.wipe σ vs)[i]? = if i ∈ vs then (if i < σ.length then some none else none) else σ[i]?
  | [], i => by simp [L2.wipe]
  | v :: vs, i => by
    show ((L2.wipe σ vs).set v none)[i]? = _
    rw [List.getElem?_set]
    have hl : ∀ vs : List Nat, (L2.wipe σ vs).length = σ.length := by
      intro vs
      induction vs with
      | nil => rfl
      | cons v vs ih =>
        show ((L2.wipe σ vs).set v none).length = _
        rw [List.length_set, ih]
    by_cases e : v = i
    · subst e
      rw [if_pos rfl, hl, if_pos (List.mem_cons_self)]
    · rw [if_neg e, wipe_get]
      have : (i ∈ v :: vs) = (i ∈ vs) := by simp [Ne.symm e]
      simp only [this]
theorem wipe_len {σ : L2.St} : ∀ (vs : List Nat), (L2.wipe σ vs).length = σ.length := by
  intro vs
  induction vs with
  | nil => rfl
  | cons v vs ih =>
    show ((L2.wipe σ vs).set v none).length = _
    rw [List.length_set, ih]
theorem wipe_same {σ σ2 : L2.St} {sl vs : List Nat} (h : Same sl (L2.wipe σ vs) σ2) (hs : ∀ i ∈ sl, i ∈ vs) : L2.wipe σ2 vs = L2.wipe σ vs := by
  apply List.ext_getElem?
  intro i
  rw [wipe_get, wipe_get, h.1, wipe_len]
  by_cases e : i ∈ vs
  · rw [if_pos e, if_pos e]
  · rw [if_neg e, if_neg e, h.2 i fun m => e (hs i m), wipe_get, if_neg e]
/-- one turn of a comprehension -/
def turnD (tg : Tg) (own : List Nat) (fc : Env → Sto → Out Bool) (fe : Env → Sto → Out D) (env : Env) : D → Sto → Out (Option D) := fun d st =>
  match bnd tg d (wipeD env own) with
  | some env1 => (fc env1 st).bind fun k st => if k then (fe env1 st).bind fun y st => .ok (some y) st else .ok none st
  | none => .bad
def endC (m : Bool) (ys : List D) (st : Sto) : Out D := if lim ys.length then (if m then .ok (.obj st.length) (st ++ [.lst ys]) else .ok (.lst ys) st) else .bad
def compF (m : Bool) (own : List Nat) (tg : Tg) (ik : IK) (fs : Env → Sto → Out (List D)) (fc : Env → Sto → Out Bool) (fe : Env → Sto → Out D) : Env → Sto → Out D := fun env st =>
  (fs env st).bind fun vs st => match items ik vs with
    | some xs => (compD (turnD tg own fc fe env) xs st).bind fun ys st => endC m ys st
    | none => .bad
section
variable {X : Cx} {cl : Nat → Addr} {base : Lv} {Wx : WX}
/-- what is wanted of the turns that are left, `done` being in the list already -/
def Left (K : PySem.W.Frag) (cl : Nat → Addr) (base : Lv) (W0 : Wd) (n0 : Nat) (σ : L2.St) (m : Bool) (Q : VK) (done : List D) (r : Out (List D)) : Prop :=
  match r with
  | .ok ys st => Post (relD K cl) K cl base WF W0 n0 σ (endC m (done ++ ys) st) Q
  | _ => False
theorem lc_imp {m : Bool} {own : List Nat} {tg : Tg} {ik : IK} {fs : Env → Sto → Out (List D)} {fc : Env → Sto → Out Bool} {fe : Env → Sto → Out D} (hs : ∀ i ∈ tg.slots, i ∈ own) {σ : L2.St} {H : Hp} {Q : VK}
    (h : tD X.K cl base Wx (compF m own tg ik fs fc fe) σ H Q) :
    tLc (tI X.K cl base Wx ik fs) (gD X.K cl base tg.slots (bnd tg)) (tB X.K cl base WF fc) (tD X.K cl base WF fe) own σ H Q := by
  obtain ⟨W, env, st, sr, er, p⟩ := h
  refine ⟨W, env, st, sr, er, ?_⟩
  unfold compF at p
  cases e : fs env st with
  | bad =>
    rw [e] at p
    exact p
  | exc n s1 =>
    rw [e] at p
    exact p
  | ok ds st1 =>
    rw [e] at p
    simp only [Out.bind] at p ⊢
    cases e2 : items ik ds with
    | none =>
      rw [e2] at p
      exact p
    | some xs =>
      rw [e2] at p
      simp only at p ⊢
      intro W1 H1 l1 le1 sr1 J wk D hD
      obtain ⟨G, Y, wk, wg, wy⟩ := wk
      have gD0 : W1.G D = none := by
        cases q : W1.G D with
        | none => rfl
        | some u =>
          rw [sr1.held D u q] at hD
          cases hD
      -- what stands behind i turns
      refine lc_it wk (fun i H => ∃ W2 st2 acc done, Lx st1.length W1 W2 ∧ st1.length ≤ st2.length ∧ W2.G = upd W1.G D (.lst acc) ∧ SR X.K cl base W2 st2 H ∧ RpL X.K cl W2.F W2.r st2.length acc done ∧
        Left X.K cl base W1 st1.length σ m Q done (compD (turnD tg own fc fe env) (xs.drop i) st2)) ?_ ?_ ?_ ?_
      · refine ⟨⟨W1.F, W1.r, upd W1.G D (.lst [])⟩, st1, [], [], ⟨fun _ _ h => h, fun _ _ => rfl⟩, Nat.le_refl _, rfl, sr1.hold hD, .nil, ?_⟩
        rw [List.drop_zero]
        have p := Post.mono p l1 le1
        cases e3 : compD (turnD tg own fc fe env) xs st1 with
        | ok ys s2 =>
          rw [e3] at p
          simp only at p
          show Post (relD X.K cl) X.K cl base WF W1 st1.length σ (endC m ([] ++ ys) s2) Q
          rw [List.nil_append]
          unfold endC at p ⊢
          by_cases hl : lim ys.length = true
          · rw [if_pos hl] at p ⊢
            cases m <;> exact p
          · rw [if_neg hl] at p
            exact p.elim
        | exc n s2 => exact absurd e3 compD_noexc
        | bad =>
          rw [e3] at p
          exact p
      · rintro i H hi ⟨W2, st2, acc, done, lx, le, hg, sr2, _, _⟩
        exact wg _ _ _ _ lx le sr2
      · rintro i x H2 H3 hi ⟨W2, st2, acc, done, lx, le, hg, sr2, racc, lft⟩ y
        have hx : xs[i]? = some xs[i] := List.getElem?_eq_getElem hi
        obtain ⟨W3, l3, sr3, rx⟩ := wy i _ _ _ _ _ _ _ hx lx le sr2 y
        have dr : xs.drop i = xs[i] :: xs.drop (i + 1) := List.drop_eq_getElem_cons hi
        rw [dr, compD] at lft
        cases e3 : turnD tg own fc fe env xs[i] st2 with
        | bad =>
          rw [e3] at lft
          exact lft.elim
        | exc n s =>
          rw [e3] at lft
          exact lft.elim
        | ok rr s4 =>
          rw [e3] at lft
          unfold turnD at e3
          cases e4 : bnd tg xs[i] (wipeD env own) with
          | none =>
            rw [e4] at e3
            cases e3
          | some env1 =>
            rw [e4] at e3
            simp only at e3 lft
            have er3 : EnvR X.K cl W3 st2.length env σ := ⟨er.1, fun j d q => by
              obtain ⟨v, h1, h2⟩ := er.2 j d q
              exact ⟨v, h1, ((h2.up' l1 le1).up lx.sub lx.at_ le).up' l3 (Nat.le_refl _)⟩⟩
            refine ⟨W3, wipeD env own, st2, xs[i], env1, sr3, er3.wipe own, rx, e4, fun σ2 er2 same => ⟨wipe_same same hs, W3, env1, st2, sr3, er2, ?_⟩⟩
            obtain ⟨k, s5, e5, e6⟩ := bind_ok e3
            rw [e5]
            intro W4 H4 b l4 le4 sr4 rb
            cases rb
            cases k with
            | false =>
              rw [if_neg (by simp)]
              simp only [Bool.false_eq_true, if_false] at e6
              cases e6
              have lx4 : Lx st1.length W1 W4 := (lx.trans l3.x le).trans l4.x le
              refine ⟨W4, s4, acc, done, lx4, Nat.le_trans le le4, by rw [l4.g, l3.g, hg], sr4, (racc.up' l3 (Nat.le_refl _)).up' l4 le4, ?_⟩
              cases e7 : compD (turnD tg own fc fe env) (xs.drop (i + 1)) s4 with
              | ok ys s7 =>
                rw [e7] at lft
                exact lft
              | exc n s7 => exact absurd e7 compD_noexc
              | bad =>
                rw [e7] at lft
                exact lft
            | true =>
              rw [if_pos rfl]
              simp only [if_true] at e6
              refine ⟨W4, env1, s5, sr4, er2.up l4 le4, ?_⟩
              obtain ⟨yd, s6, e7, e8⟩ := bind_ok e6
              cases e8
              rw [e7]
              intro W5 H5 yv l5 le5 sr5 ry
              have hg5 : W5.G = upd W1.G D (.lst acc) := by rw [l5.g, l4.g, l3.g, hg]
              have hD5 : H5 D = some (.lst acc) := sr5.held D _ (by rw [hg5, upd_same])
              have lx5 : Lx st1.length W1 W5 := ((lx.trans l3.x le).trans l4.x le).trans l5.x (Nat.le_trans le le4)
              have ra5 : RpL X.K cl W5.F W5.r s4.length acc done := ((racc.up' l3 (Nat.le_refl _)).up' l4 le4).up' l5 le5
              obtain ⟨F5, r5, G5⟩ := W5
              cases (hg5 : G5 = _)
              refine ⟨acc, hD5, ?_, ⟨F5, r5, upd W1.G D (.lst (acc ++ [yv]))⟩, s4, acc ++ [yv], done ++ [yd], ⟨lx5.sub, lx5.at_⟩, Nat.le_trans le (Nat.le_trans le4 le5), rfl, sr5.rehold, ra5.append (.cons ry .nil), ?_⟩
              · cases e7 : compD (turnD tg own fc fe env) (xs.drop (i + 1)) s4 with
                | ok ys s7 =>
                  rw [e7] at lft
                  have lft : Post (relD X.K cl) X.K cl base WF W1 st1.length σ (endC m (done ++ yd :: ys) s7) Q := lft
                  unfold endC at lft
                  by_cases hl : lim (done ++ yd :: ys).length = true
                  · have := limE hl
                    rw [List.length_append, List.length_cons] at this
                    rw [ra5.length]
                    omega
                  · rw [if_neg hl] at lft
                    exact lft.elim
                | exc n s7 => exact absurd e7 compD_noexc
                | bad =>
                  rw [e7] at lft
                  exact lft.elim
              · cases e7 : compD (turnD tg own fc fe env) (xs.drop (i + 1)) s4 with
                | ok ys s7 =>
                  rw [e7] at lft
                  have lft : Post (relD X.K cl) X.K cl base WF W1 st1.length σ (endC m (done ++ yd :: ys) s7) Q := lft
                  show Post (relD X.K cl) X.K cl base WF W1 st1.length σ (endC m ((done ++ [yd]) ++ ys) s7) Q
                  rw [List.append_assoc]
                  exact lft
                | exc n s7 => exact absurd e7 compD_noexc
                | bad =>
                  rw [e7] at lft
                  exact lft.elim
      · rintro H2 ⟨W2, st2, acc, done, lx, le, hg, sr2, racc, lft⟩
        rw [List.drop_length, compD] at lft
        have lft : Post (relD X.K cl) X.K cl base WF W1 st1.length σ (endC m (done ++ []) st2) Q := lft
        rw [List.append_nil] at lft
        obtain ⟨F2, r2, G2⟩ := W2
        cases (hg : G2 = _)
        unfold endC at lft
        by_cases hl : lim done.length = true
        · rw [if_pos hl] at lft
          cases m with
          | true =>
            have s3 := sr2.cellG (o := .lst done) gD0 fun H' q => ⟨acc, q, racc⟩
            have lp := Wd.put_le ⟨F2, r2, W1.G⟩ st2.length D
            refine lft (Wd.put ⟨F2, r2, W1.G⟩ st2.length D) H2 (.ref D) ⟨lx.sub, fun c hc => (lp.at_ c (Nat.lt_of_lt_of_le hc le)).trans (lx.at_ c hc), rfl⟩ (by rw [List.length_append]; exact Nat.le_trans le (Nat.le_add_right _ _)) s3 ?_
            have : Rp X.K cl F2 (Wd.put ⟨F2, r2, W1.G⟩ st2.length D).r (st2 ++ [O.lst done]).length (.ref ((Wd.put ⟨F2, r2, W1.G⟩ st2.length D).r st2.length)) (.obj st2.length) := .obj _ (by simp)
            rw [Wd.put_self] at this
            exact this
          | false =>
            have s3 := sr2.give gD0
            have sub : ∀ a o, F2 a = some o → upd F2 D (.lst acc) a = some o := fun a o q => by
              have : a ≠ D := fun e => by
                rw [e] at q
                have := sr2.hF D _ upd_same
                rw [show F2 D = none from this] at q
                cases q
              rw [upd_ne this]
              exact q
            refine lft ⟨upd F2 D (.lst acc), r2, W1.G⟩ H2 (.ref D) ⟨fun a o q => sub a o (lx.sub a o q), lx.at_, rfl⟩ le s3 ?_
            exact .lst (SqL.of upd_same) (racc.up sub (fun _ _ => rfl) (Nat.le_refl _))
        · rw [if_neg hl] at lft
          exact lft.elim
end
end Itp
namespace Itp
open L2 PySem.Spec PyProof.Rows PySem
section
variable {X : Cx} {cl : Nat → Addr} {base : Lv} {Wx : WX} {f : Env → Sto → Out D}
theorem pts_nilD {X : Cx} : PTs X [] (tB X.K cl base Wx fun _ st => .ok true st) := by
  refine ⟨fun pins s σ H Q I h => (pts_nil (X := X)).run pins s σ H Q I ?_⟩
  obtain ⟨W, env, st, sr, er, p⟩ := h
  exact p W H true (Le.refl _ _) (Nat.le_refl _) sr rfl
theorem pts_oneD {X : Cx} {c : Expr} (h : PT X c (tB X.K cl base Wx (tst f))) : PTs X [c] (tB X.K cl base Wx (tst f)) := pts_one h
theorem pe_compD {elt tgE iter : Expr} {ifs : List Expr} {scope : Scope} {own : List (Str × Nat)} {pos : Pos} {m : Bool} {tg : Tg} {ik : IK} {fs : Env → Sto → Out (List D)} {fc : Env → Sto → Out Bool} {fe : Env → Sto → Out D}
    (hc : X.calm = true) (nd : X.N.Nodup) (hi : PI X tgE iter (tI X.K cl base Wx ik fs)) (hb : BlkOk X.N X.env.scope scope own) (hs : ∀ i ∈ tg.slots, i ∈ own.map (·.2))
    (ht : tgOk X.N (L2.relS scope X.env.scope) (fun x => List.lookup x scope.names == some .cell) tg tgE = true)
    (hcc : ∀ (s : Shared) (H : Hp) (C : Addr) (cs : List (Str × Addr)) (fp : List Addr), PTs (X.blk s H scope (compEnvC scope cs C X.env) fp) ifs (tB X.K cl base WF fc))
    (he : ∀ (s : Shared) (H : Hp) (C : Addr) (cs : List (Str × Addr)) (fp : List Addr), PE (X.blk s H scope (compEnvC scope cs C X.env) fp) elt (tD X.K cl base WF fe))
    (hf : ∀ x, foldedSetIterable iter X.env x = pure x) :
    PE X (.ListComp elt [⟨tgE, iter, ifs, 0⟩] scope pos) (tD X.K cl base Wx (compF m (own.map (·.2)) tg ik fs fc fe)) :=
  Itp.PE.imp (pe_lc hc nd hi hb (fun s H C cs fp => pg_bnd (X := X.blk s H scope (compEnvC scope cs C X.env) fp) (cl := cl) (base := base) hc nd ht) hcc he hf) fun σ H Q h => lc_imp hs h
theorem ps_setCompD {i : Nat} {y : Str} {py spos : Pos} {elt tgE iter : Expr} {ifs : List Expr} {scope : Scope} {own : List (Str × Nat)} {pos : Pos} {m : Bool} {tg : Tg} {ik : IK} {fs : Env → Sto → Out (List D)} {fc : Env → Sto → Out Bool} {fe : Env → Sto → Out D}
    (hc : X.calm = true) (nd : X.N.Nodup) (hy : X.N[i]? = some y) (hl : List.lookup y X.env.scope.names = some .local) (hw : swapsWith (.ListComp elt [⟨tgE, iter, ifs, 0⟩] scope pos) (some (.Name y py)) spos.line X.env = pure true)
    (hi : PI X tgE iter (tI X.K cl base Wx ik fs)) (hb : BlkOk X.N X.env.scope scope own) (hs : ∀ i ∈ tg.slots, i ∈ own.map (·.2))
    (ht : tgOk X.N (L2.relS scope X.env.scope) (fun x => List.lookup x scope.names == some .cell) tg tgE = true)
    (hcc : ∀ (s : Shared) (H : Hp) (C : Addr) (cs : List (Str × Addr)) (fp : List Addr), PTs (X.blk s H scope (compEnvC scope cs C X.env) fp) ifs (tB X.K cl base WF fc))
    (he : ∀ (s : Shared) (H : Hp) (C : Addr) (cs : List (Str × Addr)) (fp : List Addr), PE (X.blk s H scope (compEnvC scope cs C X.env) fp) elt (tD X.K cl base WF fe))
    (hf : ∀ x, foldedSetIterable iter X.env x = pure x) :
    PS X (.Assign [.Name y py] (.ListComp elt [⟨tgE, iter, ifs, 0⟩] scope pos) spos) (tS X.K cl base Wx fun env st => (compF m (own.map (·.2)) tg ik fs fc fe env st).thenS env fun d st => .of st (put env i d)) :=
  PS.imp (ps_setLc (i := i) hc nd hy hl hw hi hb (fun s H C cs fp => pg_bnd (X := X.blk s H scope (compEnvC scope cs C X.env) fp) (cl := cl) (base := base) hc nd ht) hcc he hf) fun D σ H h => set_imp h fun _ _ _ q => lc_imp hs q
/-! ### for -/
def turnS (tg : Tg) (fb : Env → Sto → OutS) : D → Env → Sto → OutS := fun d env st =>
  match bnd tg d env with
  | some env1 => fb env1 st
  | none => .bad
def forF (tg : Tg) (ik : IK) (fs : Env → Sto → Out (List D)) (fb : Env → Sto → OutS) : Env → Sto → OutS := fun env st =>
  (fs env st).thenS env fun vs st => match items ik vs with
    | some xs => forD (turnS tg fb) xs env st
    | none => .bad
theorem ps_forDD {tgE iter : Expr} {body : List Stmt} {pos : Pos} {tg : Tg} {ik : IK} {fs : Env → Sto → Out (List D)} {fb : Env → Sto → OutS} (hp : PassesOwn (model X.prog X.w) X.A X.env X.xe) (hc : X.calm = true) (nd : X.N.Nodup)
    (hi : PI X tgE iter (tI X.K cl base Wx ik fs)) (ht : tgOk X.N X.env.scope X.fn tg tgE = true) (hb : PSs X body (tS X.K cl base Wx fb)) (hf : ∀ x, foldedSetIterable iter X.env x = pure x) :
    PS X (.For tgE iter body [] pos) (tS X.K cl base Wx (forF tg ik fs fb)) := by
  refine PS.imp (ps_for hp hc hi (pg_bnd (cl := cl) (base := base) hc nd ht) hb hf) fun E σ H h => ?_
  obtain ⟨W, env, st, sr, er, p⟩ := h
  refine ⟨W, env, st, sr, er, ?_⟩
  unfold forF at p
  cases e : fs env st with
  | bad =>
    rw [e] at p
    exact p
  | exc n s1 =>
    rw [e] at p
    exact fun W1 H1 l1 le1 sr1 => p W1 H1 σ l1 le1 sr1 (er.up l1 le1)
  | ok ds st1 =>
    rw [e] at p
    simp only [Out.thenS] at p ⊢
    cases e2 : items ik ds with
    | none =>
      rw [e2] at p
      exact p
    | some xs =>
      rw [e2] at p
      simp only at p ⊢
      intro W1 H1 l1 le1 sr1 J wk
      obtain ⟨G, Y, wk, wg, wy⟩ := wk
      refine for_it wk (fun i σ H => ∃ W2 env2 st2, Le st1.length W1 W2 ∧ st1.length ≤ st2.length ∧ SR X.K cl base W2 st2 H ∧ EnvR X.K cl W2 st2.length env2 σ ∧ PostS X.K cl base Wx W2 st2.length (forD (turnS tg fb) (xs.drop i) env2 st2) E) ?_ ?_ ?_ ?_
      · refine ⟨W1, env, st1, Le.refl _ _, Nat.le_refl _, sr1, er.up l1 le1, ?_⟩
        rw [List.drop_zero]
        exact PostS.mono p l1 le1
      · rintro i σ H hi ⟨W2, env2, st2, l2, le2, sr2, _, _⟩
        exact wg _ _ _ _ l2.x le2 sr2
      · rintro i x σ1 H2 H3 hi ⟨W2, env2, st2, l2, le2, sr2, er2, p2⟩ y
        have hx : xs[i]? = some xs[i] := List.getElem?_eq_getElem hi
        obtain ⟨W3, l3, sr3, rx⟩ := wy i _ _ _ _ _ _ _ hx l2.x le2 sr2 y
        rw [List.drop_eq_getElem_cons hi, forD] at p2
        have p3 := PostS.mono p2 l3 (Nat.le_refl _)
        cases e4 : bnd tg xs[i] env2 with
        | none =>
          have : turnS tg fb xs[i] env2 st2 = .bad := by
            unfold turnS
            rw [e4]
          rw [this] at p3
          exact p3.elim
        | some env3 =>
          have et : turnS tg fb xs[i] env2 st2 = fb env3 st2 := by
            unfold turnS
            rw [e4]
          rw [et] at p3
          refine ⟨W3, env2, st2, xs[i], env3, sr3, er2.up l3 (Nat.le_refl _), rx, e4, fun σ2 er3 _ => ⟨W3, env3, st2, sr3, er3, ?_⟩⟩
          have l13 : Le st1.length W1 W3 := l2.trans l3 le2
          cases e5 : fb env3 st2 with
          | nx e1 s2 =>
            rw [e5] at p3
            exact fun W4 H4 σ4 l4 le4 sr4 er4 => ⟨W4, e1, s2, l13.trans l4 le2, Nat.le_trans le2 le4, sr4, er4, PostS.mono p3 l4 le4⟩
          | ct e1 s2 =>
            rw [e5] at p3
            exact fun W4 H4 σ4 l4 le4 sr4 er4 => ⟨W4, e1, s2, l13.trans l4 le2, Nat.le_trans le2 le4, sr4, er4, PostS.mono p3 l4 le4⟩
          | _ =>
            rw [e5] at p3
            exact p3
      · rintro σ1 H2 ⟨W2, env2, st2, l2, le2, sr2, er2, p2⟩
        rw [List.drop_length, forD] at p2
        exact p2 W2 H2 σ1 (Le.refl _ _) (Nat.le_refl _) sr2 er2
end
end Itp
namespace Itp
open L2 PySem.Spec PyProof.Rows PySem
section
variable {X : Cx} {cl : Nat → Addr} {base : Lv} {Wx : WX} {f g k : Env → Sto → Out D} {a b c : Expr} {pos : Pos}
/-! ### x op= y -/
theorem mulE {i j : Int} (h : mulOk i j = true) : IntMulOk i j := (mul_wide h).elim (fun q => q.ok) fun q => q.ok
theorem ip_d {o : Bop} : PIp X o.op fun x y H Q => ∃ dx dy d, Rp X.K cl (fun _ => none) (fun _ => 0) 0 x dx ∧ Rp X.K cl (fun _ => none) (fun _ => 0) 0 y dy ∧ augop o dx dy = some d ∧ ∀ v, Rp X.K cl (fun _ => none) (fun _ => 0) 0 v d → Q v H := by
  intro pins s σ H x y v u Q I rx ry h
  obtain ⟨dx, dy, d, r1, r2, e, q⟩ := h
  cases dx <;> cases dy <;> cases o <;> simp only [augop, reduceCtorEq] at e
  all_goals
    cases r1
    cases r2
    obtain ⟨t, rfl⟩ := rx
    obtain ⟨t', rfl⟩ := ry
    simp only [binop] at e
  · cases e
    exact iadd_int ⟨.int _, H, I.tok _, ⟨_, rfl⟩, q _ (.int _)⟩
  · cases e
    exact isub_int ⟨.int _, H, I.tok _, ⟨_, rfl⟩, q _ (.int _)⟩
  · split at e
    · rename_i hm
      cases e
      exact imul_int ⟨.int _, H, I.tok _, ⟨_, rfl⟩, q _ (.int _)⟩ (mulE hm)
    · cases e
  · split at e
    · rename_i hm
      cases e
      unfold divOk at hm
      simp only [Bool.and_eq_true, decide_eq_true_eq] at hm
      exact ifloordiv_int hm.1 ⟨.int _, H, I.tok _, ⟨_, rfl⟩, q _ (.int _)⟩ (.inl (PyProof.noPylong_of_log2 hm.2))
    · cases e
  · split at e
    · rename_i hm
      cases e
      exact imod_int (of_decide_eq_true hm) ⟨.int _, H, I.tok _, ⟨_, rfl⟩, q _ (.int _)⟩
    · cases e
theorem aug_int {o : Bop} {x y z : D} (h : augop o x y = some z) : ∃ i j n, x = .int i ∧ y = .int j ∧ z = .int n := by
  cases x <;> cases y <;> cases o <;> simp only [augop, binop, reduceCtorEq] at h
  · cases h
    exact ⟨_, _, _, rfl, rfl, rfl⟩
  · cases h
    exact ⟨_, _, _, rfl, rfl, rfl⟩
  all_goals
    split at h
    · cases h
      exact ⟨_, _, _, rfl, rfl, rfl⟩
    · cases h
theorem ps_augD {i : Nat} {x : Str} {p : Pos} {o : Bop} (nd : X.N.Nodup) (hx : X.N[i]? = some x) (hl : L2.Loc X.env.scope x) (ha : PE X a (tD X.K cl base Wx f)) (h2 : X.fn x = true ∨ List.lookup x X.env.scope.names = some .local) :
    PS X (.AugAssign (.Name x p) o.op a pos) (tS X.K cl base Wx fun env st => match env[i]? with
    | some (some x) => (f env st).thenS env fun y st => match augop o x y with
      | some z => .of st (put env i z)
      | none => .bad
    | _ => .bad) := by
  refine PS.imp (ps_aug (i := i) nd hx hl ha (ip_d (cl := cl) (o := o)) h2) fun E σ H h => ?_
  obtain ⟨W, env, st, sr, er, p⟩ := h
  simp only at p
  split at p
  · rename_i x e
    obtain ⟨v, h1, h2⟩ := er.2 i x e
    refine ⟨v, h1, W, env, st, sr, er, p.thenS er fun W1 H1 st1 d1 v1 e1 l1 le1 sr1 rp1 p1 => ?_⟩
    cases e2 : augop o x d1 with
    | none =>
      rw [e2] at p1
      exact (show False from p1).elim
    | some z =>
      rw [e2] at p1
      obtain ⟨e', he, q⟩ := PostS.of p1
      unfold put at he
      split at he
      · cases he
        obtain ⟨i1, j1, n, rfl, rfl, rfl⟩ := aug_int e2
        cases h2
        cases rp1
        refine ⟨_, _, _, .int _, .int _, e2, fun v rv => ?_⟩
        cases rv
        exact q W1 H1 _ (Le.refl _ _) sr1 ((er.up l1 le1).set (.int _))
      · cases he
  · exact p.elim
end
end Itp
namespace Itp
open L2 PySem.Spec PyProof.Rows PySem
section
variable {X : Cx} {cl : Nat → Addr} {base : Lv} {Wx : WX} {f g k : Env → Sto → Out D} {a b c : Expr} {pos : Pos}
def setF (bb : Nat) (fv fo fk : Env → Sto → Out D) : Env → Sto → OutS := fun env st =>
  (fv env st).thenS env fun d st => (fo env st).thenS env fun x st => (fk env st).thenS env fun y st => match setop bb x y d st with
    | some st => .nx env st
    | none => .bad
theorem set_fact {bb : Nat} {x y d : D} {st st2 : Sto} (h : setop bb x y d st = some st2) : (∃ c ds i j, x = .obj c ∧ y = .int i ∧ st[c]? = some (.lst ds) ∧ ixN ds.length i = some j ∧ canPut bb c d = true ∧ st2 = st.set c (.lst (ds.set j d))) ∨
    ∃ c ks ds k, x = .obj c ∧ keyOf y = some k ∧ st[c]? = some (.dct ks ds) ∧ canPut bb c d = true ∧ ks.length < sizeLine ∧ st2 = st.set c (.dct (setKs ks k) (setVs ks ds k d)) := by
  unfold setop at h
  split at h
  · rename_i c
    split at h
    · rename_i ds e
      split at h
      · rename_i i
        split at h
        · rename_i j e2
          split at h
          · rename_i e3
            cases h
            exact .inl ⟨_, _, _, _, rfl, rfl, e, e2, e3, rfl⟩
          · cases h
        · cases h
      · cases h
    · rename_i ks ds e
      split at h
      · rename_i k e1
        split at h
        · rename_i e3
          simp only [Bool.and_eq_true, decide_eq_true_eq] at e3
          cases h
          exact .inr ⟨_, _, _, _, rfl, e1, e, e3.1, e3.2, rfl⟩
        · cases h
      · cases h
    · cases h
  · cases h
theorem any_mem (k : Key) (kvs : List (Key × V)) : (kvs.any fun kv => decide (kv.1 = k)) = hasKey (kvs.map (·.1)) k := by
  unfold hasKey
  rw [List.any_map]
  rfl
theorem put_keys (k : Key) (v : V) (kvs : List (Key × V)) : (putK kvs k v).map (·.1) = setKs (kvs.map (·.1)) k := by
  unfold putK setKs
  simp only [any_mem]
  split
  · rw [List.map_map]
    refine List.map_congr_left fun p hp => ?_
    simp only [Function.comp]
    split <;> rfl
  · rw [List.map_append]
    rfl
theorem put_in {K : PySem.W.Frag} {F : Hp} {r : Nat → Addr} {n : Nat} {k : Key} {v : V} {d : D} (rv : Rp K cl F r n v d) : ∀ (kvs : List (Key × V)) {ds : List D}, RpL K cl F r n (kvs.map (·.2)) ds → RpL K cl F r n ((kvs.map (fun kv => if kv.1 = k then (kv.1, v) else kv)).map (·.2)) (setDs (kvs.map (·.1)) ds k d)
  | [], _, h => by
    cases h
    exact .nil
  | p :: kvs, _, h => by
    rw [List.map_cons] at h
    cases h with
    | cons h hs =>
      rw [List.map_cons, List.map_cons, List.map_cons, setDs]
      refine .cons ?_ (put_in rv kvs hs)
      by_cases e : p.1 = k
      · rw [if_pos e, if_pos e]
        exact rv
      · rw [if_neg e, if_neg e]
        exact h
theorem put_vals {K : PySem.W.Frag} {F : Hp} {r : Nat → Addr} {n : Nat} {k : Key} {v : V} {d : D} (rv : Rp K cl F r n v d) (kvs : List (Key × V)) {ds : List D} (h : RpL K cl F r n (kvs.map (·.2)) ds) : RpL K cl F r n ((putK kvs k v).map (·.2)) (setVs (kvs.map (·.1)) ds k d) := by
  unfold putK setVs
  simp only [any_mem]
  split
  · exact put_in rv kvs h
  · rw [List.map_append]
    exact h.append (.cons rv .nil)
/-- o[k] = v of a list or a dict -/
def rSetA : TSet := fun o i v H Q => rSetL o i v H Q ∨ rSetD o i v H Q
theorem set_any (hu : X.A.units + 1 < cLine) : PSet X rSetA := by
  intro pins s σ H o i v ov iv u Q I ro ri rv h
  rcases h with h | h
  · exact set_list pins s σ H o i v ov iv u Q I ro ri rv h
  · exact set_dict hu pins s σ H o i v ov iv u Q I ro ri rv h
theorem ps_setIxD {o i : Expr} {p2 : Pos} (hu : X.A.units + 1 < cLine) (hv : PE X a (tD X.K cl base Wx f)) (ho : PE X o (tD X.K cl base Wx g)) (hi : PE X i (tD X.K cl base Wx k))
    (ha : ∀ v, assign (.Subscript o i p2) X.env v = do
        let ov ← holding [v] (eval o X.env)
        let iv ← holding [v, ov] (eval i X.env)
        standAt p2
        holding [v, ov, iv] (setItem ov iv v)
        release [v, ov, iv] [])
    (h1 : swapsWithSole [.Subscript o i p2] a pos.line X.env = pure false) (h2 : swappedStores [.Subscript o i p2] a X.env = pure none)
    (h3 : List.map (fun x => x.snd) (assignEach [.Subscript o i p2] X.env) = [assign (.Subscript o i p2) X.env]) :
    PS X (.Assign [.Subscript o i p2] a pos) (tS X.K cl base Wx (setF base.b f g k)) := by
  refine PS.imp (ps_asg hv (pg_sub ho hi (set_any (X := X) hu) ha) h1 h2 h3) fun E σ H h => ?_
  refine tS.imp h fun W env st sr er p => p.thenS er fun W1 H1 st1 d1 v1 e1 l1 le1 sr1 rp1 p1 => ?_
  have er1 := er.up l1 le1
  refine ⟨W1, env, st1, sr1, er1, p1.thenS er1 fun W2 H2 st2 d2 v2 e2 l2 le2 sr2 rp2 p2 => ?_⟩
  have er2 := er1.up l2 le2
  refine ⟨W2, env, st2, sr2, er2, p2.thenS er2 fun W3 H3 st3 d3 v3 e3 l3 le3 sr3 rp3 p3 => ?_⟩
  cases es : setop base.b d2 d3 d1 st3 with
  | none =>
    rw [es] at p3
    exact (show False from p3).elim
  | some st4 =>
    rw [es] at p3
    rcases set_fact es with ⟨c, ds, i, j, rfl, rfl, hc, hj, cp, rfl⟩ | ⟨c, ks, ds, kk, rfl, hk, hc, cp, hl, rfl⟩
    · have r2 := rp2.up' l3 le3
      cases rp3
      cases r2 with
      | obj c hlt =>
        obtain ⟨vs, hv, hr⟩ := sr3.cell c _ hc
        have rv := put_ok ((rp1.up' l2 le2).up' l3 le3) cp
        refine .inl ⟨W3.r c, vs, i, j, rfl, rfl, hv, by rw [hr.length]; exact hj, ?_⟩
        have sw := sr3.write (u := .lst (vs.set j v1)) (o' := .lst (ds.set j d1)) hc (by simp) (by simp) fun H' e => ⟨_, e, hr.set rv j⟩
        refine p3 W3 _ σ (Le.refl _ _) (by rw [List.length_set]; exact Nat.le_refl _) sw ?_
        rw [List.length_set]
        exact er2.up l3 le3
    · have r2 := rp2.up' l3 le3
      have ek : v3 = kV kk := by
        cases d3 <;> simp [keyOf] at hk
        · subst hk
          cases rp3
          rfl
        · subst hk
          cases rp3
          rfl
      cases r2 with
      | obj c hlt =>
        obtain ⟨kvs, hv, hks, hr⟩ := sr3.cell c _ hc
        have rv := put_ok ((rp1.up' l2 le2).up' l3 le3) cp
        subst hks ek
        refine .inr ⟨W3.r c, _, rfl, DPut.k hv (by simpa using hl), ?_⟩
        have sw := sr3.write (u := .dK (putK kvs kk v1)) (o' := .dct (setKs (kvs.map (·.1)) kk) (setVs (kvs.map (·.1)) ds kk d1)) hc (by simp) (by simp) fun H' e => ⟨_, e, put_keys _ _ _, put_vals rv _ hr⟩
        refine p3 W3 _ σ (Le.refl _ _) (by rw [List.length_set]; exact Nat.le_refl _) sw ?_
        rw [List.length_set]
        exact er2.up l3 le3
/-! ### append -/
theorem app_fact {bb : Nat} {x : D} {ds : List D} {st : Sto} {r : D × Sto} (h : mthop bb .append x ds st = some r) : ∃ c d es, x = .obj c ∧ ds = [d] ∧ st[c]? = some (.lst es) ∧ canPut bb c d = true ∧ es.length < sizeLine ∧ r = (.non, st.set c (.lst (es ++ [d]))) := by
  unfold mthop at h
  split at h
  · split at h
    · rename_i es e
      split at h
      · rename_i e2
        cases h
        simp only [Bool.and_eq_true, decide_eq_true_eq] at e2
        exact ⟨_, _, _, rfl, rfl, e, e2.1, e2.2, rfl⟩
      · cases h
    · cases h
  · cases h
def mthF (bb : Nat) (m : Mth) (fo : Env → Sto → Out D) (fs : Env → Sto → Out (List D)) : Env → Sto → Out D := fun env st =>
  (fo env st).bind fun x st => if mthTy m (view st x) then (fs env st).bind fun ds st => toOut (mthop bb m x ds st) else .bad
theorem pe_app {o e : Expr} {apos cpos : Pos} (ho : PE X o (tD X.K cl base Wx f)) (he : PE X e (tD X.K cl base Wx g))
    (h1 : attributeBase o (Str.ofString "append") X.env (eval o X.env) = eval o X.env)
    (h2 : ((((backTo cpos (starEach [e] X.env)).all fun x => !x.fst) && (backToKw cpos (keywordEach [] X.env)).all fun x => x.fst.isSome) && decide (([e]).length + ([] : List Keyword).length + (if ([] : List Keyword).isEmpty = true then 0 else 1) < 30)) = true)
    (h3 : (apos.endLine == cpos.line) = true) (ns : noStar [e] = true) :
    PE X (.Call (.Attribute o (Str.ofString "append") apos) [e] [] cpos) (tD X.K cl base Wx (mthF base.b .append f (evsF [g]))) := by
  refine Itp.PE.imp (pe_bm PySem.F.plainAttrs_list PySem.F.slot_list_append PySem.F.type_list_append mt_append ho (pa_es (.cons he .nil) ns) h1 h2 h3 (star_cons ns) (star_all (noStar_tail ns))) fun σ H Q h => ?_
  refine tP.imp h fun W env st sr er p => ?_
  unfold mthF at p
  refine p.bind fun W1 H1 st1 d1 v1 e1 l1 le1 sr1 rp1 p1 => ?_
  split at p1
  · rename_i ty
    have er1 := er.up l1 le1
    have tl : ∃ ds, view st1 d1 = .lst ds := by
      unfold mthTy at ty
      split at ty
      · rename_i q
        exact ⟨_, q⟩
      · cases ty
    obtain ⟨ds1, tl⟩ := tl
    have rv := view_rv sr1 rp1
    rw [tl] at rv
    obtain ⟨p0, vs0, rfl, hq, _⟩ := rv.lists sr1
    refine ⟨.inl ⟨rfl, _, hq⟩, W1, env, st1, sr1, er1, p1.bind fun W2 H2 st2 ds2 vs2 e2 l2 le2 sr2 rp2 p2 => ?_⟩
    cases em : mthop base.b .append d1 ds2 st2 with
    | none =>
      rw [em] at p2
      exact (show False from p2).elim
    | some r =>
      rw [em] at p2
      obtain ⟨c, d, es, rfl, rfl, hc, cp, hl, rfl⟩ := app_fact em
      have r1 := rp1.up' l2 le2
      cases rp2 with
      | cons rd rn =>
        cases rn
        rename_i v
        generalize hz : V.ref p0 = z at r1
        cases r1 with
        | obj c hlt =>
          cases hz
          obtain ⟨vs, hv, hr⟩ := sr2.cell c _ hc
          have rv := put_ok rd cp
          refine ⟨W2.r c, vs, v, rfl, rfl, hv, by rw [hr.length]; exact hl, ?_⟩
          have sw := sr2.write (u := .lst (vs ++ [v])) (o' := .lst (es ++ [d])) hc (by simp) (by simp) fun H' e => ⟨_, e, hr.append (.cons rv .nil)⟩
          exact p2 W2 _ _ (Le.refl _ _) (by rw [List.length_set]; exact Nat.le_refl _) sw .non
  · exact (show False from p1).elim
/-! ### a cell that stands still from now on -/
def frzF (bb i : Nat) (F : Env → Sto → OutS) : Env → Sto → OutS := fun env st => match env[i]? with
    | some (some (.obj c)) => if decide (bb ≤ c) then (match st[c]? with
      | some (.lst ds) => F (env.set i (some (.lst ds))) (st.set c .dead)
      | some (.dct ks ds) => F (env.set i (some (.dct ks ds))) (st.set c .dead)
      | _ => .bad) else .bad
    | _ => .bad
theorem SR.still {W : Wd} {st : Sto} {H : Hp} {c : Nat} {o : O} {u : HO} (h : SR X.K cl base W st H) (hc : st[c]? = some o) (nd : o ≠ .dead) (hu : H (W.r c) = some u) :
    SR X.K cl base ⟨upd W.F (W.r c) u, W.r, W.G⟩ (st.set c .dead) H ∧ Le st.length W ⟨upd W.F (W.r c) u, W.r, W.G⟩ := by
  have hlt := (List.getElem?_eq_some_iff.mp hc).1
  have ap := h.apart c o hc nd
  have sub : ∀ a v, W.F a = some v → upd W.F (W.r c) u a = some v := fun a v q => by
    have : a ≠ W.r c := fun e => by
      rw [e, ap] at q
      cases q
    rw [upd_ne this]
    exact q
  have l : ∀ n, Le n W ⟨upd W.F (W.r c) u, W.r, W.G⟩ := fun n => ⟨sub, fun _ _ => rfl, rfl⟩
  have at_ : ∀ {d : Nat} {v : O}, (st.set c O.dead)[d]? = some v → v ≠ .dead → d ≠ c ∧ st[d]? = some v := fun {d v} q n => by
    by_cases e : d = c
    · subst e
      rw [List.getElem?_set_self hlt] at q
      cases q
      exact absurd rfl n
    · rw [List.getElem?_set_ne (Ne.symm e)] at q
      exact ⟨e, q⟩
  refine ⟨⟨fun a v q => ?_, fun d d' v v' q1 n1 q2 n2 e => h.inj d d' _ _ (at_ q1 n1).2 n1 (at_ q2 n2).2 n2 e, fun d v q nd2 => ?_, fun d v q n => h.trk d v (at_ q n).2 n, fun d v q => ?_, by rw [List.length_set]; exact h.ge, h.held, fun a v q => ?_, fun d v q n => h.hr d v (at_ q n).2 n, h.tab, fun a ps q => ?_, h.gls, by rw [List.length_set]; exact base.mono sub (fun _ _ => rfl) (Nat.le_refl _) h.inv⟩, l _⟩
  · have q : upd W.F (W.r c) u a = some v := q
    by_cases e : a = W.r c
    · subst e
      rw [upd_same] at q
      cases q
      exact hu
    · rw [upd_ne e] at q
      exact h.sub a v q
  · obtain ⟨e, q⟩ := at_ q nd2
    show upd W.F (W.r c) u (W.r d) = none
    rw [upd_ne fun z => e (h.inj d c _ _ q nd2 hc nd z)]
    exact h.apart d v q nd2
  · rw [List.length_set]
    by_cases e : d = c
    · subst e
      rw [List.getElem?_set_self hlt] at q
      cases q
      trivial
    · rw [List.getElem?_set_ne (Ne.symm e)] at q
      exact (h.cell d v q).up (l _) (Nat.le_refl _)
  · have e : a ≠ W.r c := fun e => by
      rw [e, h.hr c o hc nd] at q
      cases q
    show upd W.F (W.r c) u a = none
    rw [upd_ne e]
    exact h.hF a v q
  · have q : upd W.F (W.r c) u a = some (.tbl ps) := q
    by_cases e : a = W.r c
    · subst e
      rw [upd_same] at q
      cases q
      obtain ⟨u', h1, h2⟩ := h.live hc nd
      rw [hu] at h1
      cases h1
      rcases h2 with ⟨_, z⟩ | ⟨_, z⟩ <;> cases z
    · rw [upd_ne e] at q
      exact h.ftb a ps q
theorem EnvR.weak {K : PySem.W.Frag} {W : Wd} {n : Nat} {env : Env} {σ : L2.St} (h : EnvR K cl W n env σ) {i : Nat} {v : V} {d : D} (hv : σ[i]? = some (some v)) (r : Rp K cl W.F W.r n v d) : EnvR K cl W n (env.set i (some d)) σ := by
  refine ⟨by simpa using h.1, fun j e q => ?_⟩
  by_cases hj : j = i
  · subst hj
    by_cases hl : j < env.length
    · rw [List.getElem?_set_self hl] at q
      cases q
      exact ⟨v, hv, r⟩
    · rw [List.getElem?_eq_none (by simpa using hl)] at q
      cases q
  · rw [List.getElem?_set_ne (Ne.symm hj)] at q
    exact h.2 j e q
theorem frz_imp {i : Nat} {F : Env → Sto → OutS} {E : Ends} {σ : L2.St} {H : Hp} (h : tS X.K cl base Wx (frzF base.b i F) E σ H) : tS X.K cl base Wx F E σ H := by
  obtain ⟨W, env, st, sr, er, p⟩ := h
  unfold frzF at p
  split at p
  · rename_i c e
    split at p
    · rename_i hb
      have hb := of_decide_eq_true hb
      obtain ⟨v, h1, h2⟩ := er.2 i _ e
      generalize hz : D.obj c = z at h2
      cases h2 with
      | obj c' hlt =>
        cases hz
        have lv : lvl base st.length c = st.length := by
          unfold lvl
          rw [if_neg (by omega)]
        split at p
        · rename_i ds e2
          obtain ⟨vs, hv, hr⟩ := sr.cell c _ e2
          rw [lv] at hr
          obtain ⟨s2, l2⟩ := sr.still e2 (by simp) hv
          have ln : (st.set c .dead).length = st.length := by simp
          refine ⟨_, env.set i (some (.lst ds)), st.set c .dead, s2, ?_, ?_⟩
          · rw [ln]
            exact EnvR.weak (er.up l2 (Nat.le_refl _)) h1 (.lst (SqL.of upd_same) (hr.up' l2 (Nat.le_refl _)))
          · exact PostS.mono p l2 (by rw [ln]; exact Nat.le_refl _)
        · rename_i ks ds e2
          obtain ⟨kvs, hv, hk, hr⟩ := sr.cell c _ e2
          rw [lv] at hr
          obtain ⟨s2, l2⟩ := sr.still e2 (by simp) hv
          have ln : (st.set c .dead).length = st.length := by simp
          refine ⟨_, env.set i (some (.dct ks ds)), st.set c .dead, s2, ?_, ?_⟩
          · rw [ln]
            exact EnvR.weak (er.up l2 (Nat.le_refl _)) h1 (.dct upd_same hk (hr.up' l2 (Nat.le_refl _)))
          · exact PostS.mono p l2 (by rw [ln]; exact Nat.le_refl _)
        · exact p.elim
      | _ => cases hz
    · exact p.elim
  · exact p.elim
theorem pss_frzD {ss : List Stmt} {i : Nat} {F : Env → Sto → OutS} (h : PSs X ss (tS X.K cl base Wx F)) : PSs X ss (tS X.K cl base Wx (frzF base.b i F)) :=
  PSs.imp h fun E σ H q => frz_imp q
end
end Itp
namespace Itp
open L2 PySem.Spec PyProof.Rows PySem
section
variable {X : Cx} {cl : Nat → Addr} {base : Lv} {Wx : WX} {f g k : Env → Sto → Out D}
/-! ### d.get -/
def dgetF (fo fk : Env → Sto → Out D) (fs : Env → Sto → Out (List D)) : Env → Sto → Out D := fun env st =>
  (fo env st).bind fun x st => if isDct (view st x) then (fk env st).bind fun y st => (fs env st).bind fun zs st => .of st (dgetop (view st x) y zs) else .bad
theorem isDct_at {K : PySem.W.Frag} {W : Wd} {st : Sto} {H : Hp} {v : V} {d : D} (sr : SR K cl base W st H) (rp : Rp K cl W.F W.r st.length v d) (h : isDct (view st d) = true) : ∃ a, v = .ref a ∧ IsD H a := by
  have rv := view_rv sr rp
  cases e : view st d <;> rw [e] at h rv <;> first | (simp [isDct] at h; done) | skip
  obtain ⟨a, kvs, rfl, h1, _⟩ := rv.dcts sr
  exact ⟨a, rfl, .inl ⟨kvs, .inl h1⟩⟩
theorem dget_at {K : PySem.W.Frag} {W : Wd} {st : Sto} {H : Hp} {v y : V} {d dy r : D} {zs : List D} (sr : SR K cl base W st H) (rp : Rp K cl W.F W.r st.length v d) (ry : Rp K cl W.F W.r st.length y dy) (h : dgetop (view st d) dy zs = some r) :
    ∃ a o, v = .ref a ∧ DGet H a y o ∧ ((zs = [] ∧ Rp K cl W.F W.r st.length (o.getD .non) r) ∨ ∃ z, zs = [z] ∧ ∀ vz, Rp K cl W.F W.r st.length vz z → Rp K cl W.F W.r st.length (o.getD vz) r) := by
  have rv := view_rv sr rp
  unfold dgetop at h
  split at h
  · rename_i ks ds e
    rw [e] at rv
    obtain ⟨a, kvs, rfl, h1, rfl, h3⟩ := rv.dcts sr
    simp only [Option.bind_eq_some_iff] at h
    obtain ⟨kk, e1, e2⟩ := h
    have ey : y = kV kk := by
      cases ry <;> simp [keyOf] at e1
      · subst e1
        rfl
      · subst e1
        rfl
    obtain ⟨q1, q2⟩ := RpL.valV (W := W) (n := st.length) (K := K) (cl := cl) kk h3
    refine ⟨a, L2.valV kvs kk, rfl, .inl ⟨kvs, kk, .inl h1, ey, rfl⟩, ?_⟩
    split at e2
    · refine .inl ⟨rfl, ?_⟩
      cases e2
      cases ev : valAt (kvs.map (·.1)) ds kk with
      | none =>
        rw [q2 ev]
        exact .non
      | some d2 =>
        obtain ⟨w, hw, hr⟩ := q1 d2 ev
        rw [hw]
        exact hr
    · rename_i z
      refine .inr ⟨z, rfl, fun vz rz => ?_⟩
      cases e2
      cases ev : valAt (kvs.map (·.1)) ds kk with
      | none =>
        rw [q2 ev]
        exact rz
      | some d2 =>
        obtain ⟨w, hw, hr⟩ := q1 d2 ev
        rw [hw]
        exact hr
    · cases e2
  · cases h
theorem pe_dg1 {o e : Expr} {apos cpos : Pos} (hu : X.A.units + 1 < cLine) (ho : PE X o (tD X.K cl base Wx f)) (he : PE X e (tD X.K cl base Wx g)) (m : M1 X o (Str.ofString "get") apos e cpos) : PE X (.Call (.Attribute o (Str.ofString "get") apos) [e] [] cpos) (tD X.K cl base Wx (dgetF f g (evsF []))) := by
  refine Itp.PE.imp (pe_dget1 hu ho he m) fun σ H Q h => ?_
  refine tP.imp h fun W env st sr er p => ?_
  unfold dgetF at p
  refine p.bind fun W1 H1 st1 d1 v1 e1 l1 le1 sr1 rp1 p1 => ?_
  split at p1
  · rename_i hd
    obtain ⟨a, rfl, isd⟩ := isDct_at sr1 rp1 hd
    refine ⟨a, rfl, isd, W1, env, st1, sr1, er.up l1 le1, p1.bind fun W2 H2 st2 d2 v2 e2 l2 le2 sr2 rp2 p2 => ?_⟩
    have p2 : Post _ _ _ _ _ _ _ _ (Out.of st2 (dgetop (view st2 d1) d2 [])) _ := p2
    obtain ⟨d, e, nx⟩ := p2.of
    obtain ⟨a', o, ha, hg, q⟩ := dget_at sr2 (rp1.up' l2 le2) rp2 e
    cases ha
    rcases q with ⟨_, q⟩ | ⟨z, hz, _⟩
    · exact ⟨o, hg, nx.same sr2 q⟩
    · cases hz
  · exact (show False from p1).elim
theorem pe_dg2 {o e e2 : Expr} {apos cpos : Pos} (hu : X.A.units + 1 < cLine) (ho : PE X o (tD X.K cl base Wx f)) (he : PE X e (tD X.K cl base Wx g)) (he2 : PE X e2 (tD X.K cl base Wx k)) (m : M2 X o (Str.ofString "get") apos e e2 cpos) : PE X (.Call (.Attribute o (Str.ofString "get") apos) [e, e2] [] cpos) (tD X.K cl base Wx (dgetF f g (evsF [k]))) := by
  refine Itp.PE.imp (pe_dget2 hu ho he he2 m) fun σ H Q h => ?_
  refine tP.imp h fun W env st sr er p => ?_
  unfold dgetF at p
  refine p.bind fun W1 H1 st1 d1 v1 e1 l1 le1 sr1 rp1 p1 => ?_
  split at p1
  · rename_i hd
    obtain ⟨a, rfl, isd⟩ := isDct_at sr1 rp1 hd
    refine ⟨a, rfl, isd, W1, env, st1, sr1, er.up l1 le1, p1.bind fun W2 H2 st2 d2 v2 e2 l2 le2 sr2 rp2 p2 => ?_⟩
    have eq : ((evsF [k] env st2).bind fun zs st => Out.of st (dgetop (view st d1) d2 zs)) = (k env st2).bind fun z st => Out.of st (dgetop (view st d1) d2 [z]) := by
      rw [evsF]
      cases k env st2 <;> rfl
    rw [eq] at p2
    refine ⟨W2, env, st2, sr2, (er.up l1 le1).up l2 le2, p2.bind fun W3 H3 st3 d3 v3 e3 l3 le3 sr3 rp3 p3 => ?_⟩
    obtain ⟨d, e, nx⟩ := p3.of
    obtain ⟨a', o, ha, hg, q⟩ := dget_at sr3 ((rp1.up' l2 le2).up' l3 le3) (rp2.up' l3 le3) e
    cases ha
    rcases q with ⟨hz, _⟩ | ⟨z, hz, q⟩
    · cases hz
    · cases hz
      exact ⟨o, hg, nx.same sr3 (q _ rp3)⟩
  · exact (show False from p1).elim
end
end Itp
namespace Itp
open L2 PySem.Spec PyProof.Rows PySem
/-! ### own functions, where no repr is under way -/
structure FnG (P : PySem.Program) (w : World) (K : PySem.W.Frag) (mg : Str → Option Value) (base : Heap) (CX : CXT) (k : Nat) (f : Addr) (fd : FuncData) (ps : List Str) (sp : Sp) : Prop where
  len : ∀ vs H Q E, sp vs H Q E → vs.length = ps.length
  run : ∀ (A : Around) (outer : List PySem.Env) (s : Shared) (H : Hp) (args : Args) (us : List Value) (vs : List V) (Q : VK) (E : XK), Room k A → A.guards = some [] → Env0 P w K mg base A outer s H → BindsTo s fd args (ps.zip us) → Vals vs us → sp vs H Q E →
    codeAny (model P w) A (.call (.ref f) args) (CR CX outer P w H s Q E) s
theorem run_fnG {X : Cx} {CX : CXT} {k : Nat} {f : Addr} {fd : FuncData} {ps : List Str} {sp : Sp} {E : L2.St → XK} {pins : List (Addr × Obj)} {σ : L2.St} {H : Hp} {s : Shared} {Q : VK} {us : List Value} {vs : List V}
    (F : FnG X.prog X.w X.K X.mg X.base CX k f fd ps sp) (hr : Room k X.A) (hg : X.A.guards = some []) (hb : L2.Binds X.K fd ps []) (hx : PassesAt CX X σ (E σ)) (I : L2.Inv X pins σ H s) (r : Vals vs us) (h : sp vs H Q (E σ)) :
    wpAny (model X.prog X.w) X.A (call (.ref f) us) (EP X pins σ Q) X.xe s := by
  have hl : us.length = ps.length := by
    rw [← F.len vs H Q (E σ) h, Vals.length r]
  have b := hb s us (Inv.kIn I) (by rw [List.append_nil]; exact hl)
  rw [List.append_nil] at b
  refine wpAny_call (codeAny_mono (F.run X.A X.stack s H { pos := us } us vs Q (E σ) hr hg (Inv.env0 I) b r h) fun r s' hq => ?_)
  cases r with
  | error e => exact hx pins H s e s' I hq
  | ok fl =>
    cases fl with
    | ret u => exact Inv.after I hq
    | _ => exact (hq : False).elim
theorem pe_callG {X : Cx} {CX : CXT} {k : Nat} {f : Addr} {fd : FuncData} {ps : List Str} {sp : Sp} {E : L2.St → XK} {x : Str} {p pos : Pos} {e : Expr} {es : List Expr} {t : TA} (F : FnG X.prog X.w X.K X.mg X.base CX k f fd ps sp) (hr : Room k X.A) (hgd : X.A.guards = some [])
    (hg : Gl X x) (hm : X.mg x = some (.ref f)) (hk : PySem.W.keepIn X.K (.ref f) = true) (hb : L2.Binds X.K fd ps []) (hx : ∀ σ, PassesAt CX X σ (E σ)) (ha : PA X (e :: es) t) (hdb : (x == Str.ofString "__debug__") = false) (ns : noStar (e :: es) = true) :
    PE X (.Call (.Name x p) (e :: es) [] pos) (tCallS sp E t) :=
  ⟨fun pins s σ H Q I h => wpAny_Call_Name_kw (ld_glob I hg hm (PySem.W.callWith_K I.ok.mod.kin hk (thn (ha.run pos pins s σ H (fun vs H1 => sp vs H1 Q (E σ)) I h) fun us s1 x =>
    match x with
    | ⟨vs, H1, I1, r, q⟩ => ⟨Inv.kIn I1, run_fnG F hr hgd hb (hx σ) I1 r q⟩) (star_cons ns) (star_all (noStar_tail ns))) hdb)⟩
theorem pe_callG0 {X : Cx} {CX : CXT} {k : Nat} {f : Addr} {fd : FuncData} {ps : List Str} {sp : Sp} {E : L2.St → XK} {x : Str} {p pos : Pos} (F : FnG X.prog X.w X.K X.mg X.base CX k f fd ps sp) (hr : Room k X.A) (hgd : X.A.guards = some [])
    (hg : Gl X x) (hm : X.mg x = some (.ref f)) (hk : PySem.W.keepIn X.K (.ref f) = true) (hb : L2.Binds X.K fd ps []) (hx : ∀ σ, PassesAt CX X σ (E σ)) (hdb : (x == Str.ofString "__debug__") = false) :
    PE X (.Call (.Name x p) [] [] pos) (tCallS sp E tNil) :=
  ⟨fun pins s σ H Q I h => wpAny_Call_Name_kw (ld_glob I hg hm (PySem.W.callWith_K0 (Inv.kIn I) hk (run_fnG F hr hgd hb (hx σ) I Paired.nil h)) hdb)⟩
theorem fnG_of {CX : CXT} {P : PySem.Program} {w : World} {K : PySem.W.Frag} {mg : Str → Option Value} {base : Heap} {k : Nat} {f : Addr} {name qual : Str} {params : Arguments} {body : List Stmt} {scope : Scope} {dV kV doc pm cdv ct oc : Value} {an od : Option Addr} {osl : Array (Option Value)} {N ps : List Str} {sp : Sp}
    (lk : List.lookup f K = some { cls := oc, dict := od, data := .func (PySem.W.fnOf name qual params body scope dV kV doc pm an cdv ct), slots := osl }) (hcd : PySem.W.codeIn K cdv qual = true) (S : FnScope N ps scope) (len : ∀ vs H Q E, sp vs H Q E → vs.length = ps.length)
    (hbody : ∀ (A : Around) (outer : List PySem.Env) (s : Shared) (H : Hp) (vs : List V) (Q : VK) (E : XK), Room k (A.deeper (envOfC qual scope s.heap.objs.size f cdv)) → A.guards = some [] → sp vs H Q E →
      ∃ t, PSs (cxOf CX P w K mg base N qual scope f cdv A outer s H E) body t ∧ t { nx := fun _ H' => Q .non H', rt := Q } (L2.start N vs) H) :
    FnG P w K mg base CX (k + 1) f (PySem.W.fnOf name qual params body scope dV kV doc pm an cdv ct) ps sp := by
  refine ⟨len, fun A outer s H args us vs Q E hr hgd e0 hb r hsp => ?_⟩
  have hl := len vs H Q E hsp
  have KX := PySem.W.Frag.In.keeps e0.mod.kin fun b o e => (e0.bs b o e).left
  have lim := Heap.NoLimit.keeps e0.mod.nolimit fun b o e => (e0.bs b o e).left
  have hkind : ∀ x, x ∈ ps.zip us → List.lookup x.fst scope.names = some .local ∨ List.lookup x.fst scope.names = some .cell ∧ (List.lookup x.fst (cellsFrom (s.heap.objs.size + 1) scope.names [])).isSome = true := fun x hy => by
    obtain ⟨n, v⟩ := x
    rcases S.par n (List.of_mem_zip hy).left with q | q
    · exact .inl q
    · exact .inr ⟨q, PySem.W.cellsFrom_some scope.names (s.heap.objs.size + 1) [] (.inl q)⟩
  refine codeAny_call_function (Room.depth hr) (KX f _ lk) rfl S.co S.gen rfl (PySem.W.codeRec_of KX hcd) (hb _ _ _ _ ?_)
  refine wpAny_newFunctionEnv_cells S.kind hkind fun env he s1 x => ?_
  subst he
  refine ⟨Heap.NoLimit.keeps lim x.toInCall.keep, codeAny_func ?_⟩
  obtain ⟨t, ht, hq⟩ := hbody A outer s H vs Q E (Room.deeper hr (envOfC qual scope s.heap.objs.size f cdv)) hgd hsp
  have I := inv_start (CX := CX) (P := P) (w := w) (E := E) S hr.hd e0 hl r x
  refine wpAny_mono (ht.run [] s1 (L2.start N vs) H { nx := fun x H' => Q .non H', rt := Q } I hq) (fun fl s' hs => ?_) fun e s' hs => hs
  have fin : ∀ {σ' : L2.St} {H' : Hp} {v : V} {u : Value}, L2.Inv (cxOf CX P w K mg base N qual scope f cdv A outer s H E) [] σ' H' s' → L2.RelV v u → Q v H' → CR CX outer P w H s Q E (.ok (.ret u)) s' :=
    fun {σ' H' v u} J rv q => ⟨v, H', J.os, J.bare, J.base, J.hok, rv, q⟩
  cases fl with
  | ret u =>
    obtain ⟨v, σ', H', J, rv, q⟩ := hs
    exact fin J rv q
  | brk =>
    obtain ⟨_, _, _, q⟩ := hs
    exact (q : False).elim
  | cont =>
    obtain ⟨_, _, _, q⟩ := hs
    exact (q : False).elim
  | next =>
    obtain ⟨σ', H', J, q⟩ := hs
    exact fin (v := .non) J rfl q
end Itp
namespace Itp
open L2 PySem.Spec PyProof.Rows PySem
/-! ### what a def promises -/
def spD (K : PySem.W.Frag) (cl : Nat → Addr) (TT : List (Addr × Str)) (np : Nat) (r : List D → Sto → Out D) : Sp := fun vs H Q E =>
  ∃ base W ds st, base.T = TT ∧ SR K cl base W st H ∧ RpL K cl W.F W.r st.length vs ds ∧ vs.length = np ∧ Post (relD K cl) K cl base (fun c d _ H => E c d H) W st.length [] (r ds st) Q
theorem Post.anyσ {α β : Type} {rel : Wd → Nat → β → α → Prop} {K : PySem.W.Frag} {cl : Nat → Addr} {base : Lv} {Wx Wy : WX} {W : Wd} {n : Nat} {σ τ : L2.St} {r : Out α} {Q : β → Hp → Prop} (h : Post rel K cl base Wx W n σ r Q) (e : ∀ c d H, Wx c d σ H → Wy c d τ H) : Post rel K cl base Wy W n τ r Q := by
  cases r with
  | ok d st => exact h
  | exc m st => exact fun W' H' a b c => e _ _ _ (h W' H' a b c)
  | bad => exact h
section
variable {X : Cx} {cl : Nat → Addr} {base : Lv} {Wx : WX}
def callE (r : List D → Sto → Out D) (fs : Env → Sto → Out (List D)) : Env → Sto → Out D := fun env st => (fs env st).bind fun ds st => r ds st
theorem len_of {α β : Type} {rel : Wd → Nat → β → α → Prop} {K : PySem.W.Frag} {W : Wd} {n : Nat} {σ : L2.St} {Q : β → Hp → Prop} : ¬ Post rel K cl base Wx W n σ (.bad : Out α) Q := fun h => h
theorem call_imp {np : Nat} {r : List D → Sto → Out D} {fs : Env → Sto → Out (List D)} (hnp : ∀ ds st, ds.length ≠ np → r ds st = .bad) {σ : L2.St} {H : Hp} {Q : VK} (h : tD X.K cl base Wx (callE r fs) σ H Q) : tCallS (spD X.K cl base.T np r) (WE Wx) (tL X.K cl base Wx fs) σ H Q := by
  refine tP.imp h fun W env st sr er p => ?_
  unfold callE at p
  refine p.bind fun W1 H1 st1 ds vs e1 l1 le1 sr1 rp1 p1 => ?_
  refine ⟨base, W1, ds, st1, rfl, sr1, rp1, ?_, p1.anyσ fun c d H h => h⟩
  rw [rp1.length]
  refine Decidable.byContradiction fun hn => ?_
  rw [hnp _ _ hn] at p1
  exact p1
end
/-! ### the end of a def -/
/-- the running def's own view of the cells -/
def Lv.sub (base : Lv) (n : Nat) (h : base.b ≤ n) : Lv := { b := n, L := fun c => lvl base n c, le := fun c _ => lvl_le h, T := base.T }
structure IsSub (base b2 : Lv) (n : Nat) : Prop where
  hb : base.b ≤ n
  b : b2.b = n
  L : ∀ c, c < n → b2.L c = lvl base n c
  T : b2.T = base.T
theorem isSub {base : Lv} {n : Nat} (h : base.b ≤ n) : IsSub base (base.sub n h) n := ⟨h, rfl, fun _ _ => rfl, rfl⟩
section
variable {K : PySem.W.Frag} {cl : Nat → Addr} {base : Lv} {W : Wd} {st : Sto} {H : Hp}
theorem SR.enter (h : SR K cl base W st H) : SR K cl (base.sub st.length h.ge) W st H := by
  refine ⟨h.sub, h.inj, h.apart, h.trk, fun c o q => ?_, Nat.le_refl _, h.held, h.hF, h.hr, h.tab, h.ftb, h.gls, trivial⟩
  have hc := (List.getElem?_eq_some_iff.mp q).1
  have : lvl (base.sub st.length h.ge) st.length c = lvl base st.length c := by
    unfold lvl Lv.sub
    simp only
    rw [if_pos hc]
    rfl
  rw [this]
  exact h.cell c o q
/-- a code object is shared -/
theorem SR.code (h : SR K cl base W st H) {c' : Addr} {q : Str} (hc' : H c' = some (LamX.CodeO c' q)) :
    SR K cl base ⟨upd W.F c' (LamX.CodeO c' q), W.r, W.G⟩ st H ∧ Le st.length W ⟨upd W.F c' (LamX.CodeO c' q), W.r, W.G⟩ := by
  have nl : ∀ c o, st[c]? = some o → o ≠ .dead → W.r c ≠ c' := fun c o hc nd e => by
    obtain ⟨u, h1, h2⟩ := h.live hc nd
    rw [e, hc'] at h1
    cases h1
    rcases h2 with ⟨_, z⟩ | ⟨_, z⟩ <;> cases z
  have sb : ∀ a u, W.F a = some u → upd W.F c' (LamX.CodeO c' q) a = some u := fun a u z => by
    by_cases e : a = c'
    · subst e
      rw [upd_same, ← hc']
      exact h.sub _ _ z
    · rw [upd_ne e]
      exact z
  have l1 : ∀ n, Le n W ⟨upd W.F c' (LamX.CodeO c' q), W.r, W.G⟩ := fun n => ⟨sb, fun _ _ => rfl, rfl⟩
  refine ⟨⟨fun a u z => ?_, h.inj, fun c o z nd => ?_, h.trk, fun c o z => ?_, h.ge, h.held, fun a o z => ?_, h.hr, h.tab, fun a ps z => ?_, h.gls, base.mono sb (fun _ _ => rfl) (Nat.le_refl _) h.inv⟩, l1 _⟩
  · have z : upd W.F c' (LamX.CodeO c' q) a = some u := z
    by_cases e : a = c'
    · subst e
      rw [upd_same] at z
      rw [← z]
      exact hc'
    · rw [upd_ne e] at z
      exact h.sub a u z
  · show upd W.F c' (LamX.CodeO c' q) (W.r c) = none
    rw [upd_ne (nl c o z nd)]
    exact h.apart c o z nd
  · exact (h.cell c o z).up (l1 _) (Nat.le_refl _)
  · show upd W.F c' (LamX.CodeO c' q) a = none
    rw [upd_ne]
    · exact h.hF a o z
    · intro e
      rw [e] at z
      have h1 := h.held c' o z
      rw [hc'] at h1
      cases h1
      rcases h.gls c' _ z with ⟨vs, h2⟩ | ⟨vs, h2⟩ <;> cases h2
  · have z : upd W.F c' (LamX.CodeO c' q) a = some (.tbl ps) := z
    by_cases e : a = c'
    · subst e
      rw [upd_same] at z
      cases z
    · rw [upd_ne e] at z
      exact h.ftb a ps z
/-- .. that was handed a lambda; what else is known -/
def Lv.subL (base : Lv) (n : Nat) (h : base.b ≤ n) (inv : Wd → Nat → Prop) (mono : ∀ {W W' : Wd} {n m : Nat}, (∀ a o, W.F a = some o → W'.F a = some o) → (∀ c, c < n → W'.r c = W.r c) → n ≤ m → inv W n → inv W' m) : Lv :=
  { b := n, L := fun c => lvl base n c, le := fun c _ => lvl_le h, T := base.T, inv := inv, mono := mono }
theorem isSubL {base : Lv} {n : Nat} (h : base.b ≤ n) {inv : Wd → Nat → Prop} (mono : ∀ {W W' : Wd} {n m : Nat}, (∀ a o, W.F a = some o → W'.F a = some o) → (∀ c, c < n → W'.r c = W.r c) → n ≤ m → inv W n → inv W' m) : IsSub base (base.subL n h inv mono) n := ⟨h, rfl, fun _ _ => rfl, rfl⟩
/-- .. a lambda in hand -/
theorem SR.enterL (h : SR K cl base W st H) {f c' : Addr} {q : Str} (hc' : H c' = some (LamX.CodeO c' q)) {inv : Wd → Nat → Prop} (mono : ∀ {W W' : Wd} {n m : Nat}, (∀ a o, W.F a = some o → W'.F a = some o) → (∀ c, c < n → W'.r c = W.r c) → n ≤ m → inv W n → inv W' m)
    (hi : inv (Wd.put ⟨upd W.F c' (LamX.CodeO c' q), W.r, W.G⟩ st.length f) (st.length + 1)) :
    SR K cl (base.subL st.length h.ge inv mono) (Wd.put ⟨upd W.F c' (LamX.CodeO c' q), W.r, W.G⟩ st.length f) (st ++ [.dead]) H := by
  obtain ⟨h1, l1⟩ := h.code hc'
  obtain ⟨h2, l2⟩ := h1.freshD f
  refine ⟨h2.sub, h2.inj, h2.apart, h2.trk, fun c o z => ?_, ?_, h2.held, h2.hF, h2.hr, h2.tab, h2.ftb, h2.gls, by rw [List.length_append]; exact hi⟩
  · rcases get_snoc z with ⟨hc, q1⟩ | ⟨_, rfl⟩
    · have e : lvl (base.subL st.length h.ge inv mono) (st ++ [O.dead]).length c = lvl base st.length c := by
        unfold lvl Lv.subL
        simp only
        rw [if_pos hc]
        rfl
      rw [e, l2.at_ c hc]
      exact (h1.cell c o q1).up ⟨l2.sub, fun d hd => l2.at_ d (Nat.lt_of_lt_of_le hd (lvl_le h.ge)), rfl⟩ (Nat.le_refl _)
    · trivial
  · rw [List.length_append]
    exact Nat.le_add_right _ _
theorem SR.codeLe (h : SR K cl base W st H) {f c' : Addr} {q : Str} (hc' : H c' = some (LamX.CodeO c' q)) : Le st.length W (Wd.put ⟨upd W.F c' (LamX.CodeO c' q), W.r, W.G⟩ st.length f) := by
  obtain ⟨h1, l1⟩ := h.code hc'
  obtain ⟨h2, l2⟩ := h1.freshD f
  exact l1.trans l2 (Nat.le_refl _)
theorem OR.lv {n m : Nat} {a : Addr} {o : O} (h : OR K cl W n H a o) (le : n ≤ m) : OR K cl W m H a o := by
  cases o with
  | lst ds =>
    obtain ⟨vs, h1, h2⟩ := h
    exact ⟨vs, h1, h2.up (fun _ _ q => q) (fun _ _ => rfl) le⟩
  | dct ks ds =>
    obtain ⟨kvs, h1, h2, h3⟩ := h
    exact ⟨kvs, h1, h2, h3.up (fun _ _ q => q) (fun _ _ => rfl) le⟩
  | dead => trivial
theorem SR.leaves {b2 : Lv} {n : Nat} (h : SR K cl b2 W st H) (S : IsSub base b2 n) (lm : base.inv W n) : SR K cl base W st H := by
  have hn : n ≤ st.length := by rw [← S.b]; exact h.ge
  refine ⟨h.sub, h.inj, h.apart, h.trk, fun c o q => OR.lv (h.cell c o q) ?_, Nat.le_trans S.hb hn, h.held, h.hF, h.hr, by rw [← S.T]; exact h.tab, h.ftb, h.gls, base.mono (fun _ _ z => z) (fun _ _ => rfl) hn lm⟩
  by_cases h1 : c < n
  · have : lvl b2 st.length c = lvl base n c := by
      show (if c < b2.b then b2.L c else st.length) = _
      rw [S.b, if_pos h1, S.L c h1]
    rw [this]
    unfold lvl
    by_cases h2 : c < base.b
    · rw [if_pos h2, if_pos h2]
      exact Nat.le_refl _
    · rw [if_neg h2, if_neg h2]
      exact hn
  · have : lvl b2 st.length c = st.length := by
      show (if c < b2.b then b2.L c else st.length) = _
      rw [S.b, if_neg h1]
    rw [this]
    have hb := S.hb
    unfold lvl
    rw [if_neg (by omega)]
    exact Nat.le_refl _
/-- the cells from n on are forgotten -/
theorem SR.cut {b2 : Lv} {n : Nat} (h : SR K cl b2 W st H) (S : IsSub base b2 n) (lm : base.inv W n) : SR K cl base W (st.take n) H := by
  have hn : n ≤ st.length := by rw [← S.b]; exact h.ge
  have ln : (st.take n).length = n := by rw [List.length_take]; omega
  have at_ : ∀ {c o}, (st.take n)[c]? = some o → c < n ∧ st[c]? = some o := fun {c o} q => by
    have hc := (List.getElem?_eq_some_iff.mp q).1
    rw [ln] at hc
    rw [List.getElem?_take_of_lt hc] at q
    exact ⟨hc, q⟩
  refine ⟨h.sub, fun c c' o o' q1 n1 q2 n2 => h.inj c c' o o' (at_ q1).2 n1 (at_ q2).2 n2, fun c o q => h.apart c o (at_ q).2, fun c o q => h.trk c o (at_ q).2, fun c o q => ?_, by rw [ln]; exact S.hb, h.held, h.hF, fun c o q => h.hr c o (at_ q).2, by rw [← S.T]; exact h.tab, h.ftb, h.gls, by rw [ln]; exact lm⟩
  · rw [ln]
    obtain ⟨hc, q⟩ := at_ q
    have := h.cell c o q
    have e : lvl b2 st.length c = lvl base n c := by
      show (if c < b2.b then b2.L c else st.length) = _
      rw [S.b, if_pos hc, S.L c hc]
    rw [e] at this
    exact this
/-- the new cells stand still from now on -/
noncomputable def stillF (W : Wd) (H : Hp) (st : Sto) (n : Nat) : Hp := fun a => open Classical in match W.F a with
  | some o => some o
  | none => if ∃ c o, n ≤ c ∧ st[c]? = some o ∧ o ≠ .dead ∧ W.r c = a then H a else none
theorem stillF_sub {n : Nat} : ∀ a o, W.F a = some o → stillF W H st n a = some o := fun a o q => by
  unfold stillF
  rw [q]
theorem stillF_at {n c : Nat} {o : O} (f : W.F (W.r c) = none) (h1 : n ≤ c) (h2 : st[c]? = some o) (nd : o ≠ .dead) : stillF W H st n (W.r c) = H (W.r c) := by
  unfold stillF
  rw [f]
  exact if_pos ⟨c, o, h1, h2, nd, rfl⟩
theorem stillF_not {n : Nat} {a : Addr} (f : W.F a = none) (h : ∀ c o, n ≤ c → st[c]? = some o → o ≠ .dead → W.r c ≠ a) : stillF W H st n a = none := by
  unfold stillF
  rw [f]
  exact if_neg fun ⟨c, o, h1, h2, nd, e⟩ => h c o h1 h2 nd e
theorem SR.stills {b2 : Lv} {n : Nat} (h : SR K cl b2 W st H) (S : IsSub base b2 n) (lm : base.inv W n) : SR K cl base ⟨stillF W H st n, W.r, W.G⟩ (st.take n) H := by
  have hn : n ≤ st.length := by rw [← S.b]; exact h.ge
  have ln : (st.take n).length = n := by rw [List.length_take]; omega
  have s := h.cut S lm
  have at_ : ∀ {c o}, (st.take n)[c]? = some o → c < n ∧ st[c]? = some o := fun {c o} q => by
    have hc := (List.getElem?_eq_some_iff.mp q).1
    rw [ln] at hc
    rw [List.getElem?_take_of_lt hc] at q
    exact ⟨hc, q⟩
  refine ⟨fun a o q => ?_, s.inj, fun c o q nd => ?_, s.trk, fun c o q => ?_, s.ge, s.held, fun a o q => ?_, s.hr, s.tab, fun a ps q => ?_, s.gls, base.mono stillF_sub (fun _ _ => rfl) (Nat.le_refl _) s.inv⟩
  · have q : stillF W H st n a = some o := q
    unfold stillF at q
    cases e : W.F a with
    | some u =>
      rw [e] at q
      cases q
      exact h.sub a _ e
    | none =>
      rw [e] at q
      simp only at q
      split at q
      · exact q
      · cases q
  · obtain ⟨hc, q1⟩ := at_ q
    refine stillF_not (s.apart c o q nd) fun c' o' h1 h2 nd' e => ?_
    have := h.inj c' c o' o h2 nd' q1 nd e
    omega
  · have := s.cell c o q
    cases o with
    | lst ds =>
      obtain ⟨vs, h1, h2⟩ := this
      exact ⟨vs, h1, h2.up stillF_sub (fun _ _ => rfl) (Nat.le_refl _)⟩
    | dct ks ds =>
      obtain ⟨kvs, h1, h2, h3⟩ := this
      exact ⟨kvs, h1, h2, h3.up stillF_sub (fun _ _ => rfl) (Nat.le_refl _)⟩
    | dead => trivial
  · refine stillF_not (h.hF a o q) fun c o' h1 h2 nd e => ?_
    have := h.hr c o' h2 nd
    rw [e, show W.G a = some o from q] at this
    cases this
  · have q : stillF W H st n a = some (.tbl ps) := q
    unfold stillF at q
    cases e : W.F a with
    | some u =>
      rw [e] at q
      cases q
      exact h.ftb a _ e
    | none =>
      rw [e] at q
      simp only at q
      split at q
      · rename_i z
        obtain ⟨c, o, h1, h2, nd, e2⟩ := z
        obtain ⟨u, h3, h4⟩ := h.live h2 nd
        rw [e2, q] at h3
        cases h3
        rcases h4 with ⟨_, z⟩ | ⟨_, z⟩ <;> cases z
      · cases q
mutual
theorem frz0_rp {n m : Nat} {g : Nat → Option D} {F : Hp} {r : Nat → Addr} (s : ∀ a o, W.F a = some o → F a = some o) (er : ∀ c, r c = W.r c) (hg : ∀ c d, c < m → g c = some d → Rp K cl F r n (.ref (r c)) d) : ∀ {v : V} {d d' : D}, Rp K cl W.F W.r m v d → frz0 g d = some d' → Rp K cl F r n v d'
  | _, _, _, .non, e => by
    simp only [frz0, Option.some.injEq] at e
    subst e
    exact .non
  | _, _, _, .bl b, e => by
    simp only [frz0, Option.some.injEq] at e
    subst e
    exact .bl b
  | _, _, _, .int i, e => by
    simp only [frz0, Option.some.injEq] at e
    subst e
    exact .int i
  | _, _, _, .str x, e => by
    simp only [frz0, Option.some.injEq] at e
    subst e
    exact .str x
  | _, _, _, .rep d, e => by
    simp only [frz0, Option.some.injEq] at e
    subst e
    exact .rep d
  | _, _, _, .tup h hs, e => by
    simp only [frz0, Option.map_eq_some_iff] at e
    obtain ⟨ds, e, rfl⟩ := e
    exact .tup (SqT.up s h) (frz0s_rp s er hg hs e)
  | _, _, _, .lst h hs, e => by
    simp only [frz0, Option.map_eq_some_iff] at e
    obtain ⟨ds, e, rfl⟩ := e
    exact .lst (SqL.up s h) (frz0s_rp s er hg hs e)
  | _, _, _, .dct h hk hs, e => by
    simp only [frz0, Option.map_eq_some_iff] at e
    obtain ⟨ds, e, rfl⟩ := e
    exact .dct (s _ _ h) hk (frz0s_rp s er hg hs e)
  | _, _, _, .obj c h, e => by
    simp only [frz0] at e
    rw [← er c]
    exact hg c _ h e
  | _, _, _, .cls q, e => by
    simp only [frz0, Option.some.injEq] at e
    subst e
    exact .cls q
  | _, _, _, .ty t, e => by
    simp only [frz0, Option.some.injEq] at e
    subst e
    exact .ty t
  | _, _, _, .exc q h, e => by
    simp only [frz0, Option.some.injEq] at e
    subst e
    exact .exc q (s _ _ h)
theorem frz0s_rp {n m : Nat} {g : Nat → Option D} {F : Hp} {r : Nat → Addr} (s : ∀ a o, W.F a = some o → F a = some o) (er : ∀ c, r c = W.r c) (hg : ∀ c d, c < m → g c = some d → Rp K cl F r n (.ref (r c)) d) : ∀ {vs : List V} {ds ds' : List D}, RpL K cl W.F W.r m vs ds → frz0s g ds = some ds' → RpL K cl F r n vs ds'
  | _, _, _, .nil, e => by
    simp only [frz0s, Option.some.injEq] at e
    subst e
    exact .nil
  | _, _, _, .cons h hs, e => by
    simp only [frz0s] at e
    split at e
    · rename_i a b ea eb
      cases e
      exact .cons (frz0_rp s er hg h ea) (frz0s_rp s er hg hs eb)
    · cases e
end
theorem fzc_rp {b2 : Lv} {n : Nat} (h : SR K cl b2 W st H) (S : IsSub base b2 n) : ∀ (k c : Nat) (d : D), c < st.length → fzc st n k c = some d → Rp K cl (stillF W H st n) W.r n (.ref (W.r c)) d
  | 0, c, d, hc, e => by
    simp [fzc] at e
  | k + 1, c, d, hc, e => by
    rw [fzc] at e
    split at e
    · cases e
      rename_i hlt
      exact .obj c hlt
    · rename_i hge
      have lv : lvl b2 st.length c = st.length := by
        unfold lvl
        rw [S.b]
        exact if_neg hge
      split at e
      · rename_i ds q
        simp only [Option.map_eq_some_iff] at e
        obtain ⟨ds', e, rfl⟩ := e
        obtain ⟨vs, hv, hr⟩ := h.cell c _ q
        rw [lv] at hr
        refine .lst (SqL.of ?_) (frz0s_rp stillF_sub (fun _ => rfl) (fun c d hc q => fzc_rp h S k c d hc q) hr e)
        rw [stillF_at (h.apart c _ q (by simp)) (by omega) q (by simp)]
        exact hv
      · rename_i ks ds q
        simp only [Option.map_eq_some_iff] at e
        obtain ⟨ds', e, rfl⟩ := e
        obtain ⟨kvs, hv, hk, hr⟩ := h.cell c _ q
        rw [lv] at hr
        refine .dct ?_ hk (frz0s_rp stillF_sub (fun _ => rfl) (fun c d hc q => fzc_rp h S k c d hc q) hr e)
        rw [stillF_at (h.apart c _ q (by simp)) (by omega) q (by simp)]
        exact hv
      · cases e
/-- what is wanted of a def's body, by what is wanted of the def -/
theorem end_of {keep : Bool} {n : Nat} {b2 : Lv} (S : IsSub base b2 n) {W0 : Wd} (lm : base.inv W0 n) {σ : L2.St} {r : OutS} {Q : VK} {E : XK} (h : Post (relD K cl) K cl base (fun c d _ H => E c d H) W0 n σ (endF keep n r) Q) :
    PostS K cl b2 (fun c d _ H => E c d H) W0 n r { nx := fun _ H' => Q .non H', rt := Q } := by
  have fin : ∀ {d : D} {st' : Sto} {v : V} {W' : Wd} {H' : Hp}, Post (relD K cl) K cl base (fun c d _ H => E c d H) W0 n σ (fin keep n d st') Q → Le n W0 W' → n ≤ st'.length → SR K cl b2 W' st' H' → Rp K cl W'.F W'.r st'.length v d → Q v H' := by
    intro d st' v W' H' p l le sr rp
    unfold Itp.fin at p
    split at p
    · exact p W' H' v l le (sr.leaves S (base.mono l.sub l.at_ (Nat.le_refl _) lm)) rp
    · split at p
      · rename_i d' e
        have ln : (st'.take n).length = n := by rw [List.length_take]; omega
        refine p ⟨stillF W' H' st' n, W'.r, W'.G⟩ H' v ⟨fun a o q => stillF_sub a o (l.sub a o q), l.at_, l.g⟩ (by rw [ln]; exact Nat.le_refl _) (sr.stills S (base.mono l.sub l.at_ (Nat.le_refl _) lm)) ?_
        rw [show relD K cl = fun W n v d => Rp K cl W.F W.r n v d from rfl, ln]
        exact frz0_rp stillF_sub (fun _ => rfl) (fun c d hc q => fzc_rp sr S _ c d hc q) rp e
      · exact p.elim
  cases r with
  | nx e st' => exact fun W' H' σ' l le sr er => fin h l le sr .non
  | rt d st' => exact fun W' H' v l le sr rp => fin h l le sr rp
  | exc m e st' =>
    intro W' H' σ' l le sr er
    have ln : (st'.take n).length = n := by rw [List.length_take]; omega
    exact h W' H' l (by rw [ln]; exact Nat.le_refl _) (sr.cut S (base.mono l.sub l.at_ (Nat.le_refl _) lm))
  | bk e st' => exact (show False from h).elim
  | ct e st' => exact (show False from h).elim
  | bad => exact h
end
end Itp
namespace Itp
open L2 PySem.Spec PyProof.Rows PySem
/-- an exception that a suite has met, known from then on -/
def ExH (cls : Value) (d : Option Addr) (a : Addr) : HO := .ext fun h => ∃ (oe : Obj) (vs : Array Value), h.get? a = some oe ∧ oe.cls = cls ∧ oe.dict = d ∧ oe.data = .fields vs
theorem HOk.exh {P : PySem.Program} {w : World} {H : Hp} {h : Heap} {a : Addr} {oe : Obj} {vs : Array Value} (x : HOk P w H h) (he : h.get? a = some oe) (hd : oe.data = .fields vs) (na : H a = none) : HOk P w (upd H a (ExH oe.cls oe.dict a)) h := by
  intro b u e
  by_cases hb : b = a
  · subst hb
    rw [upd_same] at e
    cases e
    unfold ExH
    rw [ObjOk.eq_13]
    refine ⟨⟨oe, vs, he, rfl, rfl, hd⟩, ⟨oe, he⟩, ?_⟩
    rintro h1 h2 ⟨o1, v1, g1, c1, d1, f1⟩ k
    exact ⟨o1, v1, k o1 g1, c1, d1, f1⟩
  · rw [upd_ne hb] at e
    exact ObjOk.stay (x b u e) (fun c v _ q => q) (fun c q => by rw [upd_ne (ne_of_none q na)]; exact q) fun c xs q => by
      rw [upd_ne (ne_of_none q na)]
      exact q
theorem Inv.exh {X : Cx} {pins : List (Addr × Obj)} {σ : L2.St} {H : Hp} {s : Shared} {a : Addr} {oe : Obj} {vs : Array Value} (I : L2.Inv X pins σ H s) (he : s.heap.get? a = some oe) (hd : oe.data = .fields vs) (na : H a = none) (nL : a ≠ X.env.locals)
    (n0 : X.s_0.heap.get? a = none) (np : ∀ p ∈ X.pn ++ pins, p.1 ≠ a) : L2.Inv X pins σ (upd H a (ExH oe.cls oe.dict a)) s := by
  have ne : ∀ {b : Addr} {o : HO}, X.H_0 b = some o → H b = some o → b ≠ a := fun {b o} _ q e => by
    rw [e, na] at q
    cases q
  refine ⟨I.ok, I.os, I.bare, ⟨I.base.keep, I.base.slot, fun b o q h0 hx => ?_, I.base.there, fun b xs q => ?_, fun b o u q => ?_, fun b ps q => ?_⟩, I.loc, I.cell, ?_, fun x c q => ?_, fun p hp => ?_, HOk.exh I.hok he hd na, I.len⟩
  · have : b ≠ a := fun e => by
      rw [e, n0] at q
      cases q
    rw [upd_ne this]
    exact I.base.free b o q h0 hx
  · have r := I.base.tups b xs q
    rw [upd_ne (ne_of_none r na)]
    exact r
  · have r := I.base.frzs b o u q
    rw [upd_ne (ne_of_none r na)]
    exact r
  · obtain ⟨more, r⟩ := I.base.tbls b ps q
    exact ⟨more, by rw [upd_ne (ne_of_none r na)]; exact r⟩
  · rw [upd_ne (Ne.symm nL)]
    exact I.free
  · have : c ≠ a := fun e => by
      subst e
      obtain ⟨v, hc⟩ := I.cell x c q
      obtain ⟨o, ho, hv⟩ := hc
      rw [he] at ho
      cases ho
      rw [hd] at hv
      cases hv
    rw [upd_ne this]
    exact I.freeC x c q
  · obtain ⟨h1, h2, h3⟩ := I.pin p hp
    refine ⟨h1, ?_, h3⟩
    rw [upd_ne (np p hp)]
    exact h2
/-- as wAs, but the exception stays known behind the suite -/
def wKeep (K : PySem.W.Frag) (c : Value) (i : Nat) (ts : Addr → Value → Option Addr → TS) (Wout : WX) (D : Ends) : WX := fun cls d σ H =>
  ∃ b, PySem.W.exmOne K cls c = some b ∧
    (b = true → ∀ a, H a = none → ts a cls d ⟨fun σ' H' => D.nx (List.set σ' i none) (upd H' a (ExH cls d a)), fun v H' => D.rt v (upd H' a (ExH cls d a)), fun σ' H' => D.bk (List.set σ' i none) (upd H' a (ExH cls d a)), fun σ' H' => D.ct (List.set σ' i none) (upd H' a (ExH cls d a))⟩ (List.set σ i (some (.ref a))) H) ∧
    (b = false → Wout cls d σ H)
theorem ps_try_keep {X : Cx} {x n : Str} {c : Value} {i : Nat} {body suite : List Stmt} {b₀ : Stmt} {np pos pos' : Pos} {tb : WX → TS} {ts : Addr → Value → Option Addr → TS} {Wout : WX} (hs : X.stack = X.env :: X.outer) (hf : X.env.frame = some X.env.locals) (hex : X.ex = [])
    (hN : X.N.Nodup) (hi : X.N[i]? = some n) (hln : X.env.kindOf n = some .local) (hc : Names X x c) (tk : Takes X Wout)
    (hb : ∀ (W : WX) (pn : List (Addr × Obj)) (xe : Value → Shared → Prop), Takes (X.tr pn xe) W → PassesOwn (model X.prog X.w) X.A X.env xe → PSs (X.tr pn xe) body (tb W))
    (hsu : ∀ (a : Addr) (oe : Obj) (cls : Value) (d : Option Addr) (pn : List (Addr × Obj)), Zc cls d oe → (∃ vs, oe.data = .fields vs) → PSs (X.suite a ((a, oe) :: pn)) (b₀ :: suite) (ts a cls d)) :
    PS X (.Try body [.ExceptHandler (some (.Name x np)) (some n) (b₀ :: suite) pos'] [] [] pos) fun D σ H => tb (wKeep X.K c i ts Wout D) D σ H := by
  refine ⟨fun pins s σ H D I h => ?_⟩
  have ok := I.ok
  have hfr : X.A.frames = some (X.env :: X.outer) := by rw [ok.frames, hs]
  have hloc : L2.Loc X.env.scope n := .inl hln
  refine wpAny_Try_except (wpAny_mono ((hb (wKeep X.K c i ts Wout D) (X.pn ++ pins) _ (fun u s' xx => ?_) PassesOwn.looking).run [] s σ H D (Inv.toTry I _) h) (fun f s1 hsp => ?_) fun e s1 he => he)
  rotate_left
  · cases f with
    | ret u =>
      obtain ⟨v, σ', H', J', r, q⟩ := hsp
      exact ⟨v, σ', H', Inv.ofTry J' ok, r, q⟩
    | next =>
      obtain ⟨σ', H', J', q⟩ := hsp
      exact wpAny_execs_nil ⟨σ', H', Inv.ofTry J' ok, q⟩
    | brk =>
      obtain ⟨σ', H', J', q⟩ := hsp
      exact ⟨σ', H', Inv.ofTry J' ok, q⟩
    | cont =>
      obtain ⟨σ', H', J', q⟩ := hsp
      exact ⟨σ', H', Inv.ofTry J' ok, q⟩
  · obtain ⟨a, B, sI, pins', σ', H', cls, d, rfl, J', nb, up, sky, na, os, ag, b, hb1, hyes, hno⟩ := xx
    have J := Inv.ofTry J' ok
    have sky' : L2.Sky B (X.env :: X.outer) a (Zc cls d) X.env.locals s'.heap := by
      rw [← hs]
      exact sky
    refine Sky.land Zc.steady hfr hf sky' fun h3 fl3 up3 => ?_
    have J3 : L2.Inv X pins σ' H' { heap := h3, gens := s'.gens, drawn := s'.drawn, toks := s'.toks, os := s'.os } := Inv.landed J nb fl3.left (Heap.UpToSlots.trans up up3) os ag
    obtain ⟨oe3, vs3, he3, hz3, hd3⟩ := HandSPX.FlyingZ.there fl3
    have nfr : ¬ a ∈ frs (X.env :: X.outer) := fun hm => by
      obtain ⟨_, o', e', hnf⟩ := Heap.FunFrames.mem fl3.right.right.left hm
      rw [he3] at e'
      cases e'
      exact hnf vs3 hd3
    have nL : a ≠ X.env.locals := fun z => nfr (List.mem_filterMap.mpr ⟨X.env, List.mem_cons_self, by rw [hf, z]⟩)
    have nF : ¬ a ∈ X.fs := fun hm => by
      obtain ⟨e, he, q⟩ := List.mem_filterMap.mp hm
      exact nfr (List.mem_filterMap.mpr ⟨e, List.mem_cons_of_mem X.env he, q⟩)
    have S3 := Inv.suite J3 he3 hd3 na nL nF
    -- the exception is newer than all that stood at the start
    have nI : sI.heap.get? a = none := by
      cases q : sI.heap.get? a with
      | none => rfl
      | some o =>
        have := nb a o q (by rw [show (X.tr (X.pn ++ pins) _).stack = X.stack from rfl, hs]; exact nfr)
        rw [fl3.right.left] at this
        cases this
    have n0 : X.s_0.heap.get? a = none := by
      cases q : X.s_0.heap.get? a with
      | none => rfl
      | some o =>
        obtain ⟨o', q'⟩ := J.base.there a o q (by rw [hex]; simp)
        rw [nI] at q'
        cases q'
    have npin : ∀ p ∈ X.pn ++ pins, p.1 ≠ a := fun p hp e => by
      have := (J.pin p hp).1
      rw [e, nI] at this
      cases this
    refine wpAny_handleBy_cons (codeAny_handlers_test ?_) fun q => by cases q
    have LT : PySem.W.Looks (model X.prog X.w) h3 (typeOf (.ref a)) cls := fun A Q E s k q => wpAny_typeOf_ref (k a oe3 he3) (by rw [hz3.left]; exact q)
    have LM := PySem.W.exm_one (Inv.kIn J3) LT hb1
    have test : ∀ {Q : Value → Shared → Prop} {E : Value → Shared → Prop}, Q c { heap := h3, gens := s'.gens, drawn := s'.drawn, toks := s'.toks, os := s'.os } → wpAny (model X.prog X.w) (X.A.mark (some (.ref a))) (eval (.Name x np) X.env) Q E { heap := h3, gens := s'.gens, drawn := s'.drawn, toks := s'.toks, os := s'.os } := by
      intro Q E q
      obtain ⟨hg, hdbg, hm⟩ := hc
      rcases hm with hm | ⟨hm, hv, hnn⟩
      · exact ld_glob (X := X.suite a ((a, oe3) :: (X.pn ++ pins))) S3 hg hm q hdbg
      · exact ld_blt (X := X.suite a ((a, oe3) :: (X.pn ++ pins))) S3 hg hm hv q hnn hdbg
    refine test (PySem.W.Looks.here LM ?_)
    cases b with
    | false =>
      refine wpAny_handleBy_nil ?_
      obtain ⟨k1, k2, k3, oe, vs, T, oT, ts', he, hz, hd, h1, hr⟩ := fl3
      unfold PySem.passOn
      refine wpAny_bind (wpAny_field he hd h1 ?_)
      have ht : ¬ ((Value.ref T == Value.none) = true) := by simp
      simp only
      rw [if_neg ht, hf]
      refine wpAny_bind (HandSPX.setFlight_upZ ⟨k1, k2, k3, oe, vs, T, oT, ts', he, hz, hd, h1, hr⟩ fun h4 hh4 up4 => wpAny_throw (tk (.ref a) _ ?_))
      exact ⟨a, B, sI, pins, σ', H', cls, d, rfl, J, nb, Heap.UpToSlots.trans (Heap.UpToSlots.trans up up3) up4, .inr (.inr (by rw [hs]; exact hh4)), na, os, ag, hno rfl⟩
    | true =>
      refine codeAny_handlers_suite_as (HandSPX.lands_againZ fl3 fun h4 fl4 up4 => ?_)
      have J4 : L2.Inv X pins σ' H' { heap := h4, gens := s'.gens, drawn := s'.drawn, toks := s'.toks, os := s'.os } := Inv.landed J nb fl4.left (Heap.UpToSlots.trans (Heap.UpToSlots.trans up up3) up4) os ag
      obtain ⟨oe4, vs4, he4, hz4, hd4⟩ := HandSPX.FlyingZ.there fl4
      have S4 := Inv.suite J4 he4 hd4 na nL nF
      refine store_ok (v := .ref a) (X := X.suite a ((a, oe4) :: (X.pn ++ pins))) S4 hN hi hloc rfl (fun s5 S5 => wpAny_mono ((hsu a oe4 cls d (X.pn ++ pins) hz4 ⟨vs4, hd4⟩).run [] s5 (List.set σ' i (some (.ref a))) H' _ S5 (hyes rfl a na)) (fun f s6 hsp => ?_) fun x s6 z => z.elim) (.inr hln)
      have end_ : ∀ {σ6 : L2.St} {H6 : Hp} {Q : Unit → Shared → Prop}, L2.Inv (X.suite a ((a, oe4) :: (X.pn ++ pins))) [] σ6 H6 s6 → (∀ s7, L2.Inv X pins (σ6.set i none) (upd H6 a (ExH cls d a)) s7 → Q () s7) →
          wpAny (model X.prog X.w) X.A (do bindName X.env n .none; unbindBehindTheSuite X.env n pos') Q X.xe s6 := by
        intro σ6 H6 Q S6 hq
        obtain ⟨g1, g2, _⟩ := S6.pin (a, oe4) (List.mem_append_left _ List.mem_cons_self)
        have I6 := Inv.exh (Inv.unsuite S6 ok) g1 hd4 g2 nL n0 npin
        rw [hz4.1, hz4.2] at I6
        exact gone_ok I6 hN hi hln hq
      cases f with
      | ret u =>
        obtain ⟨v6, σ6, H6, S6, r6, q6⟩ := hsp
        exact end_ S6 fun s7 J7 => ⟨v6, σ6.set i none, _, J7, r6, q6⟩
      | next =>
        obtain ⟨σ6, H6, S6, q6⟩ := hsp
        exact end_ S6 fun s7 J7 => ⟨σ6.set i none, _, J7, q6⟩
      | brk =>
        obtain ⟨σ6, H6, S6, q6⟩ := hsp
        exact end_ S6 fun s7 J7 => ⟨σ6.set i none, _, J7, q6⟩
      | cont =>
        obtain ⟨σ6, H6, S6, q6⟩ := hsp
        exact end_ S6 fun s7 J7 => ⟨σ6.set i none, _, J7, q6⟩
end Itp
namespace Itp
open L2 PySem.Spec PyProof.Rows PySem
section
variable {X : Cx} {cl : Nat → Addr} {base : Lv} {Wx : WX}
theorem ps_raiseD {n : Nat} {x m : Str} {j : Nat} {p p2 cpos pos : Pos} {bmB : List Value} {B newId initId : String} (hc : X.calm = true) (tk : Takes X Wx) (hb : ExcBaseFacts B newId initId bmB) (he : PySem.W.excIn X.K (cl n) bmB newId = true) (hm : X.mg x = some (.ref (cl n)))
    (hk : PySem.W.keepIn X.K (.ref (cl n)) = true) (hr : Raises X (.ref (cl n))) (hg : Gl X x) (hd : (x == Str.ofString "__debug__") = false) :
    PS X (.Raise (some (.Call (.Name x p) [.Constant (.str m) j p2] [] cpos)) none pos) (tS X.K cl base Wx fun env st => .exc n env st) := by
  refine PS.imp (ps_raise hc tk (pmk_own hb he hm hk hr hg hd)) fun D σ H h => ?_
  obtain ⟨W, env, st, sr, er, p⟩ := h
  exact p W H σ (Le.refl _ _) (Nat.le_refl _) sr er
def tryF (sub : Nat → Nat → Option Bool) (c i j : Nat) (fb : Env → Sto → OutS) : Env → Sto → OutS := fun env st => match fb env st with
    | .exc n e s => match sub n c with
      | some true => if i < e.length then (match put e j (.exc n) with
        | some e1 => .nx (e1.set i none) s
        | none => .bad) else .bad
      | some false => .exc n e s
      | none => .bad
    | r => r
theorem ps_tryD {sub : Nat → Nat → Option Bool} {c i j : Nat} {x y n : Str} {body : List Stmt} {np np2 yp spos pos pos' : Pos} {fb : Env → Sto → OutS} (F : KF X.K cl sub) (hs : X.stack = X.env :: X.outer) (hf : X.env.frame = some X.env.locals) (hex : X.ex = [])
    (hN : X.N.Nodup) (hi : X.N[i]? = some n) (hln : X.env.kindOf n = some .local) (hj : X.N[j]? = some y) (hjl : X.env.kindOf y = some .local) (ij : i ≠ j) (hc : Names X x (.ref (cl c))) (tk : Takes X Wx)
    (hn1 : (n == Str.ofString "__debug__") = false) (hn2 : (n == Str.ofString "__classdict__") = false)
    (hb : ∀ (W : WX) (pn : List (Addr × Obj)) (xe : Value → Shared → Prop), Takes (X.tr pn xe) W → PassesOwn (model X.prog X.w) X.A X.env xe → PSs (X.tr pn xe) body (tS X.K cl base W fb)) :
    PS X (.Try body [.ExceptHandler (some (.Name x np)) (some n) [.Assign [.Name y yp] (.Name n np2) spos] pos'] [] [] pos) (tS X.K cl base Wx (tryF sub c i j fb)) := by
  refine PS.imp (ps_try_keep (i := i) (c := .ref (cl c)) (tb := fun W => tS X.K cl base W fb) (ts := fun a cls d => tSeq (tAsg (tVar i) (gName j)) tNext) (Wout := Wx) hs hf hex hN hi hln hc tk hb fun a oe cls d pn hz hd =>
    pss_cons (ps_set (i := j) hN hj (.inl hjl) (pv (i := i) hi (.inl hln) hn1 hn2) rfl (.inr hjl)) pss_nil) fun D σ H h => ?_
  obtain ⟨W, env, st, sr, er, p⟩ := h
  refine ⟨W, env, st, sr, er, ?_⟩
  unfold tryF at p
  cases e : fb env st with
  | exc m e1 s1 =>
    rw [e] at p
    simp only at p
    intro W1 H1 σ1 l1 le1 sr1 er1
    cases e2 : sub m c with
    | none =>
      rw [e2] at p
      exact p.elim
    | some b =>
      rw [e2] at p
      refine ⟨b, F.exm m c b e2, fun hb a na => ?_, fun hb => ?_⟩
      · subst hb
        simp only at p
        split at p
        · rename_i hlt
          cases e3 : put e1 j (.exc m) with
          | none =>
            rw [e3] at p
            exact p.elim
          | some e4 =>
            rw [e3] at p
            unfold put at e3
            split at e3
            · cases e3
              have hil : i < σ1.length := by
                rw [← er1.1]
                exact hlt
              refine ⟨.ref a, List.getElem?_set_self hil, ?_⟩
              obtain ⟨s2, l2⟩ := sr1.share (o := ExC (cl m) a) na
              refine p ⟨upd W1.F a (ExC (cl m) a), W1.r, W1.G⟩ _ _ (l1.trans l2 le1) le1 s2 ?_
              have : (((σ1.set i (some (V.ref a))).set j (some (.ref a))).set i none) = (σ1.set j (some (.ref a))).set i none := by
                rw [List.set_comm _ _ ij, List.set_set]
              rw [this]
              exact ((er1.up l2 (Nat.le_refl _)).set (.exc m upd_same)).clr i
            · cases e3
        · exact p.elim
      · subst hb
        exact p W1 H1 σ1 l1 le1 sr1 er1
  | _ =>
    rw [e] at p
    exact p
end
end Itp
namespace Itp
open L2 PySem.Spec PyProof.Rows PySem
/-! ### dict displays -/
section
variable {X : Cx} {cl : Nat → Addr} {base : Lv} {Wx : WX}
def dctF (m : Bool) (ks : List Key) (fs : Env → Sto → Out (List D)) : Env → Sto → Out D := fun env st =>
  (fs env st).bind fun ds st => if dctOk ks ds.length then (if m then .ok (.obj st.length) (st ++ [.dct ks ds]) else .ok (.dct ks ds) st) else .bad
def keyC : Key → Expr → Bool
  | .inl i, .Constant (.int j) _ _ => decide (i = j)
  | .inr x, .Constant (.str y) _ _ => decide (x = y)
  | _, _ => false
def keysC : List Key → List (Option Expr) → Bool
  | [], [] => true
  | k :: ks, some e :: es => keyC k e && keysC ks es
  | _, _ => false
theorem pe_key {k : Key} {e : Expr} (h : keyC k e = true) : PE X e (tC (kV k)) := by
  unfold keyC at h
  split at h
  · have := of_decide_eq_true h
    subst this
    exact pe_int
  · have := of_decide_eq_true h
    subst this
    exact pe_str
  · cases h
def trsD (K : PySem.W.Frag) (cl : Nat → Addr) (base : Lv) (Wx : WX) : List Key → List (Env → Sto → Out D) → List (TE × TE)
  | k :: ks, f :: fs => (tC (kV k), tD K cl base Wx f) :: trsD K cl base Wx ks fs
  | _, _ => []
theorem pps_es {pos : Pos} : ∀ {ks : List Key} {keys : List (Option Expr)} {values : List Expr} {fs : List (Env → Sto → Out D)}, keysC ks keys = true → PEs X cl base Wx values fs → ks.length = values.length → PPs X pos keys values (trsD X.K cl base Wx ks fs)
  | [], [], [], _, _, .nil, _ => pps_nil
  | k :: ks, some e :: es, v :: vs, _, h, .cons hv hs, hl => by
    simp only [keysC, Bool.and_eq_true] at h
    exact pps_cons (pe_key h.1) hv (pps_es h.2 hs (by simpa using hl))
  | [], _ :: _, _, _, h, _, _ => by simp [keysC] at h
  | _ :: _, [], _, _, h, _, _ => by simp [keysC] at h
  | _ :: _, none :: _, _, _, h, _, _ => by simp [keysC] at h
  | [], [], _ :: _, _, _, _, hl => by simp at hl
  | _ :: _, some _ :: _, [], _, _, _, hl => by simp at hl
theorem pairs_imp : ∀ {ks : List Key} {fs : List (Env → Sto → Out D)} {σ : L2.St} {H : Hp} {R : List V → Hp → Prop} {Q : List (V × V) → Hp → Prop}, ks.length = fs.length → tL X.K cl base Wx (evsF fs) σ H R → (∀ vs H', vs.length = ks.length → R vs H' → Q ((ks.zip vs).map fun kv => (kV kv.1, kv.2)) H') → tPairs (trsD X.K cl base Wx ks fs) σ H Q
  | [], [], σ, H, R, Q, _, h, k => by
    obtain ⟨W, env, st, sr, er, p⟩ := h
    exact k [] H rfl (p W H [] (Le.refl _ _) (Nat.le_refl _) sr .nil)
  | k :: ks, f :: fs, σ, H, R, Q, hl, h, kk => by
    obtain ⟨W, env, st, sr, er, p⟩ := h
    refine ⟨W, env, st, sr, er, ?_⟩
    rw [evsF] at p
    refine p.bind fun W1 H1 st1 d v e1 l1 le1 sr1 r1 p1 => ?_
    exact pairs_imp (ks := ks) (fs := fs) (by simpa using hl) (R := fun vs H' => R (v :: vs) H') ⟨W1, env, st1, sr1, er.up l1 le1, p1.bind fun W2 H2 st2 ds vs e2 l2 le2 sr2 r2 p2 => p2 W2 H2 (v :: vs) (Le.refl _ _) (Nat.le_refl _) sr2 (.cons (r1.up' l2 le2) r2)⟩ fun vs H' hl2 hr => kk (v :: vs) H' (by simp [hl2]) hr
  | [], _ :: _, _, _, _, _, hl, _, _ => by simp at hl
  | _ :: _, [], _, _, _, _, hl, _, _ => by simp at hl
theorem merge_fresh : ∀ {kvs acc : List (Key × V)}, nodupK (kvs.map (·.1)) = true → (∀ k, hasKey (acc.map (·.1)) k = true → hasKey (kvs.map (·.1)) k = false) → mergeK acc kvs = acc ++ kvs
  | [], acc, _, _ => by simp [mergeK]
  | p :: kvs, acc, hn, ha => by
    rw [List.map_cons, nodupK] at hn
    simp only [Bool.and_eq_true, Bool.not_eq_true'] at hn
    have hp : hasKey (acc.map (·.1)) p.1 = false := by
      cases e : hasKey (acc.map (·.1)) p.1 with
      | false => rfl
      | true =>
        have := ha _ e
        simp [hasKey] at this
    have e1 : putK acc p.1 p.2 = acc ++ [p] := by
      unfold putK
      rw [any_mem, hp]
      rfl
    have : mergeK acc (p :: kvs) = mergeK (putK acc p.1 p.2) kvs := rfl
    rw [this, e1, merge_fresh hn.2 (fun k hk => ?_), List.append_assoc]
    · rfl
    · rw [List.map_append] at hk
      unfold hasKey at hk
      rw [List.any_append, Bool.or_eq_true] at hk
      rcases hk with hk | hk
      · have := ha k hk
        rw [List.map_cons] at this
        unfold hasKey at this ⊢
        rw [List.any_cons, Bool.or_eq_false_iff] at this
        exact this.2
      · simp at hk
        subst hk
        exact hn.1
theorem zip_fst {ks : List Key} {vs : List V} (h : vs.length = ks.length) : (ks.zip vs).map (·.1) = ks := by
  induction ks generalizing vs with
  | nil => rfl
  | cons k ks ih =>
    cases vs with
    | nil => simp at h
    | cons v vs => simp at h; simp [ih h]
theorem zip_snd {ks : List Key} {vs : List V} (h : vs.length = ks.length) : (ks.zip vs).map (·.2) = vs := by
  induction ks generalizing vs with
  | nil => cases vs with
    | nil => rfl
    | cons v vs => simp at h
  | cons k ks ih =>
    cases vs with
    | nil => simp at h
    | cons v vs => simp at h; simp [ih h]
theorem dct_imp {m : Bool} {ks : List Key} {fs : List (Env → Sto → Out D)} {σ : L2.St} {H : Hp} {Q : VK} (hl : ks.length = fs.length) (h : tD X.K cl base Wx (dctF m ks (evsF fs)) σ H Q) : tDisp (trsD X.K cl base Wx ks fs) σ H Q := by
  obtain ⟨W, env, st, sr, er, p⟩ := h
  intro P hP
  have gP : W.G P = none := by
    cases q : W.G P with
    | none => rfl
    | some u =>
      rw [sr.held P u q] at hP
      cases hP
  refine pairs_imp (R := fun vs H2 => H2 P = some (.dK []) ∧ vs.length = ks.length ∧ ks.length ≤ 15 ∧ nodupK ks = true ∧ Q (.ref P) (upd H2 P (.dK (ks.zip vs)))) hl ?_ ?_
  · refine ⟨⟨W.F, W.r, upd W.G P (.dK [])⟩, env, st, sr.hold hP, er, ?_⟩
    unfold dctF at p
    cases e : evsF fs env st with
    | bad =>
      rw [e] at p
      exact p
    | exc n s1 =>
      rw [e] at p
      intro W1 H1 l1 le1 sr1
      have g1 : W1.G = upd W.G P (.dK []) := l1.g
      obtain ⟨F1, r1, G1⟩ := W1
      cases (g1 : G1 = _)
      have fP : F1 P = none := sr1.hF P _ upd_same
      refine p ⟨upd F1 P (.dK []), r1, W.G⟩ H1 ⟨fun a o q => ?_, l1.at_, rfl⟩ le1 (sr1.give gP)
      have q1 : F1 a = some o := l1.sub a o q
      have : a ≠ P := fun z => by
        rw [z, fP] at q1
        cases q1
      show upd F1 P _ a = some o
      rw [upd_ne this]
      exact q1
    | ok ds s1 =>
      rw [e] at p
      simp only [Out.bind] at p
      intro W1 H1 vs l1 le1 sr1 rp1
      have g1 : W1.G = upd W.G P (.dK []) := l1.g
      obtain ⟨F1, r1, G1⟩ := W1
      cases (g1 : G1 = _)
      have fP : F1 P = none := sr1.hF P _ upd_same
      have hP1 : H1 P = some (.dK []) := sr1.held P _ upd_same
      by_cases hd : dctOk ks ds.length = true
      · rw [if_pos hd] at p
        unfold dctOk at hd
        simp only [Bool.and_eq_true, decide_eq_true_eq] at hd
        obtain ⟨hn, hlen, h15⟩ := hd
        have hv : vs.length = ks.length := by rw [rp1.length, hlen]
        refine ⟨hP1, hv, by omega, hn, ?_⟩
        have sr2 : SR X.K cl base ⟨F1, r1, upd W.G P (.dK (ks.zip vs))⟩ s1 (upd H1 P (.dK (ks.zip vs))) := sr1.rehold
        cases m with
        | true =>
          have s3 := sr2.cellG (o := .dct ks ds) gP fun H' q => ⟨_, q, zip_fst hv, by rw [zip_snd hv]; exact rp1⟩
          have lp := Wd.put_le ⟨F1, r1, W.G⟩ s1.length P
          refine p (Wd.put ⟨F1, r1, W.G⟩ s1.length P) _ (.ref P) ⟨l1.sub, fun c hc => (lp.at_ c (Nat.lt_of_lt_of_le hc le1)).trans (l1.at_ c hc), rfl⟩ (by rw [List.length_append]; exact Nat.le_trans le1 (Nat.le_add_right _ _)) s3 ?_
          have : Rp X.K cl F1 (Wd.put ⟨F1, r1, W.G⟩ s1.length P).r (s1 ++ [O.dct ks ds]).length (.ref ((Wd.put ⟨F1, r1, W.G⟩ s1.length P).r s1.length)) (.obj s1.length) := .obj _ (by simp)
          rw [Wd.put_self] at this
          exact this
        | false =>
          have s3 := sr2.give gP
          have sub : ∀ a o, F1 a = some o → upd F1 P (.dK (ks.zip vs)) a = some o := fun a o q => by
            have : a ≠ P := fun z => by
              rw [z, fP] at q
              cases q
            rw [upd_ne this]
            exact q
          refine p ⟨upd F1 P (.dK (ks.zip vs)), r1, W.G⟩ _ (.ref P) ⟨fun a o q => sub a o (l1.sub a o q), l1.at_, rfl⟩ le1 s3 ?_
          exact .dct upd_same (zip_fst hv) (by rw [zip_snd hv]; exact rp1.up sub (fun _ _ => rfl) (Nat.le_refl _))
      · rw [if_neg hd] at p
        exact p.elim
  · rintro vs H' hv ⟨h1, _, h15, hn, hq⟩
    refine ⟨h1, ks.zip vs, rfl, ?_, ?_⟩
    · rw [List.length_zip, hv, Nat.min_self]
      exact h15
    · rw [merge_fresh (by rw [zip_fst hv]; exact hn) (fun k hk => by simp [hasKey] at hk)]
      exact hq
theorem pe_dctD {m : Bool} {ks : List Key} {keys : List (Option Expr)} {values : List Expr} {fs : List (Env → Sto → Out D)} {pos : Pos} (h : PEs X cl base Wx values fs) (hk : keysC ks keys = true) (hl : ks.length = values.length) (h0 : keys ≠ []) (h15 : keys.length ≤ 15) :
    PE X (.Dict keys values pos) (tD X.K cl base Wx (dctF m ks (evsF fs))) := by
  have all_ : ∀ {ks : List Key} {keys : List (Option Expr)}, keysC ks keys = true → keys.all (·.isSome) = true ∧ keys.length = ks.length := by
    intro ks
    induction ks with
    | nil =>
      intro keys h
      cases keys with
      | nil => exact ⟨rfl, rfl⟩
      | cons => simp [keysC] at h
    | cons k ks ih =>
      intro keys h
      cases keys with
      | nil => simp [keysC] at h
      | cons o es =>
        cases o with
        | none => simp [keysC] at h
        | some e =>
          simp only [keysC, Bool.and_eq_true] at h
          obtain ⟨h1, h2⟩ := ih h.2
          exact ⟨by simp [h1], by simp [h2]⟩
  obtain ⟨ha, hkl⟩ := all_ hk
  have hfs : fs.length = values.length := by
    clear ha hkl hk hl h0 h15
    induction h with
    | nil => rfl
    | cons a as ih => simp [ih]
  exact Itp.PE.imp (pe_disp (pps_es hk h hl) ha (by rw [hkl, hl]) h0 h15) fun σ H Q q => dct_imp (by rw [hl, hfs]) q
/-- {} -/
theorem pe_dct0 {m : Bool} {pos : Pos} : PE X (.Dict [] [] pos) (tD X.K cl base Wx (dctF m [] (evsF []))) := by
  refine Itp.PE.imp pe_dnewK fun σ H Q h => ?_
  obtain ⟨W, env, st, sr, er, p⟩ := h
  intro P hP
  have p : Post (relD X.K cl) X.K cl base Wx W st.length σ (if m then .ok (.obj st.length) (st ++ [.dct [] []]) else .ok (.dct [] []) st) Q := p
  cases m with
  | true =>
    obtain ⟨s1, l1⟩ := sr.fresh (o := .dct [] []) (u := .dK []) hP fun H' e => ⟨_, e, rfl, .nil⟩
    refine p _ _ (.ref P) l1 (by simp) s1 ?_
    have : Rp X.K cl (W.put st.length P).F (W.put st.length P).r (st ++ [O.dct [] []]).length (.ref ((W.put st.length P).r st.length)) (.obj st.length) := .obj _ (by simp)
    rw [Wd.put_self] at this
    exact this
  | false =>
    obtain ⟨s1, l1⟩ := sr.share (o := .dK []) hP
    exact p _ _ (.ref P) l1 (Nat.le_refl _) s1 (.dct upd_same rfl .nil)
end
/-! ### all, any of a generator expression -/
section
variable {X : Cx} {cl : Nat → Addr} {base : Lv} {Wx : WX}
def turnG (tg : Tg) (own : List Nat) (fe : Env → Sto → Out D) (env : Env) : D → Sto → Out D := fun d st =>
  match bnd tg d (wipeD env own) with
  | some env1 => fe env1 st
  | none => .bad
def genF (k : Bool) (own : List Nat) (tg : Tg) (ik : IK) (fs : Env → Sto → Out (List D)) (fe : Env → Sto → Out D) : Env → Sto → Out D := fun env st =>
  (fs env st).bind fun vs st => match items ik vs with
    | some xs => genD (turnG tg own fe env) k xs st
    | none => .bad
theorem genD_noexc {f : D → Sto → Out D} {k : Bool} : ∀ {ds : List D} {st s : Sto} {n : Nat}, genD f k ds st ≠ .exc n s
  | [], _, _, _, h => by cases h
  | d :: ds, st, s, n, h => by
    rw [genD] at h
    split at h
    · split at h
      · exact genD_noexc h
      · cases h
    · cases h
theorem gx_imp {k : Bool} {own : List Nat} {tg : Tg} {ik : IK} {fs : Env → Sto → Out (List D)} {fe : Env → Sto → Out D} (hs : ∀ i ∈ tg.slots, i ∈ own) {σ : L2.St} {H : Hp} {Q : VK} (h : tD X.K cl base Wx (genF k own tg ik fs fe) σ H Q) :
    Gx.tGx base.T (!k) (tI X.K cl base Wx ik fs) (gD X.K cl base tg.slots (bnd tg)) (tD X.K cl base WF fe) own σ H Q := by
  obtain ⟨W, env, st, sr, er, p⟩ := h
  refine ⟨W, env, st, sr, er, ?_⟩
  unfold genF at p
  cases e : fs env st with
  | bad =>
    rw [e] at p
    exact p
  | exc n s1 =>
    rw [e] at p
    exact p
  | ok ds st1 =>
    rw [e] at p
    simp only [Out.bind] at p ⊢
    cases e2 : items ik ds with
    | none =>
      rw [e2] at p
      exact p
    | some xs =>
      rw [e2] at p
      simp only at p ⊢
      intro W1 H1 l1 le1 sr1 J wk
      obtain ⟨G, Y, wk, wg, wy⟩ := wk
      refine ⟨sr1.tab, fun H2 eN T2 => ?_⟩
      have sr2 := sr1.tabs eN T2
      refine ⟨fun i m H => i + m = xs.length ∧ ∃ W2 st2, Le st1.length W1 W2 ∧ st1.length ≤ st2.length ∧ SR X.K cl base W2 st2 H ∧ Post (relD X.K cl) X.K cl base WF W1 st1.length σ (genD (turnG tg own fe env) k (xs.drop i) st2) Q, ⟨xs.length, by omega, W1, st1, Le.refl _ _, Nat.le_refl _, sr2, ?_⟩, ?_, ?_⟩
      · rw [List.drop_zero]
        have p := Post.mono p l1 le1
        cases e3 : genD (turnG tg own fe env) k xs st1 with
        | ok d s => rw [e3] at p; exact p
        | exc n s => exact absurd e3 genD_noexc
        | bad => rw [e3] at p; exact p
      · rintro i H ⟨hi, W2, st2, l2, le2, sr2, p2⟩
        have hi : i = xs.length := by omega
        subst hi
        refine ⟨wk.stops H (wg _ _ _ _ l2.x le2 sr2), ?_⟩
        rw [List.drop_length, genD] at p2
        rw [Bool.not_not]
        exact p2 W2 H _ l2 le2 sr2 (.bl k)
      · rintro i m H ⟨hi, W2, st2, l2, le2, sr2, p2⟩
        have hlt : i < xs.length := by omega
        refine ⟨wk.goes i H hlt (wg _ _ _ _ l2.x le2 sr2), fun x H3 y => ?_⟩
        have y := wk.yields i H x H3 hlt (wg _ _ _ _ l2.x le2 sr2) y
        obtain ⟨W3, l3, sr3, rx⟩ := wy i _ _ _ _ _ _ _ (List.getElem?_eq_getElem hlt) l2.x le2 sr2 y
        rw [List.drop_eq_getElem_cons hlt, genD] at p2
        cases e3 : turnG tg own fe env xs[i] st2 with
        | bad => rw [e3] at p2; exact p2.elim
        | exc n s => rw [e3] at p2; exact p2.elim
        | ok d s4 =>
          rw [e3] at p2
          cases d with
          | bl b =>
            simp only at p2
            unfold turnG at e3
            cases e4 : bnd tg xs[i] (wipeD env own) with
            | none =>
              rw [e4] at e3
              cases e3
            | some env1 =>
              rw [e4] at e3
              simp only at e3
              have er3 : EnvR X.K cl W3 st2.length env σ := ((er.up l1 le1).up l2 le2).up l3 (Nat.le_refl _)
              refine ⟨W3, wipeD env own, st2, xs[i], env1, sr3, er3.wipe own, rx, e4, fun σ2 er2 same => ⟨wipe_same same hs, W3, env1, st2, sr3, er2, ?_⟩⟩
              rw [e3]
              intro W4 H4 v l4 le4 sr4 rv
              cases rv
              have lx4 : Le st1.length W1 W4 := (l2.trans l3 le2).trans l4 le2
              refine ⟨b, rfl, fun hb => ?_, fun hb => ?_⟩
              · subst hb
                rw [if_neg (by cases k <;> simp)] at p2
                exact p2 W4 H4 _ lx4 (Nat.le_trans le2 le4) sr4 (.bl _)
              · have hb : b = k := by cases b <;> cases k <;> simp at hb ⊢
                rw [if_pos hb] at p2
                exact ⟨by omega, W4, s4, lx4, Nat.le_trans le2 le4, sr4, p2⟩
          | _ => exact (show False from p2).elim
end
end Itp
namespace Gx
open L2 PySem.Spec PyProof.Rows PySem LamX
/-! ### a lambda handed on: what it raises is wished for at the slots where it is called -/
abbrev lamO (X : Cx) (scope : Scope) (params : Arguments) (body : Expr) (pm : Value) (c' : Addr) (ctv : Value) : Obj :=
  PySem.W.kla_obj "<lambda>" (X.env.qual ++ "<lambda>") params body scope (cloFrom X.env.cells scope.names []) pm c' ctv
section
variable {X : Cx} {pins : List (Addr × Obj)} {σ : L2.St} {H HZ : Hp} {s s1 : Shared}
/-- the context of a def that holds the lambda -/
abbrev heldCx (X : Cx) (CXg : CXT) (Eg : XK) (Ng : List Str) (qg : Str) (sg : Scope) (g : Addr) (cdg : Value) (s : Shared) (H : Hp) (pn : List (Addr × Obj)) (xe : Value → Shared → Prop) : Cx :=
  (cxOf CXg X.prog X.w X.K X.mg X.base Ng qg sg g cdg X.A X.stack s H Eg).tr pn xe
theorem act_at {CXg : CXT} {Eg : XK} {Ng : List Str} {qg a : Str} {sg scope : Scope} {g f c' : Addr} {cdg pm ctv : Value} {params : Arguments} {body : Expr} {k i : Nat} {pn : List (Addr × Obj)} {xe : Value → Shared → Prop} {W : WX} {tb : XK → TE} {p1 p2 : Pos}
    (I : L2.Inv X pins σ H s) (L : LamS X.env.scope scope) (hf : s.heap.get? f = some (lamO X scope params body pm c' ctv)) (hfn : H f = none) (hfr : f ∉ frs X.stack)
    (hbind : bindArgs (PySem.W.kla_fn "<lambda>" (X.env.qual ++ "<lambda>") params body scope (cloFrom X.env.cells scope.names []) pm (.ref c') ctv) ⟨[], []⟩ = pure [])
    (tk : Takes (heldCx X CXg Eg Ng qg sg g cdg s H pn xe) W) (hr : Room (k + 1) (X.A.deeper (envOfC qg sg s.heap.objs.size g cdg)))
    (hbody : ∀ (E : XK) (A : Around) (outer : List PySem.Env) (s : Shared) (H : Hp), A.guards = X.A.guards → Room k (A.deeper (lamEnv X scope s.heap.objs.size f c')) → PE (lamCx X A outer s H E scope f c') body (tb E))
    (hN : Ng[i]? = some a) (hv : Vis sg a) (hd : (a == (Str.ofString "__debug__")) = false) (hcd : (a == (Str.ofString "__classdict__")) = false) :
    PE (heldCx X CXg Eg Ng qg sg g cdg s H pn xe) (.Call (.Name a p1) [] [] p2) fun σZ HZ Q => σZ[i]? = some (some (.ref f)) ∧ HZ c' = some (CodeO c' (X.env.qual ++ "<lambda>")) ∧ tb (WE W σZ) σ HZ Q := by
  constructor
  intro pinsZ sZ σZ HZ Q IZ ⟨hs, hc, ht⟩
  have var := (pe_var (X := heldCx X CXg Eg Ng qg sg g cdg s H pn xe) (pos := p1) (i := i) hN hv hd hcd).run pinsZ sZ σZ HZ (fun v H1 => v = .ref f ∧ H1 = HZ) IZ ⟨.ref f, hs, rfl, rfl⟩
  refine wpAny_Call_Name_kw (thn var ?_)
  rintro u s1 ⟨v, H1, I1, r1, rfl, rfl⟩
  cases (show u = Value.ref f from r1)
  have unI : Un (frs X.stack) [] H H1 s.heap s1.heap := I1.base
  have at1 : s1.heap.get? f = some (lamO X scope params body pm c' ctv) := unI.keep f _ hf hfn hfr fun z => by cases z
  refine PySem.W.callWith_F0 ⟨_, _, _, _, at1⟩ ?_
  obtain ⟨⟨oc, vs, t, hoc, hdc, hvc⟩, _, _⟩ := I1.hok c' _ hc
  generalize hA : X.A.deeper (envOfC qg sg s.heap.objs.size g cdg) = AZ at hr
  generalize hS : envOfC qg sg s.heap.objs.size g cdg :: X.stack = SZ
  have e0 : Env0 X.prog X.w X.K X.mg X.base AZ SZ s1 H1 := by
    rw [← hA, ← hS]
    exact I1.env0
  have gZ : AZ.guards = X.A.guards := by rw [← hA]; rfl
  have rc : codeAny (model X.prog X.w) AZ (.call (.ref f) ⟨[], []⟩) (CR (L2.CX X.prog X.w) SZ X.prog X.w H1 s1 Q (WE W σZ)) s1 := by
    refine PySem.W.kla_callFunE hr.depth at1 rfl L.co L.gen rfl ⟨c', oc, vs, t, rfl, hoc, hdc, hvc⟩ ?_
    rw [hbind]
    refine wpAny_pure (wpAny_newFunctionEnv (fun y hy => (L.own y hy).2) (fun y hy => by cases hy) (fun h₁ hns hsb => ⟨I1.nolimit.fresh _ hsb, ?_⟩) L.kind)
    have kp : ∀ b o, s1.heap.get? b = some o → h₁.get? b = some o := fun b o e => hsb.extBut b o (Nat.ne_of_lt (Heap.lt_size e)) (Heap.get?_push_of_some _ e)
    have J := lam_start2 (f := f) (c' := c') (tk := s1.toks + ([] : List (Str × Value)).length) (E := WE W σZ) I L e0 hr.hd unI hns kp
    refine PySem.W.kla_codeExpr (wpAny_mono ((hbody (WE W σZ) AZ SZ s1 H1 gZ (hr.deeper _)).run [] _ σ H1 Q J ht) ?_ fun e s' hq => hq)
    rintro v s' ⟨w', H', J', rv, q⟩
    exact ⟨w', H', J'.os, J'.bare, J'.base, J'.hok, rv, q⟩
  have hx : PassesAt (L2.CX X.prog X.w) (heldCx X CXg Eg Ng qg sg g cdg s H pn xe) σZ (WE W σZ) := passAt tk σZ
  have rc' : codeAny (model X.prog X.w) (X.A.deeper (envOfC qg sg s.heap.objs.size g cdg)) (.call (.ref f) ⟨[], []⟩) (CR (L2.CX X.prog X.w) (envOfC qg sg s.heap.objs.size g cdg :: X.stack) X.prog X.w H1 s1 Q (WE W σZ)) s1 := by
    rw [hA, hS]
    exact rc
  refine wpAny_call (codeAny_mono rc' ?_)
  rintro (e | fl) s' hq
  · exact hx pinsZ H1 s1 e s' I1 hq
  · cases fl with
    | ret u => exact I1.after hq
    | _ => exact (hq : False).elim
/-- the def that gets the lambda: what it makes of the lambda's reading -/
def GivesS (X : Cx) (Ng : List Str) (x : Str) (sg : Scope) (g : Addr) (cdg : Value) (bg : List Stmt) (a q : Str) (TT : (XK → Hp → VK → Prop) → Hp → VK → Prop) : Prop :=
  ∀ (f c' : Addr) (s : Shared) (H : Hp) (Q : VK) (tl : XK → Hp → VK → Prop),
    (∀ (W : WX) (pn : List (Addr × Obj)) (xe : Value → Shared → Prop) (p1 p2 : Pos), Takes (heldCx X C8.CX0 C8.E0 Ng x sg g cdg s H pn xe) W →
      PE (heldCx X C8.CX0 C8.E0 Ng x sg g cdg s H pn xe) (.Call (.Name a p1) [] [] p2) fun σZ HZ Q => σZ[0]? = some (some (.ref f)) ∧ HZ c' = some (CodeO c' q) ∧ tl (WE W σZ) HZ Q) →
    H c' = some (CodeO c' q) → TT tl H Q → ∃ t, PSs (cxOf C8.CX0 X.prog X.w X.K X.mg X.base Ng x sg g cdg X.A X.stack s H C8.E0).nox bg t ∧ t { nx := fun _ H' => Q .non H', rt := Q } (L2.start Ng [.ref f]) H
/-- x(lambda: body) -/
theorem pe_lamS {T : List (Addr × Str)} {TT : (XK → Hp → VK → Prop) → Hp → VK → Prop} {x a : Str} {g c P : Addr} {k : Nat} {pg params : Arguments} {bg : List Stmt} {sg scope : Scope} {dV kV doc pm cdv ct oc : Value} {an od : Option Addr} {osl : Array (Option Value)} {Ng : List Str}
    {body : Expr} {t : XK → TE} {p lpos pos : Pos} (hg : Gl X x) (hm : X.mg x = some (.ref g)) (hk : PySem.W.keepIn X.K (.ref g) = true)
    (lk : X.K.lookup g = some ⟨oc, od, .func (PySem.W.fnOf x x pg bg sg dV kV doc pm an cdv ct), osl⟩) (hcg : PySem.W.codeIn X.K cdv x = true) (hb : L2.Binds X.K (PySem.W.fnOf x x pg bg sg dV kV doc pm an cdv ct) [a] []) (Sg : FnScope Ng [a] sg) (hNg : Ng[0]? = some a) (hva : Vis sg a)
    (hG : GivesS X Ng x sg g cdv bg a (X.env.qual ++ "<lambda>") TT) (TB : LamX.TabB X.base X.mg c P) (hcode : X.env.code = .ref c) (hmT : (P, X.env.qual ++ "<lambda>") ∈ T) (hu : ∀ p ∈ T, p.1 = P → p.2 = X.env.qual ++ "<lambda>") (hr : Room (k + 2) X.A) (L : LamS X.env.scope scope)
    (hdef : defaultsOf params X.env = ([], [])) (hbind : ∀ (q : Str) (cl : List (Str × Addr)) (pm cv ctv : Value), bindArgs (PySem.W.kla_fn "<lambda>" q params body scope cl pm cv ctv) ⟨[], []⟩ = pure [])
    (hbody : ∀ (A : Around) (outer : List PySem.Env) (s : Shared) (H : Hp) (E : XK) (f c' : Addr), A.guards = X.A.guards → Room k (A.deeper (lamEnv X scope s.heap.objs.size f c')) → PE (lamCx X A outer s H E scope f c') body (t E))
    (hdb : (x == (Str.ofString "__debug__")) = false) (hd : (a == (Str.ofString "__debug__")) = false) (hcd : (a == (Str.ofString "__classdict__")) = false) :
    PE X (.Call (.Name x p) [.Lambda params body scope lpos] [] pos) (tLam T TT t) := by
  constructor
  intro pins s σ H Q I ⟨hT, h⟩
  refine wpAny_Call_Name_kw (ld_glob I hg hm ?_ hdb)
  refine PySem.W.callWith_K (h₀ := X.base) I.ok.mod.kin hk ?_ (by rfl) (by rfl)
  show wpAny (model X.prog X.w) X.A (spliced ((false, eval (.Lambda params body scope lpos) X.env) :: backTo pos (starEach [] X.env))) _ X.xe s
  refine Calls.spliced_cons (lam_make2 I TB hcode hmT hu hT hdef (L.has I.ok) ?_)
  intro f c' pm' ctv H1 s' I1 eN T1 hf hfn hfr hco
  refine Calls.spliced_nil ⟨I1.kIn, ?_⟩
  have rc : codeAny (model X.prog X.w) X.A (.call (.ref g) ⟨[.ref f], []⟩) (CR C8.CX0 X.stack X.prog X.w H1 s' Q C8.E0) s' := by
    refine run_ofS (k := k + 1) (N := Ng) (ps := [a]) (us := [.ref f]) (vs := [.ref f]) lk hcg Sg hr I1.env0 (hb s' [.ref f] I1.kIn rfl) (.cons rfl .nil) rfl fun hr' => ?_
    obtain ⟨t', ht', hq'⟩ := hG f c' s' H1 Q (fun E H' Q' => t E σ H' Q') (fun W pn xe p1 p2 tk => act_at (i := 0) (tb := t) I1 L hf hfn hfr (hbind _ _ _ _ _) tk hr' (fun E A outer s H gA hr2 => hbody A outer s H E f c' gA hr2) hNg hva hd hcd) hco (h H1 eN T1)
    exact ⟨t', ht'.nox, hq'⟩
  refine wpAny_call (codeAny_mono rc ?_)
  rintro (e | fl) s2 hq
  · exact (show False from hq).elim
  · cases fl with
    | ret u => exact I1.after hq
    | _ => exact (hq : False).elim
end
end Gx
namespace Itp
open L2 PySem.Spec PyProof.Rows PySem
/-! ### a lambda handed to a def -/
/-- what the def does with the lambda that it got -/
def actF (n : Nat) (act : Sto → Out D) : Env → Sto → Out D := fun env st => match env[(0 : Nat)]? with
  | some (some (D.obj c)) => if c = n then act st else .bad
  | _ => .bad
/-- a def of one parameter that gets a lambda, by what its body does -/
structure LamF (P : PySem.Program) (w : World) (K : PySem.W.Frag) (mg : Str → Option Value) (base0 : Heap) (cl : Nat → Addr) (TT : List (Addr × Str)) (k : Nat) (x : Str) (r : (Sto → Out D) → Sto → Out D) : Prop where
  ex : ∃ (g : Addr) (pg : Arguments) (bg : List Stmt) (sg : Scope) (dV kV doc pm cdv ct oc : Value) (an od : Option Addr) (osl : Array (Option Value)) (Ng : List Str) (a : Str) (keep : Bool) (run : (Sto → Out D) → Nat → Env → Sto → OutS),
    mg x = some (.ref g) ∧ PySem.W.keepIn K (.ref g) = true ∧ K.lookup g = some ⟨oc, od, .func (PySem.W.fnOf x x pg bg sg dV kV doc pm an cdv ct), osl⟩ ∧ PySem.W.codeIn K cdv x = true ∧ L2.Binds K (PySem.W.fnOf x x pg bg sg dV kV doc pm an cdv ct) [a] [] ∧ FnScope Ng [a] sg ∧ Ng[0]? = some a ∧ Vis sg a ∧
    (a == (Str.ofString "__debug__")) = false ∧ (a == (Str.ofString "__classdict__")) = false ∧
    (∀ act st, r act st = (endF keep st.length (run act st.length (startD Ng.length [.obj st.length]) (st ++ [.dead]))).calm) ∧
    ∀ (A : Around) (stack : List PySem.Env) (s : Shared) (H : Hp) (act : Sto → Out D) (n : Nat) (b2 : Lv), b2.T = TT → b2.b = n → Room (4 * k + 2) (A.deeper (envOfC x sg s.heap.objs.size g cdv)) → A.guards = some [] →
      (∀ (W : WX) (pn : List (Addr × Obj)) (xe : Value → Shared → Prop) (p1 p2 : Pos), Takes ((cxOf C8.CX0 P w K mg base0 Ng x sg g cdv A stack s H C8.E0).tr pn xe) W →
        PE ((cxOf C8.CX0 P w K mg base0 Ng x sg g cdv A stack s H C8.E0).tr pn xe) (.Call (.Name a p1) [] [] p2) (tD K cl b2 W (actF n act))) →
      PSs (cxOf C8.CX0 P w K mg base0 Ng x sg g cdv A stack s H C8.E0).nox bg (tS K cl b2 WF (run act n))
section
variable {X : Cx} {cl : Nat → Addr} {base : Lv} {Wx : WX}
/-- what the lambda's body is asked -/
def tLb (K : PySem.W.Frag) (cl : Nat → Addr) (base : Lv) (f : Env → Sto → Out D) (E : XK) : TE := fun σ H Q => ∃ b2 : Lv, b2.T = base.T ∧ tD K cl b2 (fun c d _ H => E c d H) f σ H Q
def TTd (K : PySem.W.Frag) (cl : Nat → Addr) (base : Lv) (r : (Sto → Out D) → Sto → Out D) (f : Env → Sto → Out D) : (XK → Hp → VK → Prop) → Hp → VK → Prop := fun tl H Q =>
  ∃ W env st σ, SR K cl base W st H ∧ EnvR K cl W st.length env σ ∧
    (∀ (b2 : Lv) (E : XK) W2 st2 H2 Q2, b2.T = base.T → SR K cl b2 W2 st2 H2 → EnvR K cl W2 st2.length env σ → Post (relD K cl) K cl b2 (fun c d _ H => E c d H) W2 st2.length σ (f env st2) Q2 → tl E H2 Q2) ∧
    Post (relD K cl) K cl base WF W st.length σ (r (fun st => f env st) st) Q
theorem calm_noexc {α : Type} {r : Out α} {n : Nat} {s : Sto} : r.calm ≠ .exc n s := by
  intro h
  cases r <;> cases h
theorem lam_imp {r : (Sto → Out D) → Sto → Out D} {f : Env → Sto → Out D} {σ : L2.St} {H : Hp} {Q : VK} (hr : ∀ act st n s, r act st ≠ .exc n s) (h : tD X.K cl base Wx (fun env st => r (fun st => f env st) st) σ H Q) :
    LamX.tLam base.T (TTd X.K cl base r f) (tLb X.K cl base f) σ H Q := by
  obtain ⟨W, env, st, sr, er, p⟩ := h
  have p : Post (relD X.K cl) X.K cl base Wx W st.length σ (r (fun st => f env st) st) Q := p
  refine ⟨sr.tab, fun H1 eN T1 => ⟨W, env, st, σ, sr.tabs eN T1, er, fun b2 E W2 st2 H2 Q2 hT sr2 er2 p2 => ⟨b2, hT, W2, env, st2, sr2, er2, p2⟩, ?_⟩⟩
  cases e : r (fun st => f env st) st with
  | ok d s => rw [e] at p; exact p
  | exc n s => exact absurd e (hr _ _ _ _)
  | bad => rw [e] at p; exact p
theorem start_env {K : PySem.W.Frag} {cl : Nat → Addr} {W : Wd} {n : Nat} {N : List Str} : ∀ {vs : List V} {ds : List D}, RpL K cl W.F W.r n vs ds → EnvR K cl W n (startD N.length ds) (L2.start N vs) := by
  intro vs ds h
  have hl := h.length
  unfold startD L2.start
  refine ⟨by simp [hl], fun i d e => ?_⟩
  by_cases hi : i < ds.length
  · rw [List.getElem?_append_left (by simpa using hi), List.getElem?_map] at e
    simp only [Option.map_eq_some_iff] at e
    obtain ⟨d', e1, e2⟩ := e
    cases e2
    obtain ⟨v, h1, h2⟩ := h.get e1
    refine ⟨v, ?_, h2⟩
    rw [List.getElem?_append_left (by simp [hl, hi]), List.getElem?_map, h1]
    rfl
  · rw [List.getElem?_append_right (by simpa using hi)] at e
    rw [List.getElem?_replicate] at e
    split at e <;> cases e
theorem lam_gives {k : Nat} {x : Str} {Ng : List Str} {sg : Scope} {g : Addr} {cdv : Value} {bg : List Stmt} {a : Str} {keep : Bool} {run : (Sto → Out D) → Nat → Env → Sto → OutS} {r : (Sto → Out D) → Sto → Out D} {f : Env → Sto → Out D}
    (hr : ∀ act st, r act st = (endF keep st.length (run act st.length (startD Ng.length [.obj st.length]) (st ++ [.dead]))).calm)
    (hrun : ∀ (A : Around) (stack : List PySem.Env) (s : Shared) (H : Hp) (act : Sto → Out D) (n : Nat) (b2 : Lv), b2.T = base.T → b2.b = n → Room (4 * k + 2) (A.deeper (envOfC x sg s.heap.objs.size g cdv)) → A.guards = some [] →
      (∀ (W : WX) (pn : List (Addr × Obj)) (xe : Value → Shared → Prop) (p1 p2 : Pos), Takes ((cxOf C8.CX0 X.prog X.w X.K X.mg X.base Ng x sg g cdv A stack s H C8.E0).tr pn xe) W →
        PE ((cxOf C8.CX0 X.prog X.w X.K X.mg X.base Ng x sg g cdv A stack s H C8.E0).tr pn xe) (.Call (.Name a p1) [] [] p2) (tD X.K cl b2 W (actF n act))) →
      PSs (cxOf C8.CX0 X.prog X.w X.K X.mg X.base Ng x sg g cdv A stack s H C8.E0).nox bg (tS X.K cl b2 WF (run act n)))
    (room : Room (4 * k + 4) X.A) (gd : X.A.guards = some []) (q : Str) : Gx.GivesS X Ng x sg g cdv bg a q (TTd X.K cl base r f) := by
  intro fa c' s H Q tl act hc' h
  obtain ⟨W, env, st, σ, sr, er, cov, p⟩ := h
  have monoI : ∀ {W1 W2 : Wd} {n m : Nat}, (∀ a o, W1.F a = some o → W2.F a = some o) → (∀ c, c < n → W2.r c = W1.r c) → n ≤ m →
      (st.length < n ∧ W1.r st.length = fa ∧ W1.F c' = some (LamX.CodeO c' q) ∧ EnvR X.K cl W1 n env σ) → st.length < m ∧ W2.r st.length = fa ∧ W2.F c' = some (LamX.CodeO c' q) ∧ EnvR X.K cl W2 m env σ := fun {W1 W2 n m} h1 h2 h3 ⟨i1, i2, i3, i4⟩ =>
    ⟨Nat.lt_of_lt_of_le i1 h3, (h2 _ i1).trans i2, h1 _ _ i3, i4.1, fun i d e => by
      obtain ⟨v, e1, e2⟩ := i4.2 i d e
      exact ⟨v, e1, e2.up h1 h2 h3⟩⟩
  have lW := sr.codeLe (f := fa) hc'
  have er0 : EnvR X.K cl (Wd.put ⟨upd W.F c' (LamX.CodeO c' q), W.r, W.G⟩ st.length fa) (st.length + 1) env σ := er.up lW (Nat.le_succ _)
  have sr2 := sr.enterL (f := fa) hc' (inv := fun W n => st.length < n ∧ W.r st.length = fa ∧ W.F c' = some (LamX.CodeO c' q) ∧ EnvR X.K cl W n env σ) monoI ⟨Nat.lt_succ_self _, Wd.put_self _ _ _, upd_same, er0⟩
  have ps := hrun X.A X.stack s H (fun st => f env st) st.length (base.subL st.length sr.ge _ monoI) rfl rfl (room.deeper _ |>.mono (by omega)) gd ?_
  · refine ⟨_, ps, ?_⟩
    have rl : RpL X.K cl (Wd.put ⟨upd W.F c' (LamX.CodeO c' q), W.r, W.G⟩ st.length fa).F (Wd.put ⟨upd W.F c' (LamX.CodeO c' q), W.r, W.G⟩ st.length fa).r (st ++ [O.dead]).length [.ref fa] [.obj st.length] := by
      refine .cons ?_ .nil
      have : Rp X.K cl (Wd.put ⟨upd W.F c' (LamX.CodeO c' q), W.r, W.G⟩ st.length fa).F (Wd.put ⟨upd W.F c' (LamX.CodeO c' q), W.r, W.G⟩ st.length fa).r (st ++ [O.dead]).length (.ref ((Wd.put ⟨upd W.F c' (LamX.CodeO c' q), W.r, W.G⟩ st.length fa).r st.length)) (.obj st.length) := .obj _ (by simp)
      rw [Wd.put_self] at this
      exact this
    refine ⟨_, startD Ng.length [.obj st.length], st ++ [.dead], sr2, start_env rl, ?_⟩
    have hres : Post (relD X.K cl) X.K cl base (fun c d _ H => (C8.E0 : XK) c d H) (Wd.put ⟨upd W.F c' (LamX.CodeO c' q), W.r, W.G⟩ st.length fa) st.length σ (endF keep st.length (run (fun st => f env st) st.length (startD Ng.length [.obj st.length]) (st ++ [.dead]))) Q := by
      rw [hr] at p
      have p := Post.mono p lW (Nat.le_refl _)
      cases e : endF keep st.length (run (fun st => f env st) st.length (startD Ng.length [.obj st.length]) (st ++ [.dead])) with
      | ok d s => rw [e] at p; exact p
      | exc n s => rw [e] at p; exact p.elim
      | bad => rw [e] at p; exact p
    have hb : base.inv (Wd.put ⟨upd W.F c' (LamX.CodeO c' q), W.r, W.G⟩ st.length fa) st.length := base.mono lW.sub lW.at_ (Nat.le_refl _) sr.inv
    have q := end_of (isSubL (base := base) sr.ge monoI) hb hres
    -- the lengths: from st.length on, at the new store
    exact PostS.mono q (Le.refl _ _) (by rw [List.length_append]; omega)
  · intro W' pn xe p1 p2 tk
    refine Itp.PE.imp (act W' pn xe p1 p2 tk) fun σZ HZ QZ hz => ?_
    obtain ⟨Wz, ez, sz, srz, erz, pz⟩ := hz
    unfold actF at pz
    split at pz
    · rename_i c e
      split at pz
      · rename_i hcn
        subst hcn
        obtain ⟨i1, i2, i3, i4⟩ := srz.inv
        obtain ⟨v, e1, e2⟩ := erz.2 0 _ e
        generalize hz : D.obj st.length = z at e2
        cases e2 with
        | obj c hlt =>
          cases hz
          rw [i2] at e1
          refine ⟨e1, srz.sub _ _ i3, cov (base.subL st.length sr.ge _ monoI) (WE W' σZ) Wz sz HZ QZ rfl srz i4 ?_⟩
          have pz : Post (relD X.K cl) X.K cl (base.subL st.length sr.ge _ monoI) W' Wz sz.length σZ (f env sz) QZ := pz
          cases ef : f env sz with
          | ok d s => rw [ef] at pz; exact pz
          | exc n s =>
            rw [ef] at pz
            exact pz
          | bad => rw [ef] at pz; exact pz
        | _ => cases hz
      · exact pz.elim
    · exact pz.elim
end
end Itp
namespace Itp
open L2 PySem.Spec PyProof.Rows PySem
/-- x(lambda: body) -/
theorem pe_lamD {X : Cx} {cl : Nat → Addr} {base : Lv} {Wx : WX} {k : Nat} {x : Str} {c P : Addr} {r : (Sto → Out D) → Sto → Out D} {fb : Env → Sto → Out D} {params : Arguments} {body : Expr} {scope : Scope} {p lpos pos : Pos}
    (hF : LamF X.prog X.w X.K X.mg X.base cl base.T k x r) (hg : Gl X x) (room : Room (4 * k + 4) X.A) (gd : X.A.guards = some []) (TB : LamX.TabB X.base X.mg c P) (hcode : X.env.code = .ref c)
    (hmT : (P, X.env.qual ++ (Str.ofString "<lambda>")) ∈ base.T) (hu : ∀ p ∈ base.T, p.1 = P → p.2 = X.env.qual ++ (Str.ofString "<lambda>")) (L : LamX.LamS X.env.scope scope) (hdef : defaultsOf params X.env = ([], []))
    (hbind : ∀ (q : Str) (cl : List (Str × Addr)) (pm cv ctv : Value), bindArgs (PySem.W.kla_fn "<lambda>" q params body scope cl pm cv ctv) ⟨[], []⟩ = pure []) (hdb : (x == (Str.ofString "__debug__")) = false)
    (hbody : ∀ (A : Around) (outer : List PySem.Env) (s : Shared) (H : Hp) (E : XK) (f c' : Addr) (b2 : Lv), b2.T = base.T → A.guards = X.A.guards → Room (4 * k + 2) (A.deeper (LamX.lamEnv X scope s.heap.objs.size f c')) → PE (LamX.lamCx X A outer s H E scope f c') body (tD X.K cl b2 (fun c d _ H => E c d H) fb)) :
    PE X (.Call (.Name x p) [.Lambda params body scope lpos] [] pos) (tD X.K cl base Wx fun env st => r (fun st => fb env st) st) := by
  obtain ⟨g, pg, bg, sg, dV, kV, doc, pm, cdv, ct, oc, an, od, osl, Ng, a, keep, run, h1, h2, h3, h4, h5, h6, h7, h8, h9, h10, h11, h12⟩ := hF.ex
  refine Itp.PE.imp (Gx.pe_lamS (T := base.T) (TT := TTd X.K cl base r fb) (t := tLb X.K cl base fb) (k := 4 * k + 2) hg h1 h2 h3 h4 h5 h6 h7 h8 (lam_gives h11 h12 room gd _) TB hcode hmT hu room L hdef hbind (fun A outer s H E f c' gA hr => ?_) hdb h9 h10) fun σ H Q q => lam_imp (fun act st n s e => ?_) q
  · exact ⟨fun pins s1 σ H1 Q I ⟨b2, hT, q⟩ => (hbody A outer s H E f c' b2 hT gA hr).run pins s1 σ H1 Q I q⟩
  · rw [h11] at e
    exact calm_noexc e
end Itp
namespace Itp
open L2 PySem.Spec PyProof.Rows PySem
/-! ### what the top has written: numbers, texts, tuples of them, and dicts by texts -/
mutual
inductive Cv (K : PySem.W.Frag) : Value → D → Prop where
  | non : Cv K .none .non
  | bl (b : Bool) : Cv K (.bool b) (.bl b)
  | int (i : Int) (t : Tok) : Cv K (.int i t) (.int i)
  | str (x : Str) (t : Tok) : Cv K (.str x t) (.str x)
  | tup {a : Addr} {o : Obj} {its : Array Value} {n : Nat} {ds : List D} (h : List.lookup a K = some o) (hc : o.cls = .type "tuple") (hd : o.data = .seq its n) (hl : its.size ≤ sizeLine) (hs : CvL K its.toList ds) : Cv K (.ref a) (.tup ds)
inductive CvL (K : PySem.W.Frag) : List Value → List D → Prop where
  | nil : CvL K [] []
  | cons {u : Value} {us : List Value} {d : D} {ds : List D} (h : Cv K u d) (hs : CvL K us ds) : CvL K (u :: us) (d :: ds)
end
mutual
theorem Cv.rp {K : PySem.W.Frag} {cl : Nat → Addr} : ∀ {u : Value} {d : D}, Cv K u d → ∃ v, L2.RelV v u ∧ ∀ F r n, Rp K cl F r n v d
  | _, _, .non => ⟨.non, rfl, fun _ _ _ => .non⟩
  | _, _, .bl b => ⟨.bl b, rfl, fun _ _ _ => .bl b⟩
  | _, _, .int i t => ⟨.int i, ⟨t, rfl⟩, fun _ _ _ => .int i⟩
  | _, _, .str x t => ⟨.str x, ⟨t, rfl⟩, fun _ _ _ => .str x⟩
  | _, _, .tup h hc hd hl hs => by
    obtain ⟨vs, h1, h2⟩ := CvL.rp (cl := cl) hs
    exact ⟨.ref _, rfl, fun F r n => .tup (.inr ⟨_, _, _, h, hc, hd, hl, h1⟩) (h2 F r n)⟩
theorem CvL.rp {K : PySem.W.Frag} {cl : Nat → Addr} : ∀ {us : List Value} {ds : List D}, CvL K us ds → ∃ vs, Vals vs us ∧ ∀ F r n, RpL K cl F r n vs ds
  | _, _, .nil => ⟨[], .nil, fun _ _ _ => .nil⟩
  | _, _, .cons h hs => by
    obtain ⟨v, h1, h2⟩ := Cv.rp (cl := cl) h
    obtain ⟨vs, h3, h4⟩ := CvL.rp (cl := cl) hs
    exact ⟨v :: vs, .cons h1 h3, fun F r n => .cons (h2 F r n) (h4 F r n)⟩
end
inductive KdL (K : PySem.W.Frag) (P : Params) : List DictEntry → List (Str × D) → Prop where
  | nil : KdL K P [] []
  | cons {e : DictEntry} {es : List DictEntry} {x : Str} {t : Tok} {d : D} {kvs : List (Str × D)} (hk : e.key = .str x t) (hh : e.hash = PyData.keyHash P x) (hv : Cv K e.val d) (hs : KdL K P es kvs) : KdL K P (e :: es) ((x, d) :: kvs)
structure KdF (K : PySem.W.Frag) (P : Params) (a : Addr) (kvs : List (Str × D)) : Prop where
  ex : ∃ es n, List.lookup a K = some ⟨.type "dict", none, .dict es n, #[]⟩ ∧ KdL K P es.toList kvs
  low : (a == sysModules) = false
section
variable {K : PySem.W.Frag} {P : Params}
theorem KdL.lit : ∀ {es : List DictEntry} {kvs : List (Str × D)}, KdL K P es kvs → PySem.W.KeysLit P es
  | _, _, .nil => trivial
  | _, _, .cons hk hh _ hs => ⟨⟨_, _, hk, hh⟩, hs.lit⟩
theorem KdL.noRef : ∀ {es : List DictEntry} {kvs : List (Str × D)}, KdL K P es kvs → es.any (·.refKey) = false
  | _, _, .nil => rfl
  | e :: es, _, .cons hk _ _ hs => by
    rw [List.any_cons, hs.noRef, Bool.or_false]
    unfold DictEntry.refKey
    rw [hk]
theorem KdL.find (z : Str) : ∀ {es : List DictEntry} {kvs : List (Str × D)}, KdL K P es kvs → (kdGet kvs z = none ∧ es.find? (·.key.isStr z) = none) ∨ ∃ d e, kdGet kvs z = some d ∧ es.find? (·.key.isStr z) = some e ∧ Cv K e.val d
  | _, _, .nil => .inl ⟨rfl, rfl⟩
  | e :: es, (x, d) :: kvs, .cons (t := t) hk _ hv hs => by
    have e1 : e.key.isStr z = decide (x = z) := by
      rw [hk]
      rw [PySem.W.isStr_of]
      show (x == z) = _
      by_cases h : x = z <;> simp [h]
    rw [List.find?_cons, e1]
    unfold kdGet
    by_cases h : x = z
    · subst h
      simp only [decide_true, if_pos rfl]
      exact .inr ⟨d, e, rfl, rfl, hv⟩
    · simp only [h, decide_false, if_neg h]
      exact hs.find z
theorem KdF.kd {w : World} {a : Addr} {kvs : List (Str × D)} (h : KdF K w.params a kvs) : ∃ es n, KDict K w a es n ∧ ∀ z, PySem.W.nsIn K a z = some ((kdGet kvs z).bind fun d => (es.toList.find? (·.key.isStr z)).map (·.val)) := by
  obtain ⟨es, n, h1, h2⟩ := h.ex
  refine ⟨es, n, ⟨h1, h2.lit, h.low⟩, fun z => ?_⟩
  unfold PySem.W.nsIn
  rw [h1]
  simp only
  rcases h2.find z with ⟨e1, e2⟩ | ⟨d, e, e1, e2, _⟩
  · rw [e1, e2]
    simp only [h2.noRef, Option.bind_none]
    rfl
  · rw [e1, e2]
    rfl
theorem KdF.get {w : World} {a : Addr} {kvs : List (Str × D)} {z : Str} {d : D} (h : KdF K w.params a kvs) (e : kdGet kvs z = some d) : ∃ u, Cv K u d ∧ PySem.W.nsIn K a z = some (some u) ∧ ∀ v, L2.RelV v u → KDct K w a z v := by
  obtain ⟨es, n, h1, h2⟩ := h.ex
  rcases h2.find z with ⟨e1, e2⟩ | ⟨d', en, e1, e2, hv⟩
  · rw [e1] at e
    cases e
  · rw [e1] at e
    cases e
    have hn : PySem.W.nsIn K a z = some (some en.val) := by
      unfold PySem.W.nsIn
      rw [h1]
      simp only [e2]
    exact ⟨en.val, hv, hn, fun v hr => ⟨es, n, en.val, h1, h2.lit, hn, hr⟩⟩
theorem KdF.mem {w : World} {a : Addr} {kvs : List (Str × D)} (h : KdF K w.params a kvs) (z : Str) : ∃ r, PySem.W.nsIn K a z = some r ∧ r.isSome = (kdGet kvs z).isSome := by
  obtain ⟨es, n, h1, h2⟩ := h.ex
  unfold PySem.W.nsIn
  rw [h1]
  simp only
  rcases h2.find z with ⟨e1, e2⟩ | ⟨d, e, e1, e2, _⟩
  · rw [e1, e2]
    simp only [h2.noRef]
    exact ⟨_, rfl, rfl⟩
  · rw [e1, e2]
    exact ⟨_, rfl, rfl⟩
end
section
variable {X : Cx} {cl : Nat → Addr} {base : Lv} {Wx : WX} {f : Env → Sto → Out D} {a : Expr} {pos p : Pos} {x : Str} {da : Addr} {kvs : List (Str × D)}
def kinF (neg : Bool) (kvs : List (Str × D)) (f : Env → Sto → Out D) : Env → Sto → Out D := fun env st => (f env st).bind fun x st => match x with
  | .str z => .ok (.bl (cond neg (!(kdGet kvs z).isSome) (kdGet kvs z).isSome)) st
  | _ => .bad
def kixF (kvs : List (Str × D)) (f : Env → Sto → Out D) : Env → Sto → Out D := fun env st => (f env st).bind fun y st => match y with
  | .str z => .of st (kdGet kvs z)
  | _ => .bad
def kinOp : Bool → CmpOp
  | true => .NotIn
  | false => .In
theorem kin_imp {neg : Bool} (D : KdF X.K X.w.params da kvs) {σ : L2.St} {H : Hp} {Q : VK} (h : tD X.K cl base Wx (kinF neg kvs f) σ H Q) :
    tOp (fun x y H Q => ∃ (z : Str) (r : Option Value), x = .str z ∧ y = .ref da ∧ PySem.W.nsIn X.K da z = some r ∧ Q (.bl (cond neg (!r.isSome) r.isSome)) H) (tD X.K cl base Wx f) (tC (.ref da)) σ H Q := by
  refine tP.imp h fun W env st sr er p => p.bind fun W1 H1 st1 d1 v1 e1 l1 le1 sr1 rp1 p1 => ?_
  cases d1 <;> try exact (show False from p1).elim
  cases rp1
  obtain ⟨r, h1, h2⟩ := D.mem _
  refine ⟨_, r, rfl, rfl, h1, ?_⟩
  rw [h2]
  exact p1 W1 H1 _ (Le.refl _ _) (Nat.le_refl _) sr1 (.bl _)
theorem pe_kin {neg : Bool} (D : KdF X.K X.w.params da kvs) (hx : Gl X x) (hm : X.mg x = some (.ref da)) (hd : (x == Str.ofString "__debug__") = false) (ha : PE X a (tD X.K cl base Wx f)) :
    PE X (.Compare a [kinOp neg] [.Name x p] pos) (tD X.K cl base Wx (kinF neg kvs f)) := by
  obtain ⟨es, n, K1, _⟩ := D.kd
  have hb : PE X (.Name x p) (tC (.ref da)) := pe_glob hx hm rfl hd
  cases neg with
  | false => exact Itp.PE.imp (pe_cmpR (op_in_kd K1) ha hb rfl) fun σ H Q h => kin_imp (neg := false) D h
  | true => exact Itp.PE.imp (pe_cmpR (op_notIn_kd K1) ha hb rfl) fun σ H Q h => kin_imp (neg := true) D h
theorem pt_kin {neg : Bool} (D : KdF X.K X.w.params da kvs) (hx : Gl X x) (hm : X.mg x = some (.ref da)) (hd : (x == Str.ofString "__debug__") = false) (ha : PE X a (tD X.K cl base Wx f)) :
    PT X (.Compare a [kinOp neg] [.Name x p] pos) (tB X.K cl base Wx (tst (kinF neg kvs f))) := by
  obtain ⟨es, n, K1, _⟩ := D.kd
  have hb : PE X (.Name x p) (tC (.ref da)) := pe_glob hx hm rfl hd
  have isb : ∀ env st d st', kinF neg kvs f env st = .ok d st' → ∃ b, d = .bl b := by
    intro env st d st' e
    unfold kinF at e
    obtain ⟨y, s1, _, e⟩ := bind_ok e
    cases y <;> cases e
    exact ⟨_, rfl⟩
  cases neg with
  | false => exact Itp.PT.imp (pt_cmpR (op_in_kd K1) ha hb rfl) fun σ H Q h => kin_imp (neg := false) (Q := fun x H' => ∃ k, x = .bl k ∧ Q k H') D (tst_bl h isb)
  | true => exact Itp.PT.imp (pt_cmpR (op_notIn_kd K1) ha hb rfl) fun σ H Q h => kin_imp (neg := true) (Q := fun x H' => ∃ k, x = .bl k ∧ Q k H') D (tst_bl h isb)
theorem pe_kix {b : Expr} (D : KdF X.K X.w.params da kvs) (hx : Gl X x) (hm : X.mg x = some (.ref da)) (hd : (x == Str.ofString "__debug__") = false) (hb : PE X b (tD X.K cl base Wx f)) (hp : PlainIx b) :
    PE X (.Subscript (.Name x p) b pos) (tD X.K cl base Wx (kixF kvs f)) := by
  have ha : PE X (.Name x p) (tC (.ref da)) := pe_glob hx hm rfl hd
  refine Itp.PE.imp (pe_ix ix_kdict ha hb hp) fun σ H Q h => ?_
  refine tP.imp h fun W env st sr er p => p.bind fun W1 H1 st1 d1 v1 e1 l1 le1 sr1 rp1 p1 => ?_
  cases d1 <;> try exact (show False from p1).elim
  cases rp1
  obtain ⟨d, e, nx⟩ := p1.of
  obtain ⟨u, c, _, hk⟩ := D.get e
  obtain ⟨v, h1, h2⟩ := c.rp (cl := cl)
  exact ⟨_, _, v, rfl, rfl, hk v h1, nx W1 H1 v (Le.refl _ _) sr1 (h2 _ _ _)⟩
end
end Itp
namespace Itp
open L2 PySem.Spec PyProof.Rows PySem
/-! ### a dict that the top has written, its keys tuples of a word and a number -/
def ktK (p : Str × Int) : NestedKey := .tup [.text p.1, .num p.2]
inductive KtL (K : PySem.W.Frag) (w : World) : List DictEntry → List (Str × Int) → Prop where
  | nil : KtL K w [] []
  | cons {e : DictEntry} {es : List DictEntry} {z : Str} {i : Int} {b : Addr} {o : Obj} {t t' : Tok} {n : Nat} {ps : List (Str × Int)} (hk : e.key = .ref b) (hh : e.hash = (ktK (z, i)).hash w) (ho : List.lookup b K = some o) (hc : o.cls = .type "tuple") (hd : o.data = .seq #[.str z t, .int i t'] n) (hs : KtL K w es ps) : KtL K w (e :: es) ((z, i) :: ps)
structure KtF (K : PySem.W.Frag) (w : World) (a : Addr) (kvs : List (Str × D)) : Prop where
  ex : ∃ es n ps, List.lookup a K = some ⟨.type "dict", none, .dict es n, #[]⟩ ∧ KtL K w es.toList ps ∧ kvs.map ktRow = ps.map some ∧ ps.Nodup
  low : (a == sysModules) = false
theorem ktK_inj {p q : Str × Int} (h : ktK p = ktK q) : p = q := by
  obtain ⟨a, b⟩ := p
  obtain ⟨c, d⟩ := q
  unfold ktK at h
  injection h with h
  injection h with h1 h2
  injection h1 with h1
  injection h2 with h2 _
  injection h2 with h2
  subst h1 h2
  rfl
section
variable {K : PySem.W.Frag} {w : World}
theorem KtL.rows {prog : PySem.Program} {h : Heap} (KX : K.In h) : ∀ {es : List DictEntry} {ps : List (Str × Int)}, KtL K w es ps →
    ∃ xs : List (NestedKey × Addr × Value), es = xs.map (entryOfKey (nestedKind prog w)) ∧ xs.map (·.1) = ps.map ktK ∧ ∀ x ∈ xs, (nestedKind prog w).is h x.1 x.2.1
  | _, _, .nil => ⟨[], rfl, rfl, fun x hx => by cases hx⟩
  | e :: es, _, .cons (z := z) (i := i) (b := b) hk hh ho hc hd hs => by
    obtain ⟨xs, e1, e2, e3⟩ := KtL.rows KX hs
    refine ⟨(ktK (z, i), b, e.val) :: xs, ?_, by rw [List.map_cons, List.map_cons, e2], fun x hx => ?_⟩
    · rw [List.map_cons, ← e1]
      congr 1
      obtain ⟨eh, ek, ev⟩ := e
      simp only at hk hh
      subst hk hh
      rfl
    · rcases List.mem_cons.mp hx with rfl | hx
      · exact ⟨.tup (KX _ _ ho) hc hd (.cons (.text _ _) (.cons (.int _ _) .nil)), by simp [ktK, NestedKey.depth, NestedKey.depthAll]⟩
      · exact e3 x hx
theorem KtF.keyed {prog : PySem.Program} {h : Heap} {a : Addr} {kvs : List (Str × D)} (F : KtF K w a kvs) (KX : K.In h) : ∃ xs : List (NestedKey × Value), h.DictKeyed (nestedKind prog w) a xs ∧ ∀ z i, (valueAt xs (ktK (z, i))).isSome = ktMem kvs (z, i) := by
  obtain ⟨es, n, ps, h1, h2, h3, h4⟩ := F.ex
  obtain ⟨xs, e1, e2, e3⟩ := KtL.rows (prog := prog) KX h2
  refine ⟨pairsH xs, ⟨xs, ⟨_, es, n, KX _ _ h1, ⟨rfl, rfl, rfl⟩, rfl, e1, e3, ?_⟩, rfl⟩, fun z i => ?_⟩
  · rw [e2]
    exact List.Pairwise.map ktK (fun _ _ ne e => ne (ktK_inj e)) h4
  · rw [valueAt_pairsH, Option.isSome_map]
    unfold ktMem atKey
    rw [Option.isSome_map]
    have a1 : (∃ x ∈ xs, decide (x.1 = ktK (z, i)) = true) ↔ (z, i) ∈ ps := by
      constructor
      · rintro ⟨x, hx, he⟩
        have h5 : x.1 ∈ ps.map ktK := by
          rw [← e2]
          exact List.mem_map.mpr ⟨x, hx, rfl⟩
        obtain ⟨q, hq, hqe⟩ := List.mem_map.mp h5
        have := ktK_inj (hqe.trans (of_decide_eq_true he))
        subst this
        exact hq
      · intro hm
        have h5 : ktK (z, i) ∈ xs.map (·.1) := by
          rw [e2]
          exact List.mem_map.mpr ⟨_, hm, rfl⟩
        obtain ⟨x, hx, he⟩ := List.mem_map.mp h5
        exact ⟨x, hx, decide_eq_true he⟩
    have a2 : (kvs.any fun p => ktRow p == some (z, i)) = true ↔ (z, i) ∈ ps := by
      rw [List.any_eq_true]
      constructor
      · rintro ⟨p, hp, he⟩
        have h5 : ktRow p ∈ ps.map some := by
          rw [← h3]
          exact List.mem_map.mpr ⟨p, hp, rfl⟩
        rw [eq_of_beq he] at h5
        obtain ⟨q, hq, hqe⟩ := List.mem_map.mp h5
        cases hqe
        exact hq
      · intro hm
        have h5 : some (z, i) ∈ kvs.map ktRow := by
          rw [h3]
          exact List.mem_map.mpr ⟨_, hm, rfl⟩
        obtain ⟨p, hp, he⟩ := List.mem_map.mp h5
        exact ⟨p, hp, by rw [he]; exact beq_self_eq_true _⟩
    rw [Bool.eq_iff_iff, a2, List.find?_isSome]
    exact a1
end
section
variable {X : Cx} {cl : Nat → Addr} {base : Lv} {Wx : WX} {f : Env → Sto → Out D} {a : Expr} {pos p : Pos} {x : Str} {da : Addr} {kvs : List (Str × D)}
def kinTF (neg : Bool) (kvs : List (Str × D)) (f : Env → Sto → Out D) : Env → Sto → Out D := fun env st => (f env st).bind fun x st => match ktKey x with
  | some z => .ok (.bl (cond neg (!ktMem kvs z) (ktMem kvs z))) st
  | none => .bad
def rKt (K : PySem.W.Frag) (da : Addr) (kvs : List (Str × D)) (neg : Bool) : R2 := fun x y H Q => ∃ (a : Addr) (z : Str) (i : Int), x = .ref a ∧ y = .ref da ∧ SqT K H a [.str z, .int i] ∧ Q (.bl (cond neg (!ktMem kvs (z, i)) (ktMem kvs (z, i)))) H
theorem key_at {pins : List (Addr × Obj)} {σ : L2.St} {H : Hp} {s : Shared} {b : Addr} {z : Str} {i : Int} (I : Inv X pins σ H s) (h : SqT X.K H b [.str z, .int i]) : (nestedKind X.prog X.w).is s.heap (ktK (z, i)) b := by
  obtain ⟨its, hv, ⟨o, ho, hc, n, hd⟩, _⟩ := I.tuple h
  cases hv with
  | cons h1 hv =>
    cases hv with
    | cons h2 hv =>
      cases hv
      obtain ⟨t, rfl⟩ := h1
      obtain ⟨t', rfl⟩ := h2
      exact ⟨.tup ho hc hd (.cons (.text _ _) (.cons (.int _ _) .nil)), by simp [ktK, NestedKey.depth, NestedKey.depthAll]⟩
theorem op_in_kt (D : KtF X.K X.w da kvs) (hu : X.A.units + 9 < cLine) : OpR X (compareOp .In) (rKt X.K da kvs false) := by
  intro pins s σ H x y v u Q I rx ry h
  obtain ⟨b, z, i, rfl, rfl, hT, q⟩ := h
  cases rx
  cases ry
  obtain ⟨xs, hk, hm⟩ := D.keyed (prog := X.prog) I.kIn
  refine in_keyed (by show X.A.units + 1 + 8 < cLine; omega) (key_at I hT) D.low hk ?_
  rw [hm]
  exact ⟨.bl _, H, I.tok _, rfl, q⟩
theorem op_notIn_kt (D : KtF X.K X.w da kvs) (hu : X.A.units + 9 < cLine) : OpR X (compareOp .NotIn) (rKt X.K da kvs true) := by
  intro pins s σ H x y v u Q I rx ry h
  obtain ⟨b, z, i, rfl, rfl, hT, q⟩ := h
  cases rx
  cases ry
  obtain ⟨xs, hk, hm⟩ := D.keyed (prog := X.prog) I.kIn
  refine notIn_keyed (by show X.A.units + 1 + 8 < cLine; omega) (key_at I hT) D.low hk ?_
  rw [hm]
  exact ⟨.bl _, H, I.tok _, rfl, q⟩
theorem ktKey_some {d : D} {z : Str × Int} (h : ktKey d = some z) : d = .tup [.str z.1, .int z.2] := by
  unfold ktKey at h
  split at h
  · cases h
    rfl
  · cases h
theorem kinT_imp {neg : Bool} {σ : L2.St} {H : Hp} {Q : VK} (h : tD X.K cl base Wx (kinTF neg kvs f) σ H Q) : tOp (rKt X.K da kvs neg) (tD X.K cl base Wx f) (tC (.ref da)) σ H Q := by
  refine tP.imp h fun W env st sr er p => p.bind fun W1 H1 st1 d1 v1 e1 l1 le1 sr1 rp1 p1 => ?_
  cases hk : ktKey d1 with
  | none =>
    rw [hk] at p1
    exact (show False from p1).elim
  | some z =>
    rw [hk] at p1
    have e := ktKey_some hk
    subst e
    cases rp1 with
    | tup hT hs =>
      cases hs with
      | cons h1 hs =>
        cases hs with
        | cons h2 hs =>
          cases hs
          cases h1
          cases h2
          refine ⟨_, z.1, z.2, rfl, rfl, Itp.SqT.up sr1.sub hT, ?_⟩
          exact p1 W1 H1 _ (Le.refl _ _) (Nat.le_refl _) sr1 (.bl _)
theorem pe_kinT {neg : Bool} (D : KtF X.K X.w da kvs) (hu : X.A.units + 9 < cLine) (hx : Gl X x) (hm : X.mg x = some (.ref da)) (hd : (x == Str.ofString "__debug__") = false) (ha : PE X a (tD X.K cl base Wx f)) :
    PE X (.Compare a [kinOp neg] [.Name x p] pos) (tD X.K cl base Wx (kinTF neg kvs f)) := by
  have hb : PE X (.Name x p) (tC (.ref da)) := pe_glob hx hm rfl hd
  cases neg with
  | false => exact Itp.PE.imp (pe_cmpR (op_in_kt D hu) ha hb rfl) fun σ H Q h => kinT_imp (neg := false) h
  | true => exact Itp.PE.imp (pe_cmpR (op_notIn_kt D hu) ha hb rfl) fun σ H Q h => kinT_imp (neg := true) h
theorem pt_kinT {neg : Bool} (D : KtF X.K X.w da kvs) (hu : X.A.units + 9 < cLine) (hx : Gl X x) (hm : X.mg x = some (.ref da)) (hd : (x == Str.ofString "__debug__") = false) (ha : PE X a (tD X.K cl base Wx f)) :
    PT X (.Compare a [kinOp neg] [.Name x p] pos) (tB X.K cl base Wx (tst (kinTF neg kvs f))) := by
  have hb : PE X (.Name x p) (tC (.ref da)) := pe_glob hx hm rfl hd
  have isb : ∀ env st d st', kinTF neg kvs f env st = .ok d st' → ∃ b, d = .bl b := by
    intro env st d st' e
    unfold kinTF at e
    obtain ⟨y, s1, _, e⟩ := bind_ok e
    split at e <;> cases e
    exact ⟨_, rfl⟩
  cases neg with
  | false => exact Itp.PT.imp (pt_cmpR (op_in_kt D hu) ha hb rfl) fun σ H Q h => kinT_imp (neg := false) (Q := fun x H' => ∃ k, x = .bl k ∧ Q k H') (tst_bl h isb)
  | true => exact Itp.PT.imp (pt_cmpR (op_notIn_kt D hu) ha hb rfl) fun σ H Q h => kinT_imp (neg := true) (Q := fun x H' => ∃ k, x = .bl k ∧ Q k H') (tst_bl h isb)
/-! ### type(x) is int -/
def tyisF (neg : Bool) (f : Env → Sto → Out D) : Env → Sto → Out D := fun env st => (f env st).bind fun x st => match tyInt (view st x) with
  | some b => .ok (.bl (cond neg (!b) b)) st
  | none => .bad
def isOp : Bool → CmpOp
  | true => .IsNot
  | false => .Is
theorem ty_of {W : Wd} {n : Nat} {H : Hp} {st : Sto} {v : V} {d : D} {b : Bool} (s : SR X.K cl base W st H) (h : Rv X.K cl W n H v d) (e : tyInt d = some b) : ∃ T, TyB X.K H v T ∧ decide (T = "int") = b := by
  cases d <;> simp only [tyInt, Option.some.injEq, reduceCtorEq] at e <;> subst e
  · exact ⟨_, h.non ▸ TyB.non, rfl⟩
  · exact ⟨_, h.bl ▸ TyB.bl _, rfl⟩
  · exact ⟨_, h.int ▸ TyB.int _, rfl⟩
  · exact ⟨_, h.str ▸ TyB.str _, rfl⟩
  · obtain ⟨a, vs, rfl, h1, _⟩ := h.tups s
    exact ⟨_, .tup h1, rfl⟩
  · obtain ⟨a, vs, rfl, h1, _⟩ := h.lists s
    exact ⟨_, .lst h1, rfl⟩
  · obtain ⟨a, kvs, rfl, h1, _⟩ := h.dcts s
    exact ⟨_, .dK h1, rfl⟩
  · exact ⟨_, h.rep ▸ TyB.str _, rfl⟩
theorem tyis_imp {neg : Bool} {σ : L2.St} {H : Hp} {Q : VK} {r : R2} (hr : ∀ x y H (Q : VK), (∃ a b, x = V.ty a ∧ y = V.ty b ∧ Q (.bl (cond neg (!decide (a = b)) (decide (a = b)))) H) → r x y H Q) (h : tD X.K cl base Wx (tyisF neg f) σ H Q) :
    tOp r (tCB (rTyp X.K) (tL X.K cl base Wx (evsF [f]))) (tC (.ty "int")) σ H Q := by
  refine tP.imp (rel' := relL X.K cl) (G := evsF [f]) (R := fun vs H1 => rTyp X.K vs H1 fun x H1 => tC (.ty "int") σ H1 fun y H2 => r x y H2 Q) h fun W env st sr er p => ?_
  have p' : Post (relD X.K cl) X.K cl base Wx W st.length σ ((f env st).bind fun x st => match tyInt (view st x) with
    | some b => .ok (.bl (cond neg (!b) b)) st
    | none => .bad) Q := p
  show Post (relL X.K cl) X.K cl base Wx W st.length σ ((f env st).bind fun d st => (evsF [] env st).bind fun ds st => .ok (d :: ds) st) _
  cases hf : f env st with
  | bad =>
    rw [hf] at p'
    exact p'
  | exc m st' =>
    rw [hf] at p'
    exact p'
  | ok d st' =>
    rw [hf] at p'
    cases ht : tyInt (view st' d) with
    | none =>
      have p2 : Post (relD X.K cl) X.K cl base Wx W st.length σ (match tyInt (view st' d) with
        | some b => .ok (.bl (cond neg (!b) b)) st'
        | none => .bad) Q := p'
      rw [ht] at p2
      exact (show False from p2).elim
    | some b =>
      have p2 : Post (relD X.K cl) X.K cl base Wx W st.length σ (match tyInt (view st' d) with
        | some b => .ok (.bl (cond neg (!b) b)) st'
        | none => .bad) Q := p'
      rw [ht] at p2
      intro W' H' vs l1 le1 sr1 rp1
      cases rp1 with
      | cons r1 rs =>
        cases rs
        obtain ⟨T, t1, t2⟩ := ty_of (X := X) sr1 (view_rv sr1 r1) ht
        refine ⟨_, T, rfl, t1, ?_⟩
        refine hr _ _ _ _ ⟨T, "int", rfl, rfl, ?_⟩
        rw [t2]
        exact p2 W' H' _ l1 le1 sr1 (.bl _)
theorem boot_type : bootBuiltins (Str.ofString "type") = some (.type "type") := by decide +kernel
theorem boot_int : bootBuiltins (Str.ofString "int") = some (.type "int") := by decide +kernel
variable {p1 p2 p3 : Pos}
theorem pe_tyis {neg : Bool} (hx : Gl X (Str.ofString "type")) (hm : X.mg (Str.ofString "type") = none) (hi : Gl X (Str.ofString "int")) (hmi : X.mg (Str.ofString "int") = none) (ns : noStar [a] = true) (ha : PE X a (tD X.K cl base Wx f)) :
    PE X (.Compare (.Call (.Name (Str.ofString "type") p1) [a] [] p2) [isOp neg] [.Name (Str.ofString "int") p3] pos) (tD X.K cl base Wx (tyisF neg f)) := by
  have hc : PE X (.Call (.Name (Str.ofString "type") p1) [a] [] p2) (tCB (rTyp X.K) (tL X.K cl base Wx (evsF [f]))) := pe_callTy call_type1 hx hm boot_type (pa_es (.cons ha .nil) ns) (by decide +kernel) (by decide +kernel) (star_cons ns) (star_all (noStar_tail ns))
  have hb : PE X (.Name (Str.ofString "int") p3) (tC (.ty "int")) := pe_bltn (v := .ty "int") hi hmi boot_int rfl (by decide +kernel) (by decide +kernel)
  cases neg with
  | false => exact Itp.PE.imp (pe_cmpR op_isTyB hc hb rfl) fun σ H Q h => tyis_imp (neg := false) (fun _ _ _ _ q => q) h
  | true => exact Itp.PE.imp (pe_cmpR op_notTyB hc hb rfl) fun σ H Q h => tyis_imp (neg := true) (fun _ _ _ _ q => q) h
theorem pt_tyis {neg : Bool} (hx : Gl X (Str.ofString "type")) (hm : X.mg (Str.ofString "type") = none) (hi : Gl X (Str.ofString "int")) (hmi : X.mg (Str.ofString "int") = none) (ns : noStar [a] = true) (ha : PE X a (tD X.K cl base Wx f)) :
    PT X (.Compare (.Call (.Name (Str.ofString "type") p1) [a] [] p2) [isOp neg] [.Name (Str.ofString "int") p3] pos) (tB X.K cl base Wx (tst (tyisF neg f))) := by
  have hc : PE X (.Call (.Name (Str.ofString "type") p1) [a] [] p2) (tCB (rTyp X.K) (tL X.K cl base Wx (evsF [f]))) := pe_callTy call_type1 hx hm boot_type (pa_es (.cons ha .nil) ns) (by decide +kernel) (by decide +kernel) (star_cons ns) (star_all (noStar_tail ns))
  have hb : PE X (.Name (Str.ofString "int") p3) (tC (.ty "int")) := pe_bltn (v := .ty "int") hi hmi boot_int rfl (by decide +kernel) (by decide +kernel)
  have isb : ∀ env st d st', tyisF neg f env st = .ok d st' → ∃ b, d = .bl b := by
    intro env st d st' e
    unfold tyisF at e
    obtain ⟨y, s1, _, e⟩ := bind_ok e
    split at e <;> cases e
    exact ⟨_, rfl⟩
  cases neg with
  | false => exact Itp.PT.imp (pt_cmpR op_isTyB hc hb rfl) fun σ H Q h => tyis_imp (neg := false) (Q := fun x H' => ∃ k, x = .bl k ∧ Q k H') (fun _ _ _ _ q => q) (tst_bl h isb)
  | true => exact Itp.PT.imp (pt_cmpR op_notTyB hc hb rfl) fun σ H Q h => tyis_imp (neg := true) (Q := fun x H' => ∃ k, x = .bl k ∧ Q k H') (fun _ _ _ _ q => q) (tst_bl h isb)
end
end Itp
namespace Itp
open L2 PySem.Spec PyProof.Rows PySem
/-! ### the text against the syntax: what is asked of both -/
structure Tab where
  fns : List Str
  gls : List Str
  cls : List Str
  rcl : List Nat
  blt : List Str
  gcd : Bool
  /-- the defs that get a lambda; what may stand in the running def: 1 generator expressions, 2 lambdas; whether something may change; whether a lambda is in hand -/
  lam : List Nat := []
  top : Nat := 0
  wr : Bool := true
  act : Bool := false
  /-- dicts that the top has written -/
  kds : List Str := []
  isq : Bool := false
  /-- .. with tuples of a word and a number for keys -/
  kts : List Str := []
def Tab.inner (T : Tab) : Tab := { T with top := 0, act := false }
def Tab.inL (T : Tab) : Tab := { T with top := 0, act := false, wr := false }
def sfx (n : Nat) : Str := if n = 1 then Str.ofString "<genexpr>" else Str.ofString "<lambda>"
def noPar : Arguments → Bool
  | ⟨[], [], none, [], [], none, []⟩ => true
  | _ => false
def notLst : Expr → Bool
  | .List _ _ => false
  | _ => true
def genC (N : List Str) (sc scope : Scope) (own : List (Str × Nat)) : Bool :=
  decide (scope.kind = .function) && (!scope.isCoroutine && (scope.names.all (fun y => !decide (y.2 = .cell)) && (decide (scope.names.lookup (Str.ofString ".0") = some NameKind.local) && (scope.names.all (fun y => decide (scope.names.lookup y.1 = some y.2)) &&
    (own.all (fun p => decide (N[p.2]? = some p.1)) && (scope.names.all (fun y => !decide (y.2 = .free) || (decide (sc.names.lookup y.1 = some .cell) || decide (sc.names.lookup y.1 = some .free))) && scope.names.all fun y => !decide (y.2 = .local) || (decide (y.1 ∈ own.map (·.1)) || decide (y.1 ∉ N))))))))
theorem genC_ok {N : List Str} {sc scope : Scope} {own : List (Str × Nat)} (h : genC N sc scope own = true) : Gx.GenB N sc scope own := by
  unfold genC at h
  simp only [Bool.and_eq_true, Bool.or_eq_true, Bool.not_eq_true', decide_eq_true_eq, decide_eq_false_iff_not, List.all_eq_true] at h
  obtain ⟨h1, h2, h3, h4, h5, h6, h7, h8⟩ := h
  exact ⟨h1, h2, h3, h4, h5, h6, fun y hy e => (h7 y hy).resolve_left fun z => z e, fun y hy e => (h8 y hy).resolve_left fun z => z e⟩
def glOk (sc : Scope) (x : Str) : Bool := decide (List.lookup x sc.names = some .globalImplicit)
def visOk (sc : Scope) (x : Str) : Bool := decide (List.lookup x sc.names = some .local) || (decide (List.lookup x sc.names = some .cell) || decide (List.lookup x sc.names = some .free))
def locOk (sc : Scope) (fb : Str → Bool) (x : Str) : Bool := decide (List.lookup x sc.names = some .local) || (decide (List.lookup x sc.names = some .cell) && fb x)
def nmOk (x : Str) : Bool := decide (x ≠ Str.ofString "__name__") && (decide ((x == Str.ofString "__debug__") = false) && decide ((x == Str.ofString "__classdict__") = false))
def Blt.nm : Blt → String
  | .len => "len" | .abs => "abs" | .repr => "repr" | .isinst => "isinstance" | .gcd => "gcd" | .isqrt => "isqrt" | .tuple => "tuple" | .list => "list" | .int => "int" | .str => "str" | .sum => "sum" | .max => "max" | .min => "min" | .all => "all" | .any => "any" | .sorted => "sorted" | .dict => "dict"
/-- which of Python's own are told here -/
def Blt.known : Blt → Bool
  | .len | .abs | .repr | .isinst | .tuple | .list | .int | .str | .max | .min | .sum | .all | .any => true
  | _ => false
def notSlice : Expr → Bool
  | .Slice _ _ _ _ => false
  | _ => true
def notSet : Expr → Bool
  | .Set _ _ _ => false
  | _ => true
def cellF (scope : Scope) : Str → Bool := fun x => List.lookup x scope.names == some .cell
def ownS (N : List Str) (own : List Nat) : List (Str × Nat) := own.map fun i => (N.getD i (Str.ofString ""), i)
def ckLit (T : Tab) (sc : Scope) (d : D) (e : Expr) : Bool :=
  match d with
  | .int i => match e with
    | .Constant (.int j) _ _ => decide (i = j)
    | _ => false
  | .str x => match e with
    | .Constant (.str y) _ _ => decide (x = y)
    | _ => false
  | .bl b => match e with
    | .Constant (.bool c) _ _ => decide (b = c)
    | _ => false
  | .non => match e with
    | .Constant .none _ _ => true
    | _ => false
  | .cls n => match e with
    | .Name x _ => decide (T.cls[n]? = some x) && (glOk sc x && nmOk x)
    | _ => false
  | .ty t => match e with
    | .Name x _ => decide (x = Str.ofString t.nm) && (glOk sc x && (nmOk x && T.blt.contains x))
    | _ => false
  | _ => false
def isTupT : Expr → Bool
  | .Tuple _ _ _ => true
  | _ => false
/-- how a for walks: the call around the sources, or none -/
def ckIt (T : Tab) (sc : Scope) (ik : IK) (tg it : Expr) : Option (List Expr) :=
  match ik with
  | .seq => if notSet it then some [it] else none
  | .range => match it with
    | .Call (.Name x _) es [] _ => if decide (x = Str.ofString "range") && (glOk sc x && (T.blt.contains x && (noStar es && (decide (es.length = 1) || decide (es.length = 2))))) then some es else none
    | _ => none
  | .enum => match it with
    | .Call (.Name x _) es [] _ => if decide (x = Str.ofString "enumerate") && (glOk sc x && (T.blt.contains x && (noStar es && (decide (es.length = 1) && isTupT tg)))) then some es else none
    | _ => none
  | .zip => none
/-- what a method is asked of -/
def isPlainO : Expr → Bool
  | .Name _ _ | .Dict _ _ _ | .List _ _ | .Tuple _ _ _ | .Subscript _ _ _ => true
  | _ => false
mutual
/-- may stand as a test -/
def tok : E → Bool
  | .ite _ _ _ => false
  | .not a => tok a
  | .bop _ es => toks es
  | _ => true
def toks : List E → Bool
  | [] => true
  | e :: es => tok e && toks es
end
mutual
def ck (T : Tab) (N : List Str) : E → Scope → (Str → Bool) → Expr → Bool
  | .lit d, sc, _, e => ckLit T sc d e
  | .var i, sc, _, e => match e with
    | .Name x _ => decide (N[i]? = some x) && (visOk sc x && nmOk x)
    | _ => false
  | .glob n, sc, _, e => match e with
    | .Name x _ => decide (T.gls[n]? = some x) && (glOk sc x && nmOk x)
    | _ => false
  | .bin o a b, sc, fb, e => match e with
    | .BinOp a' op b' _ => decide (op = o.op) && (ck T N a sc fb a' && ck T N b sc fb b')
    | _ => false
  | .neg a, sc, fb, e => match e with
    | .UnaryOp op a' _ => decide (op = .USub) && ck T N a sc fb a'
    | _ => false
  | .not a, sc, fb, e => match e with
    | .UnaryOp op a' _ => decide (op = .Not) && ck T N a sc fb a'
    | _ => false
  | .cmp o a b, sc, fb, e => match e with
    | .Compare a' [op] [b'] _ => decide (op = o.op) && (!behindInMarks o.op b' && (ck T N a sc fb a' && ck T N b sc fb b'))
    | _ => false
  | .chain o o' a b c, sc, fb, e => match e with
    | .Compare a' [op, op'] [b', c'] _ => decide (op = o.op) && (decide (op' = o'.op) && (!behindInMarks o'.op c' && (ck T N a sc fb a' && (ck T N b sc fb b' && ck T N c sc fb c'))))
    | _ => false
  | .bop k es, sc, fb, e => match e with
    | .BoolOp op es' _ => decide (op = bopOp k) && (decide (es'.length ≠ 0) && cks T N es sc fb es')
    | _ => false
  | .ite c a b, sc, fb, e => match e with
    | .IfExp c' a' b' _ => tok c && (ck T N c sc fb c' && (ck T N a sc fb a' && ck T N b sc fb b'))
    | _ => false
  | .tup es, sc, fb, e => match e with
    | .Tuple es' _ _ => noStar es' && cks T N es sc fb es'
    | _ => false
  | .lst _ es, sc, fb, e => match e with
    | .List es' _ => noStar es' && cks T N es sc fb es'
    | _ => false
  | .ix a b, sc, fb, e => match e with
    | .Subscript a' b' _ => notSlice b' && (ck T N a sc fb a' && ck T N b sc fb b')
    | _ => false
  | .slc a lo hi, sc, fb, e => match e with
    | .Subscript a' (.Slice lo' hi' none _) _ => ck T N a sc fb a' && (cko T N lo sc fb lo' && cko T N hi sc fb hi')
    | _ => false
  | .addM a b, sc, fb, e => match e with
    | .BinOp a' op b' _ => decide (op = .Add) && (ck T N a sc fb a' && ck T N b sc fb b')
    | _ => false
  | .rept es k, sc, fb, e => match e with
    | .BinOp (.List es' _) op k' _ => decide (op = .Mult) && (noStar es' && (cks T N es sc fb es' && ck T N k sc fb k'))
    | _ => false
  | .slcK a lo hi k, sc, fb, e => match e with
    | .Subscript a' (.Slice lo' hi' (some (.Constant (.int k') _ _)) _) _ => decide (k' = (k : Int)) && (decide (k ≠ 0) && (ck T N a sc fb a' && (cko T N lo sc fb lo' && cko T N hi sc fb hi')))
    | _ => false
  | .call f es, sc, fb, e => match e with
    | .Call (.Name x _) es' [] _ => decide (T.fns[f]? = some x) && (!T.lam.contains f && (glOk sc x && (nmOk x && (noStar es' && cks T N es sc fb es'))))
    | _ => false
  | .blt b es, sc, fb, e => match e with
    | .Call (.Name x _) es' [] _ => decide (x = Str.ofString b.nm) && (glOk sc x && (nmOk x && (noStar es' && (decide (es'.length ≠ 0) && (((b.known && T.blt.contains x) || ((decide (b = .gcd) && T.gcd) || (decide (b = .isqrt) && T.isq))) && cks T N es sc fb es')))))
    | _ => false
  | .mth m o es, sc, fb, e => match e with
    | .Call (.Attribute (.Name x p) f apos) [a'] [] cpos => T.wr && (decide (m = .append) && (decide (f = Str.ofString "append") && (decide (apos.endLine = cpos.line) && (noStar [a'] && (ck T N o sc fb (.Name x p) && cks T N es sc fb [a'])))))
    | _ => false
  | .comp _ own tg ik src cond elt, sc, fb, e => match e with
    | .ListComp elt' [⟨tg', it', ifs', 0⟩] scope _ => blkC N sc scope (ownS N own) && (tg.slots.all (fun i => own.contains i) && (tgOk N (L2.relS scope sc) (cellF scope) tg tg' && (match ckIt T sc ik tg' it' with
      | some es' => cks T N src sc fb es'
      | none => false) && (decide (ifs'.length ≤ 1) && (toks cond && (cks { T with act := false } N cond (L2.relS scope sc) (cellF scope) ifs' && ck { T with act := false } N elt (L2.relS scope sc) (cellF scope) elt')))))
    | _ => false
  | .gen k own tg ik src elt, sc, fb, e => match e with
    | .Call (.Name x _) [.GeneratorExp elt' [⟨tg', it', [], 0⟩] scope _] [] _ => decide (T.top = 1) && (decide (x = Str.ofString (if k then "all" else "any")) && (glOk sc x && (T.blt.contains x && (genC N sc scope (ownS N own) && (tg.slots.all (fun i => own.contains i) && (tgOk N scope (fun _ => false) tg tg' && ((match ckIt T sc ik tg' it' with
      | some es' => cks T N src sc fb es'
      | none => false) && (notLst it' && ck T.inner N elt scope (fun _ => false) elt'))))))))
    | _ => false
  | .callL f body, sc, _, e => match e with
    | .Call (.Name x _) [.Lambda params body' scope _] [] _ => decide (T.top = 2) && (decide (T.fns[f]? = some x) && (T.lam.contains f && (glOk sc x && (nmOk x && (noPar params && (LamX.lamSB sc scope && ck T.inL N body scope (fun _ => false) body'))))))
    | _ => false
  | .act i, _, _, e => match e with
    | .Call (.Name x _) [] [] _ => T.act && (decide (i = 0) && decide (N[(0 : Nat)]? = some x))
    | _ => false
  | .kin neg a n, sc, fb, e => match e with
    | .Compare a' [op] [.Name x _] _ => decide (op = kinOp neg) && (decide (T.kds[n]? = some x) && (glOk sc x && (nmOk x && ck T N a sc fb a')))
    | _ => false
  | .kinT neg a n, sc, fb, e => match e with
    | .Compare a' [op] [.Name x _] _ => decide (op = kinOp neg) && (decide (T.kds.length ≤ n) && (decide (T.kts[n - T.kds.length]? = some x) && (glOk sc x && (nmOk x && ck T N a sc fb a'))))
    | _ => false
  | .tyis neg a, sc, fb, e => match e with
    | .Compare (.Call (.Name t _) [a'] [] _) [op] [.Name i _] _ => decide (op = isOp neg) && (decide (t = Str.ofString "type") && (decide (i = Str.ofString "int") && (glOk sc t && (glOk sc i && (T.blt.contains t && (T.blt.contains i && (noStar [a'] && ck T N a sc fb a')))))))
    | _ => false
  | .kix n b, sc, fb, e => match e with
    | .Subscript (.Name x _) b' _ => decide (T.kds[n]? = some x) && (glOk sc x && (nmOk x && (notSlice b' && ck T N b sc fb b')))
    | _ => false
  | .dget a k df, sc, fb, e => match e with
    | .Call (.Attribute o f apos) (k' :: df') [] cpos => decide (f = Str.ofString "get") && (decide (apos.endLine = cpos.line) && (isPlainO o && (noStar (k' :: df') && (decide (df'.length ≤ 1) && (ck T N a sc fb o && (ck T N k sc fb k' && cks T N df sc fb df'))))))
    | _ => false
  | .dct _ ks es, sc, fb, e => match e with
    | .Dict keys vals _ => keysC ks keys && (decide (ks.length = vals.length) && (decide (keys.length ≤ 15) && cks T N es sc fb vals))
    | _ => false
def cks (T : Tab) (N : List Str) : List E → Scope → (Str → Bool) → List Expr → Bool
  | [], _, _, es' => es'.isEmpty
  | e :: es, sc, fb, es' => match es' with
    | e' :: es' => ck T N e sc fb e' && cks T N es sc fb es'
    | [] => false
def cko (T : Tab) (N : List Str) : List E → Scope → (Str → Bool) → Option Expr → Bool
  | [], _, _, o => o.isNone
  | e :: es, sc, fb, o => match o with
    | some e' => es.isEmpty && ck T N e sc fb e'
    | none => false
end
/-! ### what stands behind the names of a text -/
structure GF (T : Tab) (P : PySem.Program) (w : World) (K : PySem.W.Frag) (mg : Str → Option Value) (base : Heap) (k : Nat) (cl : Nat → Addr) (TT : List (Addr × Str)) (C : Cfg) : Prop where
  fn : ∀ i x, T.fns[i]? = some x → T.lam.contains i = false → ∃ f fd ps, FnG P w K mg base (L2.CX P w) (4 * k + 1) f fd ps (spD K cl TT ps.length fun ds st => C.call i ds st) ∧ mg x = some (.ref f) ∧ PySem.W.keepIn K (.ref f) = true ∧ L2.Binds K fd ps [] ∧ ∀ ds st, ds.length ≠ ps.length → C.call i ds st = .bad
  gl : ∀ n x, T.gls[n]? = some x → ∃ d v u, C.glob n = some d ∧ mg x = some u ∧ L2.RelV v u ∧ ∀ F r m, Rp K cl F r m v d
  cls : ∀ n x, T.cls[n]? = some x → mg x = some (.ref (cl n))
  rcl : ∀ n, n ∈ T.rcl → PySem.W.keepIn K (.ref (cl n)) = true ∧ (∃ bmB B newId initId, ExcBaseFacts B newId initId bmB ∧ PySem.W.excIn K (cl n) bmB newId = true) ∧ ∀ X : Cx, X.K = K → Raises X (.ref (cl n))
  kf : KF K cl C.sub
  blt : ∀ x, x ∈ T.blt → mg x = none
  gcd : T.gcd = true → mg (Str.ofString "gcd") = some (.builtin "math.gcd")
  kd : ∀ n x, T.kds[n]? = some x → ∃ a, mg x = some (.ref a) ∧ KdF K w.params a (C.kd n)
  isq : T.isq = true → mg (Str.ofString "isqrt") = some (.builtin "math.isqrt")
  kt : ∀ n x, T.kts[n]? = some x → ∃ a, mg x = some (.ref a) ∧ KtF K w a (C.kd (T.kds.length + n))
  fnL : T.top = 2 → ∀ i x, T.fns[i]? = some x → T.lam.contains i = true → LamF P w K mg base cl TT k x (C.callL i)
theorem GF.inner {T : Tab} {P : PySem.Program} {w : World} {K : PySem.W.Frag} {mg : Str → Option Value} {base : Heap} {k : Nat} {cl : Nat → Addr} {TT : List (Addr × Str)} {C : Cfg} (h : GF T P w K mg base k cl TT C) : GF T.inner P w K mg base k cl TT C :=
  ⟨h.fn, h.gl, h.cls, h.rcl, h.kf, h.blt, h.gcd, h.kd, h.isq, h.kt, fun e => by cases e⟩
theorem GF.inL {T : Tab} {P : PySem.Program} {w : World} {K : PySem.W.Frag} {mg : Str → Option Value} {base : Heap} {k : Nat} {cl : Nat → Addr} {TT : List (Addr × Str)} {C : Cfg} (h : GF T P w K mg base k cl TT C) : GF T.inL P w K mg base k cl TT C :=
  ⟨h.fn, h.gl, h.cls, h.rcl, h.kf, h.blt, h.gcd, h.kd, h.isq, h.kt, fun e => by cases e⟩
/-- what the def's own code object brings -/
structure TopF (T : Tab) (X : Cx) (base : Lv) (k : Nat) : Prop where
  room : Room (4 * k + 4) X.A
  ex : ∃ c P, X.env.code = .ref c ∧ LamX.TabB X.base X.mg c P ∧ (P, X.env.qual ++ sfx T.top) ∈ base.T ∧ ∀ p ∈ base.T, p.1 = P → p.2 = X.env.qual ++ sfx T.top
structure Okx (T : Tab) (X : Cx) (cl : Nat → Addr) (base : Lv) (Wx : WX) (C : Cfg) (k : Nat) (N : List Str) (sc : Scope) (fb : Str → Bool) : Prop where
  N : X.N = N
  sc : X.env.scope = sc
  fn : X.fn = fb
  calm : X.calm = true
  nd : X.N.Nodup
  room : Room (4 * k + 1) X.A
  gd : X.A.guards = some []
  G : GF T X.prog X.w X.K X.mg X.base k cl base.T C
  tk : ∀ σ, PassesAt (L2.CX X.prog X.w) X σ (WE Wx σ)
  bb : T.wr = true → C.base = base.b
  top : T.top ≠ 0 → TopF T X base k
  act : T.act = true → ∀ (x : Str) (p1 p2 : Pos), X.N[(0 : Nat)]? = some x → PE X (.Call (.Name x p1) [] [] p2) (tD X.K cl base Wx (actF C.lamc C.act))
section
variable {T : Tab} {X : Cx} {cl : Nat → Addr} {base : Lv} {Wx : WX} {C : Cfg} {k : Nat} {N : List Str} {sc : Scope} {fb : Str → Bool}
theorem Okx.un (h : Okx T X cl base Wx C k N sc fb) : X.A.units + 66 < cLine := by
  have := h.room.un
  omega
theorem Okx.gl (h : Okx T X cl base Wx C k N sc fb) {x : Str} (e : glOk sc x = true) : Gl X x := by
  unfold glOk at e
  have e := of_decide_eq_true e
  rw [← h.sc] at e
  exact e
theorem Okx.vis (h : Okx T X cl base Wx C k N sc fb) {x : Str} (e : visOk sc x = true) : Vis X.env.scope x := by
  unfold visOk at e
  simp only [Bool.or_eq_true, decide_eq_true_eq] at e
  rw [h.sc]
  exact e
theorem nm1 {x : Str} (h : nmOk x = true) : x ≠ Str.ofString "__name__" := by
  unfold nmOk at h
  simp only [Bool.and_eq_true, decide_eq_true_eq] at h
  exact h.1
theorem nm2 {x : Str} (h : nmOk x = true) : (x == Str.ofString "__debug__") = false := by
  unfold nmOk at h
  simp only [Bool.and_eq_true, decide_eq_true_eq] at h
  exact h.2.1
theorem nm3 {x : Str} (h : nmOk x = true) : (x == Str.ofString "__classdict__") = false := by
  unfold nmOk at h
  simp only [Bool.and_eq_true, decide_eq_true_eq] at h
  exact h.2.2
theorem Okx.blk (h : Okx T X cl base Wx C k N sc fb) (s : Shared) (H : Hp) (scope : Scope) (A : Addr) (cs : List (Str × Addr)) (fp : List Addr) :
    Okx { T with act := false } (X.blk s H scope (compEnvC scope cs A X.env) fp) cl base WF C k N (L2.relS scope sc) (cellF scope) := by
  refine ⟨h.N, ?_, rfl, h.calm, h.nd, h.room, h.gd, ⟨h.G.fn, h.G.gl, h.G.cls, h.G.rcl, h.G.kf, h.G.blt, h.G.gcd, h.G.kd, h.G.isq, h.G.kt, h.G.fnL⟩, fun σ pins H s e s' I hx => ?_, h.bb, fun e => ⟨(h.top e).room, (h.top e).ex⟩, fun e => by cases e⟩
  · rw [← h.sc]
    rfl
  · obtain ⟨_, _, _, _, _, _, _, _, _, _, _, _, q⟩ := hx
    exact q.elim
theorem blt_boot (t : Ty) : bootBuiltins (Str.ofString t.nm) = some (.type t.nm) := by
  cases t <;> decide +kernel
theorem lit_ok {d : D} {e : Expr} (h : Okx T X cl base Wx C k N sc fb) (hc : ckLit T sc d e = true) : PE X e (tD X.K cl base Wx (ev C (.lit d))) := by
  have go : ∀ {u : V}, PE X e (tC u) → (∀ F r n, Rp X.K cl F r n u d) → PE X e (tD X.K cl base Wx (ev C (.lit d))) := fun he hr => Itp.PE.imp he fun σ H Q q => tD_const hr q
  unfold ckLit at hc
  split at hc
  · split at hc
    · have := of_decide_eq_true hc
      subst this
      exact go pe_int fun _ _ _ => .int _
    · cases hc
  · split at hc
    · have := of_decide_eq_true hc
      subst this
      exact go pe_str fun _ _ _ => .str _
    · cases hc
  · split at hc
    · have := of_decide_eq_true hc
      subst this
      exact go pe_bl fun _ _ _ => .bl _
    · cases hc
  · split at hc
    · exact go pe_non fun _ _ _ => .non
    · cases hc
  · split at hc
    · simp only [Bool.and_eq_true, decide_eq_true_eq] at hc
      exact go (pe_glob (v := .ref (cl _)) (h.gl hc.2.1) (h.G.cls _ _ hc.1) rfl (nm2 hc.2.2)) fun _ _ _ => .cls _
    · cases hc
  · split at hc
    · simp only [Bool.and_eq_true, decide_eq_true_eq, List.contains_iff_mem] at hc
      obtain ⟨rfl, h1, h2, h3⟩ := hc
      exact go (pe_bltn (v := .ty _) (h.gl h1) (h.G.blt _ h3) (blt_boot _) rfl (nm1 h2) (nm2 h2)) fun _ _ _ => .ty _
    · cases hc
  · cases hc
end
end Itp
namespace Itp
open L2 PySem.Spec PyProof.Rows PySem
section
variable {T : Tab} {cl : Nat → Addr} {base : Lv} {C : Cfg} {k : Nat} {N : List Str}
theorem evs_map (C : Cfg) : ∀ es : List E, evs C es = evsF (es.map (ev C))
  | [] => by
    funext env st
    rfl
  | e :: es => by
    funext env st
    show (ev C e env st).bind _ = (ev C e env st).bind _
    rw [← evs_map C es]
theorem evb_map (C : Cfg) (kk : Bool) : ∀ es : List E, evb C kk es = evbF kk (es.map (ev C))
  | [] => rfl
  | [e] => rfl
  | e :: e' :: es => by
    funext env st
    have := evb_map C kk (e' :: es)
    rw [evb]
    show _ = (ev C e env st).bind _
    rw [this]
    rfl
/-- what the check brings of an expression -/
def Snd (X : Cx) (cl : Nat → Addr) (base : Lv) (Wx : WX) (C : Cfg) (e : E) (ex : Expr) : Prop :=
  PE X ex (tD X.K cl base Wx (ev C e)) ∧ (tok e = true → PT X ex (tB X.K cl base Wx (tst (ev C e))))
theorem snd_plain {X : Cx} {Wx : WX} {e : E} {ex : Expr} (h : PE X ex (tD X.K cl base Wx (ev C e))) (hp : ∀ whole, PySem.isTrue ex X.env whole = (do let v ← whole; standAt ex.pos; holding [v] (truthy v))) : Snd X cl base Wx C e ex := ⟨h, fun _ => pt_plain h hp⟩
inductive Snds (X : Cx) (cl : Nat → Addr) (base : Lv) (Wx : WX) (C : Cfg) : List E → List Expr → Prop where
  | nil : Snds X cl base Wx C [] []
  | cons {e : E} {es : List E} {x : Expr} {xs : List Expr} (h : Snd X cl base Wx C e x) (hs : Snds X cl base Wx C es xs) : Snds X cl base Wx C (e :: es) (x :: xs)
theorem Snds.pes {X : Cx} {Wx : WX} : ∀ {es : List E} {xs : List Expr}, Snds X cl base Wx C es xs → PEs X cl base Wx xs (es.map (ev C))
  | _, _, .nil => .nil
  | _, _, .cons h hs => .cons h.1 hs.pes
theorem Snds.pts {X : Cx} {Wx : WX} : ∀ {es : List E} {xs : List Expr}, Snds X cl base Wx C es xs → toks es = true → PTss X cl base Wx xs (es.map (ev C))
  | _, _, .nil, _ => .nil
  | _, _, .cons h hs, t => by
    simp only [toks, Bool.and_eq_true] at t
    exact .cons (h.2 t.1) (hs.pts t.2)
theorem notSet_fold {it : Expr} {env : PySem.Env} (h : notSet it = true) : ∀ x, foldedSetIterable it env x = pure x := by
  intro x
  cases it <;> first | rfl | (simp [notSet] at h)
theorem notSlice_ix {b : Expr} (h : notSlice b = true) : PlainIx b := by
  intro o i
  cases b <;> first | rfl | (simp [notSlice] at h)
section
variable {X : Cx} {Wx : WX} {sc : Scope} {fb : Str → Bool}
theorem evsF_len : ∀ {fs : List (Env → Sto → Out D)} {env : Env} {st s1 : Sto} {ds : List D}, evsF fs env st = .ok ds s1 → ds.length = fs.length
  | [], _, _, _, _, h => by
    cases h
    rfl
  | f :: fs, env, st, s1, ds, h => by
    rw [evsF] at h
    obtain ⟨d, s2, _, h⟩ := bind_ok h
    obtain ⟨ds', s3, h2, h⟩ := bind_ok h
    cases h
    simp [evsF_len h2]
theorem pi_r1 {f1 : Env → Sto → Out D} {tg e1 : Expr} {p pos : Pos} (hg : Gl X (Str.ofString "range")) (hm : X.mg (Str.ofString "range") = none) (h : PEs X cl base Wx [e1] [f1]) (ns : noStar [e1] = true) :
    PI X tg (.Call (.Name (Str.ofString "range") p) [e1] [] pos) (tI X.K cl base Wx .range (evsF [f1])) := by
  refine ⟨fun pins s σ H R I h2 => (pi_range1 hg hm (pa_es h ns) (star_cons ns)).run pins s σ H R I (h2.post fun W1 H1 st1 ds vs xs ⟨env, st, eq⟩ sr r hi w => ?_)⟩
  have hl := evsF_len eq
  match ds, vs, r, hl with
  | [d], [v], .cons r .nil, _ =>
    cases d <;> simp only [items, reduceCtorEq] at hi
    split at hi
    · rename_i hb
      cases hi
      cases r
      unfold small62 at hb
      simp only [Bool.and_eq_true, decide_eq_true_eq] at hb
      exact ⟨_, rfl, hb.1, hb.2, w _ walks_range⟩
    · cases hi
theorem pi_r2 {f1 f2 : Env → Sto → Out D} {tg e1 e2 : Expr} {p pos : Pos} (hg : Gl X (Str.ofString "range")) (hm : X.mg (Str.ofString "range") = none) (h : PEs X cl base Wx [e1, e2] [f1, f2]) (ns : noStar [e1, e2] = true) :
    PI X tg (.Call (.Name (Str.ofString "range") p) [e1, e2] [] pos) (tI X.K cl base Wx .range (evsF [f1, f2])) := by
  have n2 := noStar_tail ns
  refine ⟨fun pins s σ H R I h2 => (pi_range2 hg hm (pa_es h ns) (by rw [star_cons ns, star_cons n2]; rfl) (star_cons n2)).run pins s σ H R I (h2.post fun W1 H1 st1 ds vs xs ⟨env, st, eq⟩ sr r hi w => ?_)⟩
  have hl := evsF_len eq
  match ds, vs, r, hl with
  | [d, d2], [v, v2], .cons r (.cons r2 .nil), _ =>
    cases d <;> cases d2 <;> simp only [items, reduceCtorEq] at hi
    split at hi
    · rename_i hb
      cases hi
      cases r
      cases r2
      unfold small62 at hb
      simp only [Bool.and_eq_true, decide_eq_true_eq] at hb
      exact ⟨_, _, rfl, ⟨hb.1.1, hb.1.2, hb.2.1, hb.2.2⟩, w _ walks_range⟩
    · cases hi
theorem walks_enum {W0 : Wd} {n0 : Nat} {p : Addr} {vs : List V} {ds : List D} (h : SqL X.K W0.F p vs) (r : RpL X.K cl W0.F W0.r n0 vs ds) : Walks X.K cl (Ite X.K p) ((List.range ds.length).zip ds |>.map fun p => .tup [.int (p.1 : Nat), p.2]) W0 n0 := by
  refine ⟨_, _, by rw [List.length_map, List.length_zip, List.length_range, Nat.min_self, ← r.length]; exact walk_enum (xs := vs), fun base W st H l le sr => SqL.up (fun a o q => sr.sub a o (l.sub a o q)) h, fun i d base W st H x H' hd l le sr y => ?_⟩
  obtain ⟨t, x1, y1, rfl, ht, rfl, hx, hy⟩ := y
  cases hx
  obtain ⟨hi, hd⟩ := List.getElem?_eq_some_iff.mp hd
  simp at hd
  subst hd
  have hi2 : i < ds.length := by simpa using hi
  obtain ⟨v, hv, rv⟩ := r.get (d := ds[i]) (List.getElem?_eq_getElem hi2)
  have hy : vs[i]? = some y1 := hy
  rw [hy] at hv
  cases hv
  have rv2 := rv.up l.sub l.at_ le
  obtain ⟨s2, l2⟩ := sr.share (o := .tup [.int (i : Nat), y1]) ht
  refine ⟨_, l2, s2, .tup (SqT.of upd_same) (.cons (.int _) (.cons (rv2.up' l2 (Nat.le_refl _)) .nil))⟩
theorem pi_en {f1 : Env → Sto → Out D} {e1 : Expr} {elts : List Expr} {kk : Nat} {p pos tpos : Pos} (hg : Gl X (Str.ofString "enumerate")) (hm : X.mg (Str.ofString "enumerate") = none) (h : PEs X cl base Wx [e1] [f1]) (ns : noStar [e1] = true) :
    PI X (.Tuple elts kk tpos) (.Call (.Name (Str.ofString "enumerate") p) [e1] [] pos) (tI X.K cl base Wx .enum (evsF [f1])) := by
  refine ⟨fun pins s σ H R I h2 => (pi_enum hg hm (pa_es h ns) (star_cons ns)).run pins s σ H R I (h2.post fun W1 H1 st1 ds vs xs ⟨env, st, eq⟩ sr r hi w => ?_)⟩
  have hl := evsF_len eq
  match ds, vs, r, hl with
  | [d], [v], .cons r .nil, _ =>
    cases d <;> simp only [items, reduceCtorEq, Option.some.injEq] at hi
    subst hi
    cases r with
    | lst h hs => exact ⟨_, _, rfl, SqL.up sr.sub h, w _ (walks_enum h hs)⟩
/-- how a for walks, by the check -/
theorem it_ok {ik : IK} {tg it : Expr} {es' : List Expr} {fs : List (Env → Sto → Out D)} (h : Okx T X cl base Wx C k N sc fb) (hc : ckIt T sc ik tg it = some es') (he : PEs X cl base Wx es' fs) : PI X tg it (tI X.K cl base Wx ik (evsF fs)) ∧ ∀ x, foldedSetIterable it X.env x = pure x := by
  unfold ckIt at hc
  split at hc
  · split at hc
    · rename_i hn
      cases hc
      match fs, he with
      | [f], .cons he .nil => exact ⟨pi_seqD he, notSet_fold hn⟩
    · cases hc
  · split at hc
    · split at hc
      · rename_i hn
        cases hc
        simp only [Bool.and_eq_true, Bool.or_eq_true, decide_eq_true_eq, List.contains_iff_mem] at hn
        obtain ⟨rfl, h1, h2, h3, h4⟩ := hn
        refine ⟨?_, fun _ => rfl⟩
        cases he with
        | nil => simp at h4
        | cons a as =>
          cases as with
          | nil => exact pi_r1 (h.gl h1) (h.G.blt _ h2) (.cons a .nil) h3
          | cons b bs =>
            cases bs with
            | nil => exact pi_r2 (h.gl h1) (h.G.blt _ h2) (.cons a (.cons b .nil)) h3
            | cons c cs => simp at h4
      · cases hc
    · cases hc
  · split at hc
    · split at hc
      · rename_i hn
        cases hc
        simp only [Bool.and_eq_true, decide_eq_true_eq, List.contains_iff_mem] at hn
        obtain ⟨rfl, h1, h2, h3, h4, h5⟩ := hn
        refine ⟨?_, fun _ => rfl⟩
        cases he with
        | nil => simp at h4
        | cons a as =>
          cases as with
          | nil =>
            cases tg <;> simp [isTupT] at h5
            exact pi_en (h.gl h1) (h.G.blt _ h2) (.cons a .nil) h3
          | cons b bs => simp at h4
      · cases hc
    · cases hc
  · cases hc
end
end
end Itp
namespace Itp
open L2 PySem.Spec PyProof.Rows PySem
section
variable {T : Tab} {cl : Nat → Addr} {base : Lv} {C : Cfg} {k : Nat} {N : List Str}
section
variable {X : Cx} {Wx : WX} {sc : Scope} {fb : Str → Bool}
theorem blt_pe {b : Blt} {p pos : Pos} {e : Expr} {es : List Expr} {fs : List (Env → Sto → Out D)} (h : Okx T X cl base Wx C k N sc fb) (hb : b.known = true) (hg : Gl X (Str.ofString b.nm)) (hm : X.mg (Str.ofString b.nm) = none) (he : PEs X cl base Wx (e :: es) fs) (ns : noStar (e :: es) = true) :
    PE X (.Call (.Name (Str.ofString b.nm) p) (e :: es) [] pos) (tD X.K cl base Wx fun env st => (evsF fs env st).bind fun ds st => .of st (bltop C b (allv st ds))) := by
  cases b <;> first | (cases hb; done) | skip
  · exact pe_callBD call_lenD hg hm (by decide +kernel) he ns (by decide +kernel) (by decide +kernel)
  · exact pe_callBD call_absD hg hm (by decide +kernel) he ns (by decide +kernel) (by decide +kernel)
  · exact pe_callBD (call_reprD h.gd h.un) hg hm (by decide +kernel) he ns (by decide +kernel) (by decide +kernel)
  · exact pe_callBD (call_isiD h.G.kf) hg hm (by decide +kernel) he ns (by decide +kernel) (by decide +kernel)
  · exact pe_callTD call_tupleD hg hm (by decide +kernel) he ns (by decide +kernel) (by decide +kernel)
  · exact pe_callTD call_listD hg hm (by decide +kernel) he ns (by decide +kernel) (by decide +kernel)
  · exact pe_callTD call_intD hg hm (by decide +kernel) he ns (by decide +kernel) (by decide +kernel)
  · exact pe_callTD call_strD hg hm (by decide +kernel) he ns (by decide +kernel) (by decide +kernel)
  · exact pe_callBD (call_sumD h.calm) hg hm (by decide +kernel) he ns (by decide +kernel) (by decide +kernel)
  · exact pe_callBD (call_maxD h.calm) hg hm (by decide +kernel) he ns (by decide +kernel) (by decide +kernel)
  · exact pe_callBD (call_minD h.calm) hg hm (by decide +kernel) he ns (by decide +kernel) (by decide +kernel)
  · exact pe_callBD (call_allD h.calm) hg hm (by decide +kernel) he ns (by decide +kernel) (by decide +kernel)
  · exact pe_callBD (call_anyD h.calm) hg hm (by decide +kernel) he ns (by decide +kernel) (by decide +kernel)
theorem call_pe {f : Nat} {x : Str} {p pos : Pos} {es : List Expr} {fs : List (Env → Sto → Out D)} (h : Okx T X cl base Wx C k N sc fb) (hf : T.fns[f]? = some x) (hl : T.lam.contains f = false) (hg : Gl X x) (hd : (x == Str.ofString "__debug__") = false) (he : PEs X cl base Wx es fs) (ns : noStar es = true) :
    PE X (.Call (.Name x p) es [] pos) (tD X.K cl base Wx fun env st => (evsF fs env st).bind fun ds st => C.call f ds st) := by
  obtain ⟨fa, fd, ps, hG, hm, hk, hb, hn⟩ := h.G.fn f x hf hl
  cases he with
  | nil =>
    refine Itp.PE.imp (pe_callG0 (E := WE Wx) hG h.room h.gd hg hm hk hb h.tk hd) fun σ H Q q => ?_
    have q2 := call_imp (r := fun ds st => C.call f ds st) (fs := evsF []) (np := ps.length) hn q
    obtain ⟨W, env, st, sr, er, p⟩ := q2
    exact p W H [] (Le.refl _ _) (Nat.le_refl _) sr .nil
  | cons a as =>
    refine Itp.PE.imp (pe_callG (E := WE Wx) hG h.room h.gd hg hm hk hb h.tk (pa_es (.cons a as) ns) hd ns) fun σ H Q q => ?_
    exact call_imp (r := fun ds st => C.call f ds st) hn q
end
theorem bnot {b : Bool} (h : (!b) = true) : b = false := by
  cases b <;> simp at h ⊢
mutual
theorem soundE : ∀ (e : E) {base : Lv} {T : Tab} {X : Cx} {Wx : WX} {sc : Scope} {fb : Str → Bool} {ex : Expr}, Okx T X cl base Wx C k N sc fb → ck T N e sc fb ex = true → Snd X cl base Wx C e ex
  | .lit d, base, T, X, Wx, sc, fb, ex, h, hc => by
    refine snd_plain (lit_ok h hc) ?_
    simp only [ck] at hc
    unfold ckLit at hc
    intro whole
    split at hc <;> (try (cases hc; done)) <;> split at hc <;> first | rfl | cases hc
  | .var i, base, T, X, Wx, sc, fb, ex, h, hc => by
    simp only [ck] at hc
    split at hc
    · simp only [Bool.and_eq_true, decide_eq_true_eq] at hc
      refine snd_plain (Itp.PE.imp (pv i (by rw [h.N]; exact hc.1) (h.vis hc.2.1) (nm2 hc.2.2) (nm3 hc.2.2)) fun σ H Q q => tD_var q) fun _ => rfl
    · cases hc
  | .glob n, base, T, X, Wx, sc, fb, ex, h, hc => by
    simp only [ck] at hc
    split at hc
    · simp only [Bool.and_eq_true, decide_eq_true_eq] at hc
      obtain ⟨d, v, u, e1, e2, e3, e4⟩ := h.G.gl _ _ hc.1
      refine snd_plain (Itp.PE.imp (pe_glob (h.gl hc.2.1) e2 e3 (nm2 hc.2.2)) fun σ H Q q => ?_) fun _ => rfl
      refine tD_const (d := d) (base := base) (Wx := Wx) e4 ?_
      have : ev C (.glob n) = fun _ st => .ok d st := by
        funext env st
        show Out.of st (C.glob n) = _
        rw [e1]
        rfl
      rw [this] at q
      exact q
    · cases hc
  | .bin o a b, base, T, X, Wx, sc, fb, ex, h, hc => by
    simp only [ck] at hc
    split at hc
    · simp only [Bool.and_eq_true, decide_eq_true_eq] at hc
      obtain ⟨rfl, h1, h2⟩ := hc
      exact snd_plain (pe_bin o (soundE a h h1).1 (soundE b h h2).1) fun _ => rfl
    · cases hc
  | .neg a, base, T, X, Wx, sc, fb, ex, h, hc => by
    simp only [ck] at hc
    split at hc
    · simp only [Bool.and_eq_true, decide_eq_true_eq] at hc
      obtain ⟨rfl, h1⟩ := hc
      exact snd_plain (pe_neg (soundE a h h1).1) fun _ => rfl
    · cases hc
  | .not a, base, T, X, Wx, sc, fb, ex, h, hc => by
    simp only [ck] at hc
    split at hc
    · simp only [Bool.and_eq_true, decide_eq_true_eq] at hc
      obtain ⟨rfl, h1⟩ := hc
      have s := soundE a h h1
      exact ⟨pe_nott s.1, fun t => pt_nott (t := fun _ _ => .bad) (s.2 (by simpa [tok] using t))⟩
    · cases hc
  | .cmp o a b, base, T, X, Wx, sc, fb, ex, h, hc => by
    simp only [ck] at hc
    split at hc
    · simp only [Bool.and_eq_true, decide_eq_true_eq] at hc
      obtain ⟨rfl, h0, h1, h2⟩ := hc
      have s1 := soundE a h h1
      have s2 := soundE b h h2
      have hu : X.A.units + 65 < cLine := Nat.lt_of_succ_lt h.un
      exact ⟨pe_cmp o hu (bnot h0) s1.1 s2.1, fun _ => pt_cmp2 o hu (bnot h0) s1.1 s2.1⟩
    · cases hc
  | .chain o o' a b c, base, T, X, Wx, sc, fb, ex, h, hc => by
    simp only [ck] at hc
    split at hc
    · simp only [Bool.and_eq_true, decide_eq_true_eq] at hc
      obtain ⟨rfl, rfl, h0, h1, h2, h3⟩ := hc
      have s1 := soundE a h h1
      have s2 := soundE b h h2
      have s3 := soundE c h h3
      have hu : X.A.units + 65 < cLine := Nat.lt_of_succ_lt h.un
      exact ⟨pe_chn o o' hu (bnot h0) s1.1 s2.1 s3.1, fun _ => pt_chn o o' hu (bnot h0) s1.1 s2.1 s3.1⟩
    · cases hc
  | .bop kk es, base, T, X, Wx, sc, fb, ex, h, hc => by
    simp only [ck] at hc
    split at hc
    · simp only [Bool.and_eq_true, decide_eq_true_eq] at hc
      obtain ⟨rfl, h0, h1⟩ := hc
      have s := soundEs es h h1
      have ne : ∀ {es' : List Expr}, es'.length ≠ 0 → es' ≠ [] := fun q e => q (by rw [e]; rfl)
      have ee : ev C (.bop kk es) = evbF kk (es.map (ev C)) := (evb_map C kk es).symm ▸ rfl
      refine ⟨?_, fun t => ?_⟩
      · rw [ee]
        exact pe_bop kk s.pes (ne h0)
      · rw [ee]
        exact (pw_bop kk (s.pts (by simpa [tok] using t)) (ne h0)).pt
    · cases hc
  | .ite c a b, base, T, X, Wx, sc, fb, ex, h, hc => by
    simp only [ck] at hc
    split at hc
    · simp only [Bool.and_eq_true] at hc
      obtain ⟨h0, h1, h2, h3⟩ := hc
      exact ⟨pe_ite ((soundE c h h1).2 h0) (soundE a h h2).1 (soundE b h h3).1, fun t => by simp [tok] at t⟩
    · cases hc
  | .tup es, base, T, X, Wx, sc, fb, ex, h, hc => by
    simp only [ck] at hc
    split at hc
    · simp only [Bool.and_eq_true] at hc
      rename_i es' x1 p1
      have r := pe_tupp (soundEs es h hc.2).pes hc.1 (pos := p1) (x1 := x1)
      rw [← evs_map] at r
      exact snd_plain r fun _ => rfl
    · cases hc
  | .lst m es, base, T, X, Wx, sc, fb, ex, h, hc => by
    simp only [ck] at hc
    split at hc
    · simp only [Bool.and_eq_true] at hc
      rename_i es' p1
      have r := pe_lstt (m := m) (soundEs es h hc.2).pes hc.1 (pos := p1)
      rw [← evs_map] at r
      exact snd_plain r fun _ => rfl
    · cases hc
  | .ix a b, base, T, X, Wx, sc, fb, ex, h, hc => by
    simp only [ck] at hc
    split at hc
    · simp only [Bool.and_eq_true] at hc
      have hu : X.A.units + 1 < cLine := by
        have := h.un
        omega
      exact snd_plain (pe_ixx hu (soundE a h hc.2.1).1 (soundE b h hc.2.2).1 (notSlice_ix hc.1)) fun _ => rfl
    · cases hc
  | .slc a lo hi, base, T, X, Wx, sc, fb, ex, h, hc => by
    simp only [ck] at hc
    split at hc
    · simp only [Bool.and_eq_true] at hc
      exact snd_plain (pe_slcc (soundE a h hc.1).1 (soundO lo h hc.2.1) (soundO hi h hc.2.2)) fun _ => rfl
    · cases hc
  | .addM a b, base, T, X, Wx, sc, fb, ex, h, hc => by
    simp only [ck] at hc
    split at hc
    · simp only [Bool.and_eq_true, decide_eq_true_eq] at hc
      obtain ⟨rfl, h1, h2⟩ := hc
      have e1 : ev C (.addM a b) = addMF (ev C a) (ev C b) := by
        funext env st
        simp only [ev]
        rfl
      refine snd_plain ?_ fun _ => rfl
      rw [e1]
      exact pe_addM (soundE a h h1).1 (soundE b h h2).1
    · cases hc
  | .rept es kk, base, T, X, Wx, sc, fb, ex, h, hc => by
    simp only [ck] at hc
    split at hc
    · simp only [Bool.and_eq_true, decide_eq_true_eq] at hc
      obtain ⟨rfl, h1, h2, h3⟩ := hc
      have e1 : ev C (.rept es kk) = reptF (evsF (es.map (ev C))) (ev C kk) := by
        rw [← evs_map]
        rfl
      refine snd_plain ?_ fun _ => rfl
      rw [e1]
      exact pe_rept (soundEs es h h2).pes h1 (soundE kk h h3).1
    · cases hc
  | .slcK a lo hi k, base, T, X, Wx, sc, fb, ex, h, hc => by
    simp only [ck] at hc
    split at hc
    · simp only [Bool.and_eq_true, decide_eq_true_eq] at hc
      obtain ⟨rfl, h2, h3, h4, h5⟩ := hc
      exact snd_plain (pe_slcK h2 (soundE a h h3).1 (soundO lo h h4) (soundO hi h h5)) fun _ => rfl
    · cases hc
  | .call f es, base, T, X, Wx, sc, fb, ex, h, hc => by
    simp only [ck] at hc
    split at hc
    · simp only [Bool.and_eq_true, decide_eq_true_eq] at hc
      rename_i x p0 es' p1
      obtain ⟨h1, hl, h2, h3, h4, h5⟩ := hc
      have r := call_pe (p := p0) (pos := p1) h h1 (bnot hl) (h.gl h2) (nm2 h3) (soundEs es h h5).pes h4
      rw [← evs_map] at r
      exact snd_plain r fun _ => rfl
    · cases hc
  | .blt b es, base, T, X, Wx, sc, fb, ex, h, hc => by
    simp only [ck] at hc
    split at hc
    · simp only [Bool.and_eq_true, Bool.or_eq_true, decide_eq_true_eq, List.contains_iff_mem] at hc
      rename_i x p0 es' p1
      obtain ⟨rfl, h2, h3, h4, h5, h6, h7⟩ := hc
      have s := (soundEs es h h7).pes
      cases es' with
      | nil => simp at h5
      | cons e' es' =>
        rcases h6 with ⟨hk, hm⟩ | ⟨hb, hgc⟩ | ⟨hb, hgc⟩
        · have r := blt_pe (p := p0) (pos := p1) h hk (h.gl h2) (h.G.blt _ hm) s h4
          rw [← evs_map] at r
          exact snd_plain r fun _ => rfl
        · subst hb
          have r := pe_callMD (p := p0) (pos := p1) (call_gcdD (X := X) (cl := cl)) (h.gl h2) (h.G.gcd hgc) s h4 (nm2 h3)
          rw [← evs_map] at r
          exact snd_plain r fun _ => rfl
        · subst hb
          have r := pe_callMD (p := p0) (pos := p1) (call_isqrtD (X := X) (cl := cl)) (h.gl h2) (h.G.isq hgc) s h4 (nm2 h3)
          rw [← evs_map] at r
          exact snd_plain r fun _ => rfl
    · cases hc
  | .mth m o es, base, T, X, Wx, sc, fb, ex, h, hc => by
    simp only [ck] at hc
    split at hc
    · simp only [Bool.and_eq_true, decide_eq_true_eq] at hc
      rename_i x p0 f0 apos a' cpos
      obtain ⟨hw, rfl, rfl, h3, h4, h5, h6⟩ := hc
      have so := (soundE o h h5).1
      have s := (soundEs es h h6).pes
      match es, s with
      | [e1], .cons s1 .nil =>
        have r := pe_app (X := X) (cl := cl) (base := base) (Wx := Wx) (apos := apos) (cpos := cpos) so s1 rfl (by rw [star_cons h4]; rfl) (by simpa using h3) h4
        rw [← h.bb hw] at r
        have e2 : evsF [ev C e1] = evs C [e1] := (evs_map C [e1]).symm
        rw [e2] at r
        exact snd_plain r fun _ => rfl
    · cases hc
  | .comp m own tg ik src cond elt, base, T, X, Wx, sc, fb, ex, h, hc => by
    simp only [ck] at hc
    split at hc
    · rename_i elt' tg' it' ifs' scope pos
      simp only [Bool.and_eq_true, decide_eq_true_eq, List.all_eq_true] at hc
      obtain ⟨h1, h2, ⟨h3, h4⟩, h5, h6, h7, h8⟩ := hc
      split at h4
      · rename_i es' hit
        have s := (soundEs src h h4).pes
        obtain ⟨pi, hf⟩ := it_ok h hit s
        have own_eq : (ownS N own).map (·.2) = own := by
          unfold ownS
          rw [List.map_map]
          exact List.map_id' own
        have hb : BlkOk X.N X.env.scope scope (ownS N own) := by
          rw [h.N, h.sc]
          exact blkOk_by h1
        have hs : ∀ i ∈ tg.slots, i ∈ (ownS N own).map (·.2) := by
          rw [own_eq]
          intro i hi
          exact List.contains_iff_mem.mp (h2 i hi)
        have ht : tgOk X.N (L2.relS scope X.env.scope) (fun x => List.lookup x scope.names == some .cell) tg tg' = true := by
          rw [h.N, h.sc]
          exact h3
        have hcc : ∀ (s : Shared) (H : Hp) (A : Addr) (cs : List (Str × Addr)) (fp : List Addr), PTs (X.blk s H scope (compEnvC scope cs A X.env) fp) ifs' (tB X.K cl base WF (evc C cond)) := fun s H A cs fp => by
          have q := soundEs cond (h.blk s H scope A cs fp) h7
          match cond, ifs', q, h5, h6 with
          | [], [], .nil, _, _ => exact pts_nilD
          | [e1], [x1], .cons q1 .nil, _, t =>
            simp only [toks, Bool.and_eq_true] at t
            exact pts_oneD (q1.2 t.1)
          | _ :: _ :: _, _ :: _ :: _, .cons _ (.cons _ _), h5, _ => exact absurd h5 (by simp)
        have r := pe_compD (m := m) (pos := pos) h.calm h.nd pi hb hs ht hcc (fun s H A cs fp => (soundE elt (h.blk s H scope A cs fp) h8).1) hf
        rw [own_eq, ← evs_map] at r
        exact snd_plain r fun _ => rfl
      · cases h4
    · cases hc
  | .gen kk own tg ik src elt, base, T, X, Wx, sc, fb, ex, h, hc => by
    simp only [ck] at hc
    split at hc
    · rename_i x p0 elt' tg' it' scope gpos pos
      simp only [Bool.and_eq_true, decide_eq_true_eq, List.all_eq_true, List.contains_iff_mem] at hc
      obtain ⟨ht, hx, h1, h2, h3, h4, h5, h6, h7, h8⟩ := hc
      split at h6
      · rename_i es' hit
        have s := (soundEs src h h6).pes
        obtain ⟨pi, hf⟩ := it_ok h hit s
        have own_eq : (ownS N own).map (·.2) = own := by
          unfold ownS
          rw [List.map_map]
          exact List.map_id' own
        have G : Gx.GenB X.N X.env.scope scope (ownS N own) := by
          rw [h.N, h.sc]
          exact genC_ok h3
        obtain ⟨room, c, P, hcode, TB, hm, hu⟩ := h.top (by rw [ht]; decide)
        rw [ht] at hm hu
        have inner : ∀ (s : Shared) (H : Hp) (Ca : Addr) (code : Value) (bi : Addr) (fp : List Addr), Okx T.inner (Gx.gxCx X (X.A.in1.in1.deeper (genEnv scope (cloFrom X.env.cells scope.names []) Ca code bi X.env)) s H (genEnv scope (cloFrom X.env.cells scope.names []) Ca code bi X.env) fp) cl base WF C k N scope (fun _ => false) := fun s H Ca code bi fp =>
          ⟨h.N, rfl, rfl, rfl, h.nd, ⟨room.hd, by have := room.dp; show X.A.depth + 1 + 3 * (4 * k + 1) + 5 < _; omega, by have := room.un; show X.A.units + 1 + 1 + 3 + 16 * (4 * k + 1) + 200 < _; omega⟩, h.gd, h.G.inner, fun σ pins H s e s' I hx => by obtain ⟨_, _, _, _, _, _, _, _, _, _, _, _, q⟩ := hx; exact q.elim, h.bb, fun e => absurd rfl e, fun e => by cases e⟩
        have hs : ∀ i ∈ tg.slots, i ∈ (ownS N own).map (·.2) := by
          rw [own_eq]
          exact h4
        have pg : ∀ (s : Shared) (H : Hp) (Ca : Addr) (code : Value) (bi : Addr) (fp : List Addr), PG (Gx.gxCx X (X.A.in1.in1.deeper (genEnv scope (cloFrom X.env.cells scope.names []) Ca code bi X.env)) s H (genEnv scope (cloFrom X.env.cells scope.names []) Ca code bi X.env) fp) tg' (gD X.K cl base tg.slots (bnd tg)) := fun s H Ca code bi fp =>
          pg_bnd (X := Gx.gxCx X (X.A.in1.in1.deeper (genEnv scope (cloFrom X.env.cells scope.names []) Ca code bi X.env)) s H (genEnv scope (cloFrom X.env.cells scope.names []) Ca code bi X.env) fp) rfl h.nd (by rw [show (Gx.gxCx X (X.A.in1.in1.deeper (genEnv scope (cloFrom X.env.cells scope.names []) Ca code bi X.env)) s H (genEnv scope (cloFrom X.env.cells scope.names []) Ca code bi X.env) fp).N = N from h.N]; exact h5)
        have pe : ∀ (s : Shared) (H : Hp) (Ca : Addr) (code : Value) (bi : Addr) (fp : List Addr), PE (Gx.gxCx X (X.A.in1.in1.deeper (genEnv scope (cloFrom X.env.cells scope.names []) Ca code bi X.env)) s H (genEnv scope (cloFrom X.env.cells scope.names []) Ca code bi X.env) fp) elt' (tD X.K cl base WF (ev C elt)) := fun s H Ca code bi fp => (soundE elt (inner s H Ca code bi fp) h8).1
        have gf : ∀ v, genFold it' X.env v = pure v := fun v => by
          cases it' <;> first | exact hf v | (simp [notLst] at h7)
        have dp : X.A.depth < recursionLimit := h.room.depth
        cases kk with
        | true =>
          have hx : x = Str.ofString "all" := hx
          subst hx
          have r := Gx.pe_allG (TT := base.T) (p := p0) (pos := pos) (gpos := gpos) (h.gl h1) (h.G.blt _ h2) h.calm h.nd h.room.hd dp TB hcode hm hu G pi pg pe gf
          refine snd_plain (Itp.PE.imp r fun σ H Q q => ?_) fun _ => rfl
          rw [own_eq]
          have q : tD X.K cl base Wx (genF true own tg ik (evs C src) (ev C elt)) σ H Q := q
          rw [evs_map] at q
          exact gx_imp h4 q
        | false =>
          have hx : x = Str.ofString "any" := hx
          subst hx
          have r := Gx.pe_anyG (TT := base.T) (p := p0) (pos := pos) (gpos := gpos) (h.gl h1) (h.G.blt _ h2) h.calm h.nd h.room.hd dp TB hcode hm hu G pi pg pe gf
          refine snd_plain (Itp.PE.imp r fun σ H Q q => ?_) fun _ => rfl
          rw [own_eq]
          have q : tD X.K cl base Wx (genF false own tg ik (evs C src) (ev C elt)) σ H Q := q
          rw [evs_map] at q
          exact gx_imp h4 q
      · cases h6
    · cases hc
  | .callL f body, base, T, X, Wx, sc, fb, ex, h, hc => by
    simp only [ck] at hc
    split at hc
    · rename_i x p0 params body' scope lpos pos
      simp only [Bool.and_eq_true, decide_eq_true_eq] at hc
      obtain ⟨ht, h1, h2, h3, h4, h5, h6, h7⟩ := hc
      obtain ⟨room, c, P, hcode, TB, hm, hu⟩ := h.top (by rw [ht]; decide)
      rw [ht] at hm hu
      have L : LamX.LamS X.env.scope scope := by
        rw [h.sc]
        exact LamX.lamS_by h6
      have hp : params = ⟨[], [], none, [], [], none, []⟩ := by
        obtain ⟨a1, a2, a3, a4, a5, a6, a7⟩ := params
        cases a1 <;> cases a2 <;> cases a3 <;> cases a4 <;> cases a5 <;> cases a6 <;> cases a7 <;> first | rfl | (simp [noPar] at h5)
      subst hp
      refine snd_plain (pe_lamD (lpos := lpos) (h.G.fnL ht f x h1 h2) (h.gl h3) room h.gd TB hcode hm hu L rfl (fun _ _ _ _ _ => rfl) (nm2 h4) fun A outer s H E fa c' b2 hT gA hr => ?_) fun _ => rfl
      have ok : Okx T.inL (LamX.lamCx X A outer s H E scope fa c') cl b2 (fun c d _ H => E c d H) C k N scope (fun _ => false) := by
        refine ⟨h.N, rfl, rfl, rfl, h.nd, hr.mono (by omega), ?_, (by rw [hT]; exact h.G.inL), fun σ => passAt (takes_of rfl rfl rfl rfl) σ, fun e => (by cases e), fun e => absurd rfl e, fun e => (by cases e)⟩
        show A.guards = some []
        rw [gA]
        exact h.gd
      exact (soundE body ok h7).1
    · cases hc
  | .act i, base, T, X, Wx, sc, fb, ex, h, hc => by
    simp only [ck] at hc
    split at hc
    · simp only [Bool.and_eq_true, decide_eq_true_eq] at hc
      obtain ⟨h1, rfl, h3⟩ := hc
      exact snd_plain (h.act h1 _ _ _ (by rw [h.N]; exact h3)) fun _ => rfl
    · cases hc
  | .kin neg a n, base, T, X, Wx, sc, fb, ex, h, hc => by
    simp only [ck] at hc
    split at hc
    · simp only [Bool.and_eq_true, decide_eq_true_eq] at hc
      obtain ⟨rfl, h1, h2, h3, h4⟩ := hc
      obtain ⟨da, hm, D⟩ := h.G.kd n _ h1
      have ha := (soundE a h h4).1
      exact ⟨pe_kin D (h.gl h2) hm (nm2 h3) ha, fun _ => pt_kin D (h.gl h2) hm (nm2 h3) ha⟩
    · cases hc
  | .kinT neg a n, base, T, X, Wx, sc, fb, ex, h, hc => by
    simp only [ck] at hc
    split at hc
    · simp only [Bool.and_eq_true, decide_eq_true_eq] at hc
      obtain ⟨rfl, h0, h1, h2, h3, h4⟩ := hc
      obtain ⟨da, hm, D⟩ := h.G.kt _ _ h1
      rw [Nat.add_sub_cancel' h0] at D
      have ha := (soundE a h h4).1
      have hu : X.A.units + 9 < cLine := by
        have := h.un
        omega
      exact ⟨pe_kinT D hu (h.gl h2) hm (nm2 h3) ha, fun _ => pt_kinT D hu (h.gl h2) hm (nm2 h3) ha⟩
    · cases hc
  | .tyis neg a, base, T, X, Wx, sc, fb, ex, h, hc => by
    simp only [ck] at hc
    split at hc
    · simp only [Bool.and_eq_true, decide_eq_true_eq] at hc
      obtain ⟨rfl, rfl, rfl, h1, h2, h3, h4, h5, h6⟩ := hc
      have ha := (soundE a h h6).1
      exact ⟨pe_tyis (h.gl h1) (h.G.blt _ (by simpa using h3)) (h.gl h2) (h.G.blt _ (by simpa using h4)) h5 ha, fun _ => pt_tyis (h.gl h1) (h.G.blt _ (by simpa using h3)) (h.gl h2) (h.G.blt _ (by simpa using h4)) h5 ha⟩
    · cases hc
  | .kix n b, base, T, X, Wx, sc, fb, ex, h, hc => by
    simp only [ck] at hc
    split at hc
    · simp only [Bool.and_eq_true, decide_eq_true_eq] at hc
      obtain ⟨h1, h2, h3, h4, h5⟩ := hc
      obtain ⟨da, hm, D⟩ := h.G.kd n _ h1
      exact snd_plain (pe_kix D (h.gl h2) hm (nm2 h3) (soundE b h h5).1 (notSlice_ix h4)) fun _ => rfl
    · cases hc
  | .dget a kk df, base, T, X, Wx, sc, fb, ex, h, hc => by
    simp only [ck] at hc
    split at hc
    · simp only [Bool.and_eq_true, decide_eq_true_eq] at hc
      rename_i o f apos k' df' cpos
      obtain ⟨rfl, h2, h3, h4, h5, h6, h7, h8⟩ := hc
      have so := (soundE a h h6).1
      have sk := (soundE kk h h7).1
      have sd := (soundEs df h h8).pes
      have hu : X.A.units + 1 < cLine := by
        have := h.un
        omega
      have hb : attributeBase o (Str.ofString "get") X.env (eval o X.env) = eval o X.env := by
        cases o <;> first | rfl | (simp [isPlainO] at h3)
      have e1 : ev C (.dget a kk df) = dgetF (ev C a) (ev C kk) (evsF (df.map (ev C))) := by
        rw [← evs_map]
        rfl
      refine snd_plain ?_ fun _ => rfl
      rw [e1]
      match df, df', sd, h5 with
      | [], [], .nil, _ => exact pe_dg1 hu so sk ⟨hb, by rw [star_cons h4]; rfl, by simpa using h2, by rw [star_cons h4]; rfl⟩
      | [d], [d'], .cons s1 .nil, _ => exact pe_dg2 hu so sk s1 ⟨hb, by rw [star_cons h4, star_cons (noStar_tail h4)]; rfl, by simpa using h2, by rw [star_cons h4, star_cons (noStar_tail h4)]; rfl⟩
      | _ :: _ :: _, _ :: _ :: _, .cons _ (.cons _ _), h5 => exact absurd h5 (by simp)
    · cases hc
  | .dct m ks es, base, T, X, Wx, sc, fb, ex, h, hc => by
    simp only [ck] at hc
    split at hc
    · rename_i keys vals pos
      simp only [Bool.and_eq_true, decide_eq_true_eq] at hc
      obtain ⟨h1, h2, h3, h4⟩ := hc
      have s := (soundEs es h h4).pes
      have e1 : ev C (.dct m ks es) = dctF m ks (evsF (es.map (ev C))) := by
        rw [← evs_map]
        rfl
      refine snd_plain ?_ fun _ => rfl
      rw [e1]
      by_cases h0 : keys = []
      · subst h0
        cases ks with
        | nil =>
          cases vals with
          | nil =>
            cases es with
            | nil => exact pe_dct0
            | cons e es => cases s
          | cons v vs => simp at h2
        | cons k ks => simp [keysC] at h1
      · exact pe_dctD s h1 h2 h0 h3
    · cases hc
theorem soundEs : ∀ (es : List E) {base : Lv} {T : Tab} {X : Cx} {Wx : WX} {sc : Scope} {fb : Str → Bool} {exs : List Expr}, Okx T X cl base Wx C k N sc fb → cks T N es sc fb exs = true → Snds X cl base Wx C es exs
  | [], base, T, X, Wx, sc, fb, exs, h, hc => by
    simp only [cks, List.isEmpty_iff] at hc
    subst hc
    exact .nil
  | e :: es, base, T, X, Wx, sc, fb, exs, h, hc => by
    simp only [cks] at hc
    split at hc
    · simp only [Bool.and_eq_true] at hc
      exact .cons (soundE e h hc.1) (soundEs es h hc.2)
    · cases hc
theorem soundO : ∀ (es : List E) {base : Lv} {T : Tab} {X : Cx} {Wx : WX} {sc : Scope} {fb : Str → Bool} {o : Option Expr}, Okx T X cl base Wx C k N sc fb → cko T N es sc fb o = true → PO X o (tO X.K cl base Wx (evo C es))
  | [], base, T, X, Wx, sc, fb, o, h, hc => by
    simp only [cko, Option.isNone_iff_eq_none] at hc
    subst hc
    exact po_no
  | e :: es, base, T, X, Wx, sc, fb, o, h, hc => by
    simp only [cko] at hc
    split at hc
    · simp only [Bool.and_eq_true, List.isEmpty_iff] at hc
      obtain ⟨rfl, h1⟩ := hc
      exact po_so (soundE e h h1).1
    · cases hc
end
end
end Itp
namespace Itp
open L2 PySem.Spec PyProof.Rows PySem
theorem any_no : ∀ {es : List Expr}, noStar es = true → (es.any fun x => match x with | .Starred _ _ => true | _ => false) = false
  | [], _ => rfl
  | e :: es, h => by
    rw [List.any_cons, any_no (noStar_tail h), Bool.or_false]
    cases e <;> first | rfl | (simp [noStar] at h)
theorem swap2 {x y : Str} {px py pt pt2 : Pos} {kt k2 : Nat} {a b : Expr} {env : PySem.Env} (hk : env.scope.kind = .function) (hx : List.lookup x env.scope.names = some .local) (hy : List.lookup y env.scope.names = some .local) (hl : py.line = px.line) (ne : x ≠ y)
    (ns : noStar [a, b] = true) (hf : [a, b].all (foldedForSure 8) = false) (hc : [a, b].all (constantsAlone 8) = false) :
    swappedStores [.Tuple [.Name x px, .Name y py] kt pt] (.Tuple [a, b] k2 pt2) env = pure (some [x, y]) := by
  have bk : env.blockKind = .function := by
    unfold Env.blockKind
    rw [hk]
    rfl
  have st : ([a, b].any fun x => match x with | .Starred _ _ => true | _ => false) = false := any_no ns
  have kx : env.kindOf x = some .local := hx
  have ky : env.kindOf y = some .local := hy
  have ne' : (y == x) = false := by simpa using fun e : y = x => ne e.symm
  have p1 : (Expr.Name x px).pos = px := rfl
  unfold swappedStores
  simp only [bk]
  rw [if_neg (by simp)]
  refine (if_neg (fun h => absurd (st.symm.trans h) (by simp))).trans ?_
  simp [List.filterMap, kx, ky, hl, p1, hf, hc, List.eraseDups, List.eraseDupsBy, List.eraseDupsBy.loop, ne']
theorem swap3 {x y z : Str} {px py pz pt pt2 : Pos} {kt k2 : Nat} {a b c : Expr} {env : PySem.Env} (hk : env.scope.kind = .function) (hx : List.lookup x env.scope.names = some .local) (hy : List.lookup y env.scope.names = some .local) (hz : List.lookup z env.scope.names = some .local) (hl : py.line = px.line) (hl2 : pz.line = px.line) (ne : x ≠ y) (n2 : x ≠ z) (n3 : y ≠ z)
    (ns : noStar [a, b, c] = true) (hf : [a, b, c].all (foldedForSure 8) = false) (hc : [a, b, c].all (constantsAlone 8) = false) :
    swappedStores [.Tuple [.Name x px, .Name y py, .Name z pz] kt pt] (.Tuple [a, b, c] k2 pt2) env = pure (some [x, y, z]) := by
  have bk : env.blockKind = .function := by
    unfold Env.blockKind
    rw [hk]
    rfl
  have st : ([a, b, c].any fun x => match x with | .Starred _ _ => true | _ => false) = false := any_no ns
  have kx : env.kindOf x = some .local := hx
  have ky : env.kindOf y = some .local := hy
  have kz : env.kindOf z = some .local := hz
  have ne' : (y == x) = false := by simpa using fun e : y = x => ne e.symm
  have n2' : (z == x) = false := by simpa using fun e : z = x => n2 e.symm
  have n3' : (z == y) = false := by simpa using fun e : z = y => n3 e.symm
  have p1 : (Expr.Name x px).pos = px := rfl
  unfold swappedStores
  simp only [bk]
  rw [if_neg (by simp)]
  refine (if_neg (fun h => absurd (st.symm.trans h) (by simp))).trans ?_
  simp [List.filterMap, kx, ky, kz, hl, hl2, p1, hf, hc, List.eraseDups, List.eraseDupsBy, List.eraseDupsBy.loop, ne', n2', n3']
def notComp : Expr → Bool
  | .ListComp _ _ _ _ | .SetComp _ _ _ _ | .DictComp _ _ _ _ _ => false
  | _ => true
theorem sw_no {e : Expr} {t : Option Expr} {l : Nat} {env : PySem.Env} (h : notComp e = true) : swapsWith e t l env = pure false := by
  cases e <;> first | rfl | (simp [notComp] at h)
def notTup : Expr → Bool
  | .Tuple _ _ _ => false
  | _ => true
theorem st_no {e : Expr} {es : List Expr} {k : Nat} {p : Pos} {env : PySem.Env} (h : notTup e = true) : swappedStores [.Tuple es k p] e env = pure none := by
  cases e <;> first | rfl | (simp [notTup] at h)
/-- a pair that is made and then taken apart: all of it folded, or a target that is no plain local -/
def swNo (sc : Scope) (ts : List Expr) : Expr → Bool
  | .Tuple vs _ _ => vs.all (foldedForSure 8) || ts.any fun t => match t with
    | .Name x _ => !decide (List.lookup x sc.names = some .local)
    | _ => true
  | _ => true
theorem fm_lt {α β : Type} {f : α → Option β} : ∀ {l : List α}, (l.any fun a => (f a).isNone) = true → (l.filterMap f).length < l.length
  | [], h => by simp at h
  | a :: l, h => by
    rw [List.any_cons, Bool.or_eq_true] at h
    cases e : f a with
    | none =>
      rw [List.filterMap_cons_none e]
      exact Nat.lt_succ_of_le (List.length_filterMap_le f l)
    | some b =>
      rw [List.filterMap_cons_some e]
      rw [e] at h
      have := fm_lt (h.resolve_left (by simp))
      simp only [List.length_cons]
      omega
theorem st_swNo {ts : List Expr} {e : Expr} {k : Nat} {p : Pos} {env : PySem.Env} {sc : Scope} (hs : env.scope = sc) (h : swNo sc ts e = true) : swappedStores [.Tuple ts k p] e env = pure none := by
  unfold swappedStores
  cases e <;> try rfl
  rename_i vs k2 p2
  simp only [swNo, Bool.or_eq_true] at h
  simp only
  split
  · rfl
  · split
    · rfl
    · split
      · rfl
      · rename_i h3
        rcases h with h | h
        · simp [h]
        · exfalso
          apply h3
          have := fm_lt (f := fun t : Expr => match t with
            | .Name id pos => if (env.kindOf id == some .local && pos.line == (Option.map (fun x : Expr => x.pos.line) ts.head?).getD 0) = true then some id else none
            | _ => none) (l := ts) (by
              rw [List.any_eq_true] at h ⊢
              obtain ⟨t, ht, hb⟩ := h
              refine ⟨t, ht, ?_⟩
              cases t <;> try rfl
              rename_i id pos
              simp only [Bool.not_eq_true', decide_eq_false_iff_not] at hb
              have : (env.kindOf id == some NameKind.local) = false := by
                rw [beq_eq_false_iff_ne]
                intro z
                apply hb
                rw [← hs]
                exact z
              simp [this])
          simp only [Bool.or_eq_true, bne_iff_ne, ne_eq]
          left
          exact Nat.ne_of_lt this
theorem sws_tup {e : Expr} {es : List Expr} {k : Nat} {p : Pos} {env : PySem.Env} {l : Nat} : swapsWithSole [.Tuple es k p] e l env = pure false := by
  cases e <;> rfl
theorem sub_asg {o i : Expr} {p2 : Pos} {env : PySem.Env} (h : notSlice i = true) : ∀ v, assign (.Subscript o i p2) env v = (do
        let ov ← holding [v] (eval o env)
        let iv ← holding [v, ov] (eval i env)
        standAt p2
        holding [v, ov, iv] (setItem ov iv v)
        release [v, ov, iv] []) := by
  intro v
  cases i <;> first | rfl | (simp [notSlice] at h)

theorem sws_sub {o i e : Expr} {p : Pos} {env : PySem.Env} {l : Nat} (h : notComp e = true) : swapsWithSole [.Subscript o i p] e l env = pure false := by
  cases e <;> first | rfl | (simp [notComp] at h)
/-- a comprehension that is stored within its own frame -/
def compSw (sc : Scope) (x : Str) (p : Pos) (e : Expr) : Bool :=
  match e with
  | .ListComp _ _ scope pos => decide (List.lookup x sc.names = some .local) && ((p.line == pos.line) && !(scope.names.any fun (n, k) => n == x && (k == .local || k == .cell)))
  | _ => false
/-- one that is stored where inner frames see it too: no exchange there -/
def cellSw (sc : Scope) (x : Str) : Bool := decide (List.lookup x sc.names = some .cell)
theorem sw_cell {e : Expr} {x : Str} {p : Pos} {l : Nat} {env : PySem.Env} (h : List.lookup x env.scope.names = some .cell) : swapsWith e (some (.Name x p)) l env = pure false := by
  have ky : env.kindOf x = some .cell := h
  cases e <;> first | rfl | (unfold swapsWith; simp only [ky, pure_bind]; cases env.blockKind <;> rfl)
def isLocal (sc : Scope) (N : List Str) (i : Nat) (x : Str) : Bool := decide (N[i]? = some x) && decide (List.lookup x sc.names = some .local)
mutual
def ckS (T : Tab) (N : List Str) (sc : Scope) : S → Stmt → Bool
  | .set i e, s => match s with
    | .Assign [.Name x p] e' _ => decide (N[i]? = some x) && (locOk sc (fun _ => true) x && (ck T N e sc (fun _ => true) e' && ((notComp e' || cellSw sc x) || compSw sc x p e')))
    | _ => false
  | .setT tg e, s => match s with
    | .Assign [.Tuple ts kk p] e' _ => tgOk N sc (fun _ => true) tg (.Tuple ts kk p) && (swNo sc ts e' && ck T N e sc (fun _ => true) e')
    | _ => false
  | .par is es, s => match s with
    | .Assign [.Tuple ts _ _] (.Tuple es' _ _) _ => match is, ts with
      | [i, j], [.Name x px, .Name y py] => decide (i ≠ j) && (isLocal sc N i x && (isLocal sc N j y && (decide (x ≠ y) && (decide (py.line = px.line) && (noStar es' && (decide (es'.length = 2) && (!es'.all (foldedForSure 8) && (!es'.all (constantsAlone 8) && cks T N es sc (fun _ => true) es'))))))))
      | [i, j, l], [.Name x px, .Name y py, .Name z pz] => decide (i ≠ j) && (decide (i ≠ l) && (decide (j ≠ l) && (isLocal sc N i x && (isLocal sc N j y && (isLocal sc N l z && (decide (x ≠ y) && (decide (x ≠ z) && (decide (y ≠ z) && (decide (py.line = px.line) && (decide (pz.line = px.line) && (noStar es' && (decide (es'.length = 3) && (!es'.all (foldedForSure 8) && (!es'.all (constantsAlone 8) && cks T N es sc (fun _ => true) es'))))))))))))))
      | _, _ => false
    | _ => false
  | .setIx o k v, s => match s with
    | .Assign [.Subscript o' k' _] v' _ => notSlice k' && (notComp v' && (ck T N o sc (fun _ => true) o' && (ck T N k sc (fun _ => true) k' && ck T N v sc (fun _ => true) v')))
    | _ => false
  | .aug i o e, s => match s with
    | .AugAssign (.Name x _) op e' _ => decide (op = o.op) && (decide (N[i]? = some x) && (locOk sc (fun _ => true) x && ck T N e sc (fun _ => true) e'))
    | _ => false
  | .ex e, s => match s with
    | .Expr e' _ => notComp e' && ck T N e sc (fun _ => true) e'
    | _ => false
  | .ret e, s => match s with
    | .Return (some e') _ => ck T N e sc (fun _ => true) e'
    | _ => false
  | .retN, s => match s with
    | .Return none _ => true
    | _ => false
  | .ifs c a b, s => match s with
    | .If c' a' b' _ => tok c && (ck T N c sc (fun _ => true) c' && (ckSs T N sc a a' && ckSs T N sc b b'))
    | _ => false
  | .whl c body, s => match s with
    | .While c' body' [] _ => tok c && (ck T N c sc (fun _ => true) c' && ckSs T N sc body body')
    | _ => false
  | .fors tg ik src body, s => match s with
    | .For tg' it' body' [] _ => tgOk N sc (fun _ => true) tg tg' && ((match ckIt T sc ik tg' it' with
      | some es' => cks T N src sc (fun _ => true) es'
      | none => false) && ckSs T N sc body body')
    | _ => false
  | .tryx body c i j, s => match s with
    | .Try body' [.ExceptHandler (some (.Name x _)) (some n) [.Assign [.Name y _] (.Name n2 _) _] _] [] [] _ => decide (n2 = n) && (decide (i ≠ j) && (isLocal sc N i n && (isLocal sc N j y && (nmOk n && (nmOk x && (glOk sc x && (decide (T.cls[c]? = some x) && ckSs T N sc body body')))))))
    | _ => false
  | .raise n m, s => match s with
    | .Raise (some (.Call (.Name x _) [.Constant (.str m') _ _] [] _)) none _ => decide (m' = m) && (glOk sc x && (nmOk x && (decide (T.cls[n]? = some x) && T.rcl.contains n)))
    | _ => false
  | .brk, s => match s with
    | .Break _ => true
    | _ => false
  | .cnt, s => match s with
    | .Continue _ => true
    | _ => false
  | .pass, s => match s with
    | .Pass _ => true
    | _ => false
  | .frz _, _ => false
def ckSs (T : Tab) (N : List Str) (sc : Scope) : List S → List Stmt → Bool
  | [], ss' => ss'.isEmpty
  | s :: ss, ss' => match s with
    | .frz _ => ckSs T N sc ss ss'
    | _ => match ss' with
      | s' :: ss' => ckS T N sc s s' && ckSs T N sc ss ss'
      | [] => false
end
structure Oks (T : Tab) (X : Cx) (cl : Nat → Addr) (base : Lv) (Wx : WX) (C : Cfg) (k : Nat) (N : List Str) (sc : Scope) : Prop where
  x : Okx T X cl base Wx C k N sc (fun _ => true)
  kd : sc.kind = .function
  po : PassesOwn (model X.prog X.w) X.A X.env X.xe
  tk : Takes X Wx
  st : X.stack = X.env :: X.outer
  fr : X.env.frame = some X.env.locals
  ex : X.ex = []
  wr : T.wr = true
  actT : T.act = true → ∀ (W : WX) (pn : List (Addr × Obj)) (xe : Value → Shared → Prop), Takes (X.tr pn xe) W → ∀ (x : Str) (p1 p2 : Pos), X.N[(0 : Nat)]? = some x → PE (X.tr pn xe) (.Call (.Name x p1) [] [] p2) (tD X.K cl base W (actF C.lamc C.act))
theorem Oks.tr {T : Tab} {X : Cx} {cl : Nat → Addr} {base : Lv} {Wx W : WX} {C : Cfg} {k : Nat} {N : List Str} {sc : Scope} (h : Oks T X cl base Wx C k N sc) {pn : List (Addr × Obj)} {xe : Value → Shared → Prop} (tk : Takes (X.tr pn xe) W) (po : PassesOwn (model X.prog X.w) X.A X.env xe) : Oks T (X.tr pn xe) cl base W C k N sc :=
  ⟨⟨h.x.N, h.x.sc, h.x.fn, h.x.calm, h.x.nd, h.x.room, h.x.gd, h.x.G, fun σ => passAt tk σ, h.x.bb, fun e => ⟨(h.x.top e).room, (h.x.top e).ex⟩, fun e => h.actT e W pn xe tk⟩, h.kd, po, tk, h.st, h.fr, h.ex, h.wr, h.actT⟩
end Itp
namespace Itp
open L2 PySem.Spec PyProof.Rows PySem
section
variable {T : Tab} {cl : Nat → Addr} {base : Lv} {C : Cfg} {k : Nat} {N : List Str} {sc : Scope}
theorem isL {X : Cx} {i : Nat} {x : Str} (hN : X.N = N) (hs : X.env.scope = sc) (h : isLocal sc N i x = true) : X.N[i]? = some x ∧ List.lookup x X.env.scope.names = some .local := by
  unfold isLocal at h
  simp only [Bool.and_eq_true, decide_eq_true_eq] at h
  rw [hN, hs]
  exact h
theorem locL {X : Cx} {x : Str} (hs : X.env.scope = sc) (hf : X.fn = fun _ => true) (h : locOk sc (fun _ => true) x = true) : L2.Loc X.env.scope x ∧ (X.fn x = true ∨ List.lookup x X.env.scope.names = some .local) := by
  unfold locOk at h
  simp only [Bool.or_eq_true, Bool.and_eq_true, decide_eq_true_eq] at h
  rw [hs, hf]
  exact ⟨h.imp id (·.1), .inl rfl⟩
theorem comp_set {X : Cx} {Wx : WX} {m : Bool} {own : List Nat} {tg : Tg} {ik : IK} {src cond : List E} {elt : E} {fb : Str → Bool} {i : Nat} {x : Str} {p pos : Pos} {ex : Expr} (h : Okx T X cl base Wx C k N sc fb) (kd : sc.kind = .function) (hx : X.N[i]? = some x)
    (hc : ck T N (.comp m own tg ik src cond elt) sc fb ex = true) (hw : compSw sc x p ex = true) :
    PS X (.Assign [.Name x p] ex pos) (tS X.K cl base Wx fun env st => (ev C (.comp m own tg ik src cond elt) env st).thenS env fun d st => .of st (put env i d)) := by
  simp only [ck] at hc
  split at hc
  · rename_i elt' tg' it' ifs' scope cpos
    simp only [Bool.and_eq_true, decide_eq_true_eq, List.all_eq_true] at hc
    obtain ⟨h1, h2, ⟨h3, h4⟩, h5, h6, h7, h8⟩ := hc
    unfold compSw at hw
    simp only [Bool.and_eq_true, decide_eq_true_eq] at hw
    obtain ⟨w1, w2, w3⟩ := hw
    split at h4
    · rename_i es' hit
      have s := (soundEs src h h4).pes
      obtain ⟨pi, hf⟩ := it_ok h hit s
      have own_eq : (ownS N own).map (·.2) = own := by
        unfold ownS
        rw [List.map_map]
        exact List.map_id' own
      have hb : BlkOk X.N X.env.scope scope (ownS N own) := by
        rw [h.N, h.sc]
        exact blkOk_by h1
      have hs : ∀ i ∈ tg.slots, i ∈ (ownS N own).map (·.2) := by
        rw [own_eq]
        intro i hi
        exact List.contains_iff_mem.mp (h2 i hi)
      have ht : tgOk X.N (L2.relS scope X.env.scope) (fun x => List.lookup x scope.names == some .cell) tg tg' = true := by
        rw [h.N, h.sc]
        exact h3
      have hcc : ∀ (s : Shared) (H : Hp) (A : Addr) (cs : List (Str × Addr)) (fp : List Addr), PTs (X.blk s H scope (compEnvC scope cs A X.env) fp) ifs' (tB X.K cl base WF (evc C cond)) := fun s H A cs fp => by
        have q := soundEs cond (h.blk s H scope A cs fp) h7
        match cond, ifs', q, h5, h6 with
        | [], [], .nil, _, _ => exact pts_nilD
        | [e1], [x1], .cons q1 .nil, _, t =>
          simp only [toks, Bool.and_eq_true] at t
          exact pts_oneD (q1.2 t.1)
        | _ :: _ :: _, _ :: _ :: _, .cons _ (.cons _ _), h5, _ => exact absurd h5 (by simp)
      have sw : swapsWith (.ListComp elt' [⟨tg', it', ifs', 0⟩] scope cpos) (some (.Name x p)) pos.line X.env = pure true :=
        sw_true (by rw [h.sc]; exact kd) (by rw [h.sc]; exact w1) w2 (bnot w3)
      have r := ps_setCompD (m := m) h.calm h.nd hx (by rw [h.sc]; exact w1) sw pi hb hs ht hcc (fun s H A cs fp => (soundE elt (h.blk s H scope A cs fp) h8).1) hf
      rw [own_eq, ← evs_map] at r
      exact r
    · cases h4
  · cases hc
theorem comp_only {e : E} {fb : Str → Bool} {ex : Expr} {x : Str} {p : Pos} (hc : ck T N e sc fb ex = true) (hw : compSw sc x p ex = true) : ∃ m own tg ik src cond elt, e = .comp m own tg ik src cond elt := by
  unfold compSw at hw
  split at hw
  · cases e <;> simp only [ck] at hc <;> first | exact ⟨_, _, _, _, _, _, _, rfl⟩ | (cases hc; done) | skip
    rename_i d
    unfold ckLit at hc
    split at hc <;> cases hc
  · cases hw
theorem frz_eq (C : Cfg) (i : Nat) (ss : List S) : evSs C (.frz i :: ss) = frzF C.base i (evSs C ss) := by
  funext env st
  rw [evSs, evS]
  unfold frzF
  cases env[i]? with
  | none => rfl
  | some o =>
    cases o with
    | none => rfl
    | some d =>
      cases d <;> try rfl
      rename_i c
      simp only
      by_cases hb : decide (C.base ≤ c) = true
      · rw [if_pos hb, if_pos hb]
        cases st[c]? with
        | none => rfl
        | some o => cases o <;> rfl
      · rw [if_neg hb, if_neg hb]
mutual
theorem soundS : ∀ (s : S) {X : Cx} {Wx : WX} {ex : Stmt}, Oks T X cl base Wx C k N sc → ckS T N sc s ex = true → PS X ex (tS X.K cl base Wx (evS C s))
  | .set i e, X, Wx, ex, h, hc => by
    simp only [ckS] at hc
    split at hc
    · simp only [Bool.and_eq_true, Bool.or_eq_true, decide_eq_true_eq] at hc
      obtain ⟨h1, h2, h3, h4⟩ := hc
      obtain ⟨l1, l2⟩ := locL h.x.sc h.x.fn h2
      rcases h4 with (h4 | h4) | h4
      · exact ps_setD (i := i) h.x.nd (by rw [h.x.N]; exact h1) l1 (soundE e h.x h3).1 (sw_no h4) l2
      · exact ps_setD (i := i) h.x.nd (by rw [h.x.N]; exact h1) l1 (soundE e h.x h3).1 (sw_cell (by rw [h.x.sc]; exact of_decide_eq_true h4)) l2
      · obtain ⟨m, own, tg, ik, src, cond, elt, rfl⟩ := comp_only h3 h4
        exact comp_set h.x h.kd (by rw [h.x.N]; exact h1) h3 h4
    · cases hc
  | .setT tg e, X, Wx, ex, h, hc => by
    simp only [ckS] at hc
    split at hc
    · simp only [Bool.and_eq_true] at hc
      obtain ⟨h1, h2, h4⟩ := hc
      exact ps_asgD (soundE e h.x h4).1 (pg_bnd h.x.calm h.x.nd (by rw [h.x.N, h.x.sc, h.x.fn]; exact h1)) sws_tup (st_swNo h.x.sc h2) rfl
    · cases hc
  | .par is es, X, Wx, ex, h, hc => by
    simp only [ckS] at hc
    split at hc
    · split at hc
      · simp only [Bool.and_eq_true, decide_eq_true_eq] at hc
        rename_i ts kt pt es' k2 pt2 pos is ts2 i j x px y py
        obtain ⟨h1, h2, h3, h4, h5, h6, h7, h8, h9, h10⟩ := hc
        obtain ⟨a1, a2⟩ := isL h.x.N h.x.sc h2
        obtain ⟨b1, b2⟩ := isL h.x.N h.x.sc h3
        match es', h7, h6, h8, h9, h10 with
        | [e1, e2], _, h6, h8, h9, h10 =>
          have r := ps_parD (pos := pos) (k2 := k2) (pt2 := pt2) (px := px) (py := py) (pt := pt) (kt := kt) h.x.calm h.x.nd a1 b1 h1 a2 b2 (soundEs es h.x h10).pes h6 (swap2 (by rw [h.x.sc]; exact h.kd) a2 b2 h5 h4 h6 (bnot h8) (bnot h9))
          rw [← evs_map] at r
          exact r
      · simp only [Bool.and_eq_true, decide_eq_true_eq] at hc
        rename_i ts kt pt es' k2 pt2 pos is ts2 i j l x px y py z pz
        obtain ⟨n1, n2, n3, h2, h3, h3', h4, h4', h4'', h5, h5', h6, h7, h8, h9, h10⟩ := hc
        obtain ⟨a1, a2⟩ := isL h.x.N h.x.sc h2
        obtain ⟨b1, b2⟩ := isL h.x.N h.x.sc h3
        obtain ⟨c1, c2⟩ := isL h.x.N h.x.sc h3'
        match es', h7, h6, h8, h9, h10 with
        | [e1, e2, e3], _, h6, h8, h9, h10 =>
          have r := ps_parD3 (pos := pos) (k2 := k2) (pt2 := pt2) (px := px) (py := py) (pz := pz) (pt := pt) (kt := kt) h.x.calm h.x.nd a1 b1 c1 n1 n2 n3 a2 b2 c2 (soundEs es h.x h10).pes h6 (swap3 (by rw [h.x.sc]; exact h.kd) a2 b2 c2 h5 h5' h4 h4' h4'' h6 (bnot h8) (bnot h9))
          rw [← evs_map] at r
          exact r
      · cases hc
    · cases hc
  | .setIx o kk v, X, Wx, ex, h, hc => by
    simp only [ckS] at hc
    split at hc
    · simp only [Bool.and_eq_true] at hc
      rename_i o' k' p2 v' pos
      obtain ⟨h1, h2, h3, h4, h5⟩ := hc
      have hu : X.A.units + 1 < cLine := by
        have := h.x.un
        omega
      have r := ps_setIxD (pos := pos) (p2 := p2) hu (soundE v h.x h5).1 (soundE o h.x h3).1 (soundE kk h.x h4).1 (sub_asg h1) (sws_sub h2) rfl rfl
      rw [← h.x.bb h.wr] at r
      exact r
    · cases hc
  | .aug i o e, X, Wx, ex, h, hc => by
    simp only [ckS] at hc
    split at hc
    · simp only [Bool.and_eq_true, decide_eq_true_eq] at hc
      obtain ⟨rfl, h1, h2, h3⟩ := hc
      obtain ⟨l1, l2⟩ := locL h.x.sc h.x.fn h2
      exact ps_augD (i := i) h.x.nd (by rw [h.x.N]; exact h1) l1 (soundE e h.x h3).1 l2
    · cases hc
  | .ex e, X, Wx, ex, h, hc => by
    simp only [ckS] at hc
    split at hc
    · simp only [Bool.and_eq_true] at hc
      exact ps_exD (soundE e h.x hc.2).1 (sw_no hc.1)
    · cases hc
  | .ret e, X, Wx, ex, h, hc => by
    simp only [ckS] at hc
    split at hc
    · exact ps_retD (soundE e h.x hc).1
    · cases hc
  | .retN, X, Wx, ex, h, hc => by
    simp only [ckS] at hc
    split at hc
    · exact ps_retND
    · cases hc
  | .ifs c a b, X, Wx, ex, h, hc => by
    simp only [ckS] at hc
    split at hc
    · simp only [Bool.and_eq_true] at hc
      obtain ⟨h1, h2, h3, h4⟩ := hc
      exact ps_ifD ((soundE c h.x h2).2 h1) (soundSs a h h3) (soundSs b h h4)
    · cases hc
  | .whl c body, X, Wx, ex, h, hc => by
    simp only [ckS] at hc
    split at hc
    · simp only [Bool.and_eq_true] at hc
      obtain ⟨h1, h2, h3⟩ := hc
      exact ps_whlD (fuel := C.fuel) h.po ((soundE c h.x h2).2 h1) (soundSs body h h3)
    · cases hc
  | .fors tg ik src body, X, Wx, ex, h, hc => by
    simp only [ckS] at hc
    split at hc
    · simp only [Bool.and_eq_true] at hc
      obtain ⟨h1, h2, h3⟩ := hc
      split at h2
      · rename_i es' hit
        obtain ⟨pi, hf⟩ := it_ok h.x hit (soundEs src h.x h2).pes
        have r := ps_forDD (pos := by assumption) h.po h.x.calm h.x.nd pi (by rw [h.x.N, h.x.sc, h.x.fn]; exact h1) (soundSs body h h3) hf
        rw [← evs_map] at r
        exact r
      · cases h2
    · cases hc
  | .tryx body c i j, X, Wx, ex, h, hc => by
    simp only [ckS] at hc
    split at hc
    · simp only [Bool.and_eq_true, decide_eq_true_eq] at hc
      obtain ⟨rfl, h1, h2, h3, h4, h5, h6, h7, h8⟩ := hc
      obtain ⟨a1, a2⟩ := isL h.x.N h.x.sc h2
      obtain ⟨b1, b2⟩ := isL h.x.N h.x.sc h3
      exact ps_tryD h.x.G.kf h.st h.fr h.ex h.x.nd a1 a2 b1 b2 h1 ⟨h.x.gl h6, nm2 h5, .inl (h.x.G.cls _ _ h7)⟩ h.tk (nm2 h4) (nm3 h4) fun W pn xe tk po => soundSs body (h.tr tk po) h8
    · cases hc
  | .raise n m, X, Wx, ex, h, hc => by
    simp only [ckS] at hc
    split at hc
    · simp only [Bool.and_eq_true, decide_eq_true_eq, List.contains_iff_mem] at hc
      obtain ⟨_, h2, h3, h4, h5⟩ := hc
      obtain ⟨k1, ⟨bmB, B, newId, initId, e1, e2⟩, k3⟩ := h.x.G.rcl _ h5
      exact ps_raiseD h.x.calm h.tk e1 e2 (h.x.G.cls _ _ h4) k1 (k3 X rfl) (h.x.gl h2) (nm2 h3)
    · cases hc
  | .brk, X, Wx, ex, h, hc => by
    simp only [ckS] at hc
    split at hc
    · exact ps_brkD
    · cases hc
  | .cnt, X, Wx, ex, h, hc => by
    simp only [ckS] at hc
    split at hc
    · exact ps_cntD
    · cases hc
  | .pass, X, Wx, ex, h, hc => by
    simp only [ckS] at hc
    split at hc
    · exact ps_passD
    · cases hc
  | .frz i, X, Wx, ex, h, hc => by
    simp only [ckS] at hc
    cases hc
theorem soundSs : ∀ (ss : List S) {X : Cx} {Wx : WX} {exs : List Stmt}, Oks T X cl base Wx C k N sc → ckSs T N sc ss exs = true → PSs X exs (tS X.K cl base Wx (evSs C ss))
  | [], X, Wx, exs, h, hc => by
    simp only [ckSs, List.isEmpty_iff] at hc
    subst hc
    exact pss_nilD
  | s :: ss, X, Wx, exs, h, hc => by
    cases s
    case frz i =>
      simp only [ckSs] at hc
      rw [frz_eq, h.x.bb h.wr]
      exact pss_frzD (soundSs ss h hc)
    all_goals
      simp only [ckSs] at hc
      split at hc
      · simp only [Bool.and_eq_true] at hc
        exact pss_consD (soundS _ h hc.1) (soundSs ss h hc.2)
      · cases hc
end
end
end Itp
namespace Itp
open L2 PySem.Spec PyProof.Rows PySem
/-! ### the law's own call -/
def tabsH (ts : List Addr) : Hp := fun b => if b ∈ ts then some (.tbl #[]) else none
/-- what the caller's builtins module is -/
def BMod (mg : Str → Option Value) (h : Heap) : Prop := ∃ (bm : Addr) (ob : Obj), mg (Str.ofString "__builtins__") = some (.ref bm) ∧ bm ≠ builtinsNs ∧ h.get? bm = some ob ∧ ob.cls = .type "module" ∧ ob.dict = some builtinsNs ∧ ob.data = .plain
section
variable {P : PySem.Program} {w : World} {K : PySem.W.Frag} {mg mb : Str → Option Value} {CX : CXT} {k : Nat} {fa a : Addr} {fd : FuncData} {x : Str} {sp : Sp} {s₁ : Shared} {vs : List Value} {ns : List Int} {cs : List (Addr × Addr)}
/-- from a heap in which nothing but the script and the tables may be tracked -/
theorem law_core {H : Hp} (KX : K.In s₁.heap) (hns : s₁.heap.Ns mainGlobals mg) (hb : s₁.heap.Ns builtinsNs mb) (hbb : ∀ x : Str, x ≠ Str.ofString "__name__" → mb x = bootBuiltins x) (hlim : s₁.heap.NoLimit) (hg : s₁.gens = #[])
    (hT : ∀ p ∈ cs, s₁.heap.get? p.2 = some (PySem.W.tabObj #[])) (nT : ∀ p ∈ cs, K.lookup p.2 = none) (C : ∀ p ∈ cs, PySem.W.CodeHd s₁.heap p.1 p.2) (hbm : BMod mg s₁.heap) (ha : s₁.heap.get? a = some { cls := .type "list", data := .seq vs.toArray }) (hr : Room k PySem.callerA)
    (F : ∀ base : Heap, K.In base → base.Ns mainGlobals mg → (∀ p ∈ cs, LamX.TabB base mg p.1 p.2) → FnG P w K mg base CX k fa fd [x] sp) (hbind : ∀ (s : Shared) (u : Value), BindsTo s fd { pos := [u] } [(x, u)]) (hsp : sp [.ref a] H (fun v _ => v = .bl true) fun _ _ _ => False) (hCX : ∀ (e : Value) (s' : Shared), CX [] H s₁ (fun _ _ _ => False) e s' → False)
    (hH : ∀ p ∈ cs, H p.2 = some (.tbl #[])) (hO : ∀ b u, H b = some u → (b ∈ cs.map (·.2) ∧ u = .tbl #[]) ∨ (b = a ∧ ∃ o xs, u = .frz o (.lst xs))) (hok : HOk P w H s₁.heap) (hK : H a ≠ none → List.lookup a K = none) :
    codeAny (model P w) PySem.callerA (.call (.ref fa) { pos := [.ref a] }) (fun r s' => r = .ok (.ret (.bool true)) ∧ OldK s₁.heap s'.heap ∧ s'.os = s₁.os ∧ AllBare s'.gens) s₁ := by
  have tabAt : ∀ b, b ∈ cs.map (·.2) → s₁.heap.get? b = some (PySem.W.tabObj #[]) := fun b hb => by
    obtain ⟨p, hp, rfl⟩ := List.mem_map.mp hb
    exact hT p hp
  -- what is neither a list nor an empty record isn't tracked
  have noA : ∀ {b : Addr} {o : Obj}, s₁.heap.get? b = some o → (∀ its n, o.data ≠ .seq its n) → o.data ≠ .fields #[] → H b = none := fun {b o} e d d2 => by
    cases q : H b with
    | none => rfl
    | some u =>
      rcases hO b u q with ⟨z, _⟩ | ⟨rfl, _⟩
      · rw [tabAt b z] at e
        cases e
        exact absurd rfl d2
      · rw [ha] at e
        cases e
        exact absurd rfl (d _ _)
  have nsK : ∀ {b : Addr} {m : Str → Option Value}, s₁.heap.Ns b m → (hidT s₁.heap H).Ns b m := fun {b m} y => by
    obtain ⟨o, es, ep, e, d, r⟩ := y
    refine ⟨o, es, ep, hidT_get e (noA e (fun its n q => ?_) fun q => ?_), d, r⟩ <;> (rw [d] at q; cases q)
  have hKb : K.In (hidT s₁.heap H) := fun b o e => hidT_get (KX b o e) (by
    cases q : H b with
    | none => rfl
    | some u =>
      rcases hO b u q with ⟨z, _⟩ | ⟨rfl, _⟩
      · obtain ⟨p, hp, rfl⟩ := List.mem_map.mp z
        rw [nT p hp] at e
        cases e
      · rw [hK (by rw [q]; simp)] at e
        cases e)
  have hM : L2.Mod K mg (hidT s₁.heap H) :=
    { kin := hKb, glob := nsK hns, blt := ⟨mb, nsK hb, hbb⟩, nolimit := by
        obtain ⟨mc, h1, h2⟩ := hlim
        exact ⟨mc, nsK h1, h2⟩ }
  have TB : ∀ p ∈ cs, LamX.TabB (hidT s₁.heap H) mg p.1 p.2 := fun p hp => by
    have hTp := hT p hp
    constructor
    · obtain ⟨o, us, file, tf, flags, tg, inF, text, tt, e1, r1, r2, r3, r4, r5, r6, r7, r8, hne⟩ := C p hp
      refine ⟨o, us, file, tf, flags, tg, inF, text, tt, hidT_get e1 (noA e1 (fun its n z => ?_) fun z => ?_), r1, r2, r3, r4, r5, r6, r7, r8, hne⟩
      · rw [r2] at z
        cases z
      · rw [r2] at z
        injection z with z
        subst z
        simp at r3
    · obtain ⟨bm, ob, b1, b2, b3, b4, b5, b6⟩ := hbm
      refine ⟨bm, ob, b1, b2, fun q => ?_, fun q => ?_, hidT_get b3 (noA b3 (fun its n z => ?_) fun z => ?_), b4, b5, b6⟩
      · obtain ⟨o, es, ep, e, hd, _⟩ := hns
        rw [q, e] at b3
        cases b3
        rw [hd] at b6
        cases b6
      · rw [q, hTp] at b3
        cases b3
        cases b6
      · rw [b6] at z
        cases z
      · rw [b6] at z
        cases z
    · intro z
      obtain ⟨o, es, ep, e, hd, _⟩ := hns
      rw [z, hTp] at e
      cases e
      cases hd
  have e0 : Env0 P w K mg (hidT s₁.heap H) PySem.callerA [] s₁ H :=
    { frames := rfl, mod := hM, bs := fun b o e => of_hidT e, bsz := Nat.le_of_eq (hidT_size s₁.heap H), funs := trivial, frf := fun b hb => (List.not_mem_nil hb).elim, hok := hok, bare := AllBare.of_eq hg }
  refine codeAny_mono ((F (hidT s₁.heap H) hKb (nsK hns) TB).run PySem.callerA [] s₁ H { pos := [.ref a] } [.ref a] [.ref a] (fun v _ => v = .bl true) (fun _ _ _ => False) hr rfl e0 (hbind s₁ (.ref a)) (Paired.cons rfl Paired.nil) hsp) ?_
  rintro (e | fl) s' h
  · exact (hCX e s' h).elim
  · cases fl with
    | ret u =>
      obtain ⟨v, H', os, bare, un, hok', r', q⟩ := h
      cases (show v = .bl true from q)
      cases (show u = Value.bool true from r')
      have key : ∀ b o, b ∉ cs.map (·.2) → s₁.heap.get? b = some o → s'.heap.get? b = some o := fun b o nb e => by
        cases q : H b with
        | none => exact un.keep b o e q (fun z => by cases z) (fun z => by cases z)
        | some u =>
          rcases hO b u q with ⟨z, _⟩ | ⟨_, ob, xs, rfl⟩
          · exact absurd z nb
          · have z2 := un.frzs b ob (.lst xs) q
            have e1 := hok b _ q
            have e2 := hok' b _ z2
            rw [ObjOk.eq_10] at e1 e2
            rw [e] at e1
            cases e1.1
            exact e2.1
      have grown : ∀ p ∈ cs, ∃ more : Array Value, s'.heap.get? p.2 = some (PySem.W.tabObj more) := fun p hp => by
        obtain ⟨more, z⟩ := un.tbls p.2 #[] (hH p hp)
        exact ⟨_, hok' p.2 _ z⟩
      refine ⟨rfl, ⟨fun b o e => ?_, fun b o e => ?_⟩, os, bare⟩
      · by_cases hb : b ∈ cs.map (·.2)
        · obtain ⟨p, hp, rfl⟩ := List.mem_map.mp hb
          obtain ⟨more, hm⟩ := grown p hp
          rw [hT p hp] at e
          cases e
          exact .inr (.inl ⟨((C p hp).tab (hT p hp)).isCodeTable, rfl, #[], more, rfl, by rw [Array.empty_append]; exact hm⟩)
        · exact .inl (key b o hb e)
      · by_cases hb : b ∈ cs.map (·.2)
        · obtain ⟨p, hp, rfl⟩ := List.mem_map.mp hb
          obtain ⟨more, hm⟩ := grown p hp
          exact ⟨_, hm⟩
        · exact ⟨o, key b o hb e⟩
    | _ => exact (h : False).elim
theorem law_callG (KX : K.In s₁.heap) (hns : s₁.heap.Ns mainGlobals mg) (hb : s₁.heap.Ns builtinsNs mb) (hbb : ∀ x : Str, x ≠ Str.ofString "__name__" → mb x = bootBuiltins x) (hlim : s₁.heap.NoLimit) (hg : s₁.gens = #[])
    (hT : ∀ p ∈ cs, s₁.heap.get? p.2 = some (PySem.W.tabObj #[])) (nT : ∀ p ∈ cs, K.lookup p.2 = none) (C : ∀ p ∈ cs, PySem.W.CodeHd s₁.heap p.1 p.2) (hbm : BMod mg s₁.heap) (ha : s₁.heap.get? a = some { cls := .type "list", data := .seq vs.toArray }) (hi : IntsAre vs ns) (hl : ns.length ≤ sizeLine) (hr : Room k PySem.callerA)
    (F : ∀ base : Heap, K.In base → base.Ns mainGlobals mg → (∀ p ∈ cs, LamX.TabB base mg p.1 p.2) → FnG P w K mg base CX k fa fd [x] sp) (hbind : ∀ (s : Shared) (u : Value), BindsTo s fd { pos := [u] } [(x, u)]) (hsp : ∀ H : Hp, (∀ p ∈ cs, H p.2 = some (.tbl #[])) → SqL K H a (ns.map V.int) → sp [.ref a] H (fun v _ => v = .bl true) fun _ _ _ => False)
    (hCX : ∀ (H : Hp) (e : Value) (s' : Shared), CX [] H s₁ (fun _ _ _ => False) e s' → False) :
    codeAny (model P w) PySem.callerA (.call (.ref fa) { pos := [.ref a] }) (fun r s' => r = .ok (.ret (.bool true)) ∧ OldK s₁.heap s'.heap ∧ s'.os = s₁.os ∧ AllBare s'.gens) s₁ := by
  have rv := vals_ints hi
  have lenV := IntsAre.length hi
  have tabAt : ∀ b, b ∈ cs.map (·.2) → s₁.heap.get? b = some (PySem.W.tabObj #[]) := fun b hb => by
    obtain ⟨p, hp, rfl⟩ := List.mem_map.mp hb
    exact hT p hp
  have aT : a ∉ cs.map (·.2) := fun z => by
    have q := tabAt a z
    rw [ha] at q
    cases q
  have mt : ∀ p ∈ cs, p.2 ∈ cs.map (·.2) := fun p hp => List.mem_map.mpr ⟨p, hp, rfl⟩
  cases hk : List.lookup a K with
  | none =>
    have hH : ∀ p ∈ cs, upd (tabsH (cs.map (·.2))) a (.frz { cls := .type "list", data := .seq vs.toArray } (.lst (ns.map V.int))) p.2 = some (.tbl #[]) := fun p hp => by
      rw [upd_ne fun z => aT (by rw [← z]; exact mt p hp)]
      exact if_pos (mt p hp)
    refine law_core KX hns hb hbb hlim hg hT nT C hbm ha hr F hbind (hsp _ hH (.inl (.inr ⟨_, upd_same⟩))) (hCX _) hH (fun b u z => ?_) (fun b u z => ?_) fun _ => hk
    · by_cases h1 : b = a
      · subst h1
        rw [upd_same] at z
        cases z
        exact .inr ⟨rfl, _, _, rfl⟩
      · rw [upd_ne h1] at z
        unfold tabsH at z
        split at z
        · rename_i hm
          cases z
          exact .inl ⟨hm, rfl⟩
        · cases z
    · by_cases h1 : b = a
      · subst h1
        rw [upd_same] at z
        cases z
        rw [ObjOk.eq_10, ObjOk.eq_1]
        exact ⟨ha, by rw [List.length_map]; exact hl, vs, 0, rv, ha⟩
      · rw [upd_ne h1] at z
        unfold tabsH at z
        split at z
        · rename_i hm
          cases z
          exact tabAt b hm
        · cases z
  | some o =>
    have e := KX a o hk
    rw [ha] at e
    cases e
    have hH : ∀ p ∈ cs, tabsH (cs.map (·.2)) p.2 = some (.tbl #[]) := fun p hp => if_pos (mt p hp)
    refine law_core KX hns hb hbb hlim hg hT nT C hbm ha hr F hbind (hsp _ hH (.inr ⟨_, vs.toArray, 0, hk, rfl, rfl, rfl, by rw [List.size_toArray, lenV]; exact hl, by simpa using rv⟩)) (hCX _) hH (fun b u z => ?_) (fun b u z => ?_) fun z => absurd (if_neg aT) z
    · unfold tabsH at z
      split at z
      · rename_i hm
        cases z
        exact .inl ⟨hm, rfl⟩
      · cases z
    · unfold tabsH at z
      split at z
      · rename_i hm
        cases z
        exact tabAt b hm
      · cases z
end
theorem walk_ofG {l : PySem.W.OpenLaw} {n k : Nat} {q : PySem.Program} {loose : List Str} {XP : (Str → Option Value) → Heap → Prop} {YP : World → Heap → Prop} {d : DefRec} {K : Params → PySem.W.Frag} {CX : World → CXT} {x : Str} (hn : l.most = some n) (hn2 : n ≤ sizeLine) (hdf : d.params.defaults = []) (hr : Room k PySem.callerA)
    (hY : ∀ (w : World) (h : Heap), YP w h → (K w.params).In h)
    (F : ∀ (w : World) (mg : Str → Option Value) (fa : Addr) (h : Heap), YP w h → (K w.params).In h → h.Ns mainGlobals mg → mg d.name = some (.ref fa) → (∀ (y : Str) (e : DefRec) (c Pa : Addr), (recsOf q).find? (fun e => e.name == y) = some e → PySem.W.tabIn (K w.params) y = some (c, Pa) → PySem.W.CodeHd h c Pa ∧ h.get? Pa = some (PySem.W.tabObj #[])) → ∃ (fd : FuncData) (cs : List (Addr × Addr)) (sp : Sp),
      (∀ p ∈ cs, h.get? p.2 = some (PySem.W.tabObj #[])) ∧ (∀ p ∈ cs, (K w.params).lookup p.2 = none) ∧ (∀ p ∈ cs, PySem.W.CodeHd h p.1 p.2) ∧ (∀ (s : Shared) (u : Value), BindsTo s fd { pos := [u] } [(x, u)]) ∧
      (∀ (H : Hp) (a : Addr) (ns : List Int), ns.length ≤ n → (∀ z ∈ ns, Builtin.Int.intBits z ≤ 1048576) → (∀ p ∈ cs, H p.2 = some (.tbl #[])) → SqL (K w.params) H a (ns.map V.int) → sp [.ref a] H (fun v _ => v = .bl true) fun _ _ _ => False) ∧
      ∀ base : Heap, (K w.params).In base → base.Ns mainGlobals mg → (∀ p ∈ cs, LamX.TabB base mg p.1 p.2) → FnG l.prog w (K w.params) mg base (CX w) k fa fd [x] sp)
    (hCX : ∀ (w : World) (H : Hp) (s : Shared) (e : Value) (s' : Shared), CX w [] H s (fun _ _ _ => False) e s' → False) :
    PySem.W.WalkO q loose XP YP l.row.toRowW d [] fun f vs => call f vs := by
  refine Att.attach_callB hn hdf fun w s₀ s₁ mg mb fa o pm cd doc a vs ns G Y ho hd hcd hmg hobj hints hlen hbits hg => ?_
  have KX := hY w s₁.heap Y
  obtain ⟨fd, cs, sp, hT, nT, C, hb, hsp, hF⟩ := F w mg fa s₁.heap Y KX G.T.g hmg fun y e c Pa h1 h2 => PySem.W.tab_of G.T KX h1 h2
  exact law_callG KX G.T.g G.T.b G.T.builtins G.T.nolimit hg hT nT C G.T.bmain hobj hints (Nat.le_trans hlen hn2) hr hF hb (fun H hH hS => hsp H a ns hlen hbits hH hS) fun H e s' => hCX w H s₁ e s'
end Itp
namespace Itp
open L2 PySem.Spec PyProof.Rows PySem
/-! ### a whole text -/
structure Row where
  x : Str
  st : Stmt
  N : List Str
  ps : List Str
  /-- what stands in it: 1 generator expressions, 2 lambdas; whether it gets a lambda -/
  top : Nat := 0
  lam : Bool := false
def Tab.row (T : Tab) (r : Row) : Tab := { T with top := if r.lam then 0 else r.top, act := r.lam }
/-- a def's scope, names and parameters, as FnScope asks -/
def scC (N ps : List Str) (sc : Scope) : Bool :=
  (match sc.kind with | .function => true | _ => false) && (!sc.isCoroutine && (!sc.isGenerator && (decide N.Nodup && (decide (List.take ps.length N = ps) &&
    (ps.all (fun x => decide (List.lookup x sc.names = some .local) || decide (List.lookup x sc.names = some .cell)) && sc.names.all fun y => match y.2 with | .free => false | _ => true)))))
theorem scC_ok {N ps : List Str} {sc : Scope} (h : scC N ps sc = true) : FnScope N ps sc := by
  unfold scC at h
  simp only [Bool.and_eq_true, decide_eq_true_eq, List.all_eq_true, Bool.or_eq_true] at h
  obtain ⟨h1, h2, h3, h4, h5, h6, h7⟩ := h
  refine ⟨?_, bnot h2, bnot h3, h4, h5, h6, fun y hy e => ?_⟩
  · split at h1
    · assumption
    · cases h1
  · have := h7 y hy
    rw [e] at this
    cases this
/-- a def that gets a lambda: its one parameter may be read -/
def lamC (r : Row) : Bool := match r.ps with
  | [a] => decide (r.N[(0 : Nat)]? = some a) && (visOk (defScope r.st) a && (decide ((a == Str.ofString "__debug__") = false) && decide ((a == Str.ofString "__classdict__") = false)))
  | _ => false
def ckFn (T : Tab) (fn : Fn) (r : Row) : Bool := scC r.N r.ps (defScope r.st) && (decide (fn.np = r.ps.length) && (decide (fn.n = r.N.length) && (ckSs (T.row r) r.N (defScope r.st) fn.body (defBody r.st) && (!r.lam || lamC r))))
/-- what stands behind the names but the defs -/
structure GB (T : Tab) (w : World) (K : PySem.W.Frag) (mg : Str → Option Value) (cl : Nat → Addr) (P : Prog) : Prop where
  gl : ∀ (n : Nat) x, T.gls[n]? = some x → ∃ d v u, P.glob n = some d ∧ mg x = some u ∧ L2.RelV v u ∧ ∀ F r m, Rp K cl F r m v d
  cls : ∀ (n : Nat) x, T.cls[n]? = some x → mg x = some (.ref (cl n))
  rcl : ∀ n, n ∈ T.rcl → PySem.W.keepIn K (.ref (cl n)) = true ∧ (∃ bmB B newId initId, ExcBaseFacts B newId initId bmB ∧ PySem.W.excIn K (cl n) bmB newId = true) ∧ ∀ X : Cx, X.K = K → Raises X (.ref (cl n))
  kf : KF K cl P.sub
  blt : ∀ x, x ∈ T.blt → mg x = none
  gcd : T.gcd = true → mg (Str.ofString "gcd") = some (.builtin "math.gcd")
  kd : ∀ n x, T.kds[n]? = some x → ∃ a, mg x = some (.ref a) ∧ KdF K w.params a (P.kd n)
  isq : T.isq = true → mg (Str.ofString "isqrt") = some (.builtin "math.isqrt")
  kt : ∀ n x, T.kts[n]? = some x → ∃ a, mg x = some (.ref a) ∧ KtF K w a (P.kd (T.kds.length + n))
/-- the defs of the text, as they stand in the heap -/
structure Def (K : PySem.W.Frag) (mg : Str → Option Value) (r : Row) (f : Addr) (fd : FuncData) : Prop where
  fn : Fun K r.x r.x r.st f fd
  mg : mg r.x = some (.ref f)
  bs : L2.Binds K fd r.ps []
  bd : ∀ us : List Value, us.length = r.ps.length → bindArgs fd { pos := us } = pure (r.ps.zip us)
theorem callF_len {P : Prog} {k i : Nat} {fn : Fn} (hf : P.fns[i]? = some fn) {ds : List D} {st : Sto} (h : ds.length ≠ fn.np) : callF P k i ds st = .bad := by
  cases k with
  | zero => rfl
  | succ k =>
    rw [callF, hf]
    exact if_neg h
/-- a def's own table of code objects -/
def TabOf (base : Heap) (mg : Str → Option Value) (TT : List (Addr × Str)) (r : Row) (fd : FuncData) : Prop :=
  ∃ c P, fd.code = .ref c ∧ LamX.TabB base mg c P ∧ (P, r.x ++ ".<locals>." ++ sfx r.top) ∈ TT ∧ ∀ p ∈ TT, p.1 = P → p.2 = r.x ++ ".<locals>." ++ sfx r.top
section
variable {T : Tab} {P : Prog} {Pr : PySem.Program} {w : World} {K : PySem.W.Frag} {mg : Str → Option Value} {base : Heap} {cl : Nat → Addr} {TT : List (Addr × Str)} {rows : List Row}
/-- all that a check brings -/
structure Text (T : Tab) (P : Prog) (w : World) (K : PySem.W.Frag) (mg : Str → Option Value) (base : Heap) (cl : Nat → Addr) (TT : List (Addr × Str)) (rows : List Row) : Prop where
  B : GB T w K mg cl P
  fns : T.fns = rows.map (·.x)
  wr : T.wr = true
  ck : ∀ (i : Nat) r, rows[i]? = some r → ∃ fn, P.fns[i]? = some fn ∧ ckFn T fn r = true
  d : ∀ (i : Nat) r, rows[i]? = some r → ∃ f fd, Def K mg r f fd
  lam : ∀ (i : Nat) r, rows[i]? = some r → T.lam.contains i = r.lam
  top : ∀ (i : Nat) r f fd, rows[i]? = some r → r.lam = false → r.top ≠ 0 → Def K mg r f fd → TabOf base mg TT r fd
/-- what the defs promise that get no lambda, a level below -/
def AllFn (P : Prog) (Pr : PySem.Program) (w : World) (K : PySem.W.Frag) (mg : Str → Option Value) (base : Heap) (cl : Nat → Addr) (TT : List (Addr × Str)) (rows : List Row) (k : Nat) : Prop :=
  ∀ (i : Nat) (r : Row) (f : Addr) (fd : FuncData), rows[i]? = some r → r.lam = false → Def K mg r f fd → FnG Pr w K mg base (L2.CX Pr w) (4 * k + 1) f fd r.ps (spD K cl TT r.ps.length (callF P k i))
theorem gf_of (X : Text T P w K mg base cl TT rows) {k : Nat} (h : AllFn P Pr w K mg base cl TT rows k) {r : Row} {C : Cfg} (hcall : C.call = callF P k) (hglob : C.glob = P.glob) (hsub : C.sub = P.sub) (hkd : C.kd = P.kd)
    (hL : (T.row r).top = 2 → ∀ i x, T.fns[i]? = some x → T.lam.contains i = true → LamF Pr w K mg base cl TT k x (C.callL i)) : GF (T.row r) Pr w K mg base k cl TT C := by
  refine ⟨fun j x hj hl => ?_, by rw [hglob]; exact X.B.gl, X.B.cls, X.B.rcl, by rw [hsub]; exact X.B.kf, X.B.blt, X.B.gcd, by rw [hkd]; exact X.B.kd, X.B.isq, by rw [hkd]; exact X.B.kt, hL⟩
  have hj : T.fns[j]? = some x := hj
  have hl : T.lam.contains j = false := hl
  rw [X.fns, List.getElem?_map, Option.map_eq_some_iff] at hj
  obtain ⟨r', hr', rfl⟩ := hj
  obtain ⟨f', fd', hD'⟩ := X.d j r' hr'
  obtain ⟨fn', hfn', hc'⟩ := X.ck j r' hr'
  unfold ckFn at hc'
  simp only [Bool.and_eq_true, decide_eq_true_eq] at hc'
  refine ⟨f', fd', r'.ps, ?_, hD'.mg, hD'.fn.kp, hD'.bs, fun ds st hn => ?_⟩
  · rw [hcall]
    exact h j r' f' fd' hr' (by rw [← X.lam j r' hr', hl]) hD'
  · rw [hcall]
    exact callF_len hfn' (by rw [hc'.2.1]; exact hn)
/-- a def that gets a lambda -/
theorem lam_ok (X : Text T P w K mg base cl TT rows) {k : Nat} (h : AllFn P Pr w K mg base cl TT rows k) {i : Nat} {r : Row} (hr : rows[i]? = some r) (hl : r.lam = true) : LamF Pr w K mg base cl TT k r.x (callA P (callF P k) i) := by
  obtain ⟨f, fd, hD⟩ := X.d i r hr
  obtain ⟨fn, hfn, hc⟩ := X.ck i r hr
  unfold ckFn at hc
  simp only [Bool.and_eq_true, Bool.or_eq_true, decide_eq_true_eq] at hc
  obtain ⟨h1, h2, h3, h4, h5⟩ := hc
  have h5 : lamC r = true := h5.resolve_left fun z => by rw [hl] at z; cases z
  have S := scC_ok h1
  have hbs := hD.bs
  obtain ⟨oc, od, kV, doc, pm, an, cdv, ct, osl, rfl, lk, hcd⟩ := hD.fn.ex
  unfold lamC at h5
  split at h5
  · rename_i a hps
    simp only [Bool.and_eq_true, decide_eq_true_eq] at h5
    obtain ⟨p1, p2, p3, p4⟩ := h5
    rw [hps] at hbs S h2
    have V : Vis (defScope r.st) a := by
      unfold visOk at p2
      simp only [Bool.or_eq_true, decide_eq_true_eq] at p2
      exact p2
    refine ⟨_, _, _, _, _, _, doc, pm, cdv, ct, oc, an, od, osl, r.N, a, fn.keep, fun act n => evSs (cfgA P (callF P k) act n) fn.body, hD.mg, hD.fn.kp, lk, hcd, hbs, S, p1, V, p3, p4, fun act st => ?_, fun A stack s H act n b2 hT hb hroom hgd hact => ?_⟩
    · unfold callA
      rw [hfn]
      simp only
      rw [if_pos (show fn.np = 1 from h2), h3]
    · have rw1 : (T.row r).act = true := hl
      have top0 : (T.row r).top = 0 := by
        show (if r.lam = true then 0 else r.top) = 0
        rw [if_pos hl]
      have G : GF (T.row r) Pr w K mg base k cl b2.T (cfgA P (callF P k) act n) := by
        rw [hT]
        exact gf_of X h rfl rfl rfl rfl fun e => by rw [top0] at e; cases e
      have go : ∀ (W : WX) (pn : List (Addr × Obj)) (xe : Value → Shared → Prop), Takes ((cxOf C8.CX0 Pr w K mg base r.N r.x (defScope r.st) f cdv A stack s H C8.E0).nox.tr pn xe) W → ∀ (x : Str) (p1 p2 : Pos), r.N[(0 : Nat)]? = some x → PE ((cxOf C8.CX0 Pr w K mg base r.N r.x (defScope r.st) f cdv A stack s H C8.E0).nox.tr pn xe) (.Call (.Name x p1) [] [] p2) (tD K cl b2 W (actF n act)) := fun W pn xe tk x q1 q2 e => by
        rw [p1] at e
        cases e
        exact hact W pn xe q1 q2 tk
      refine soundSs (T := T.row r) (k := k) (N := r.N) (sc := defScope r.st) fn.body ⟨⟨rfl, rfl, rfl, rfl, S.nd, hroom.mono (by omega), hgd, G, fun σ => passAt LamX.takes0 σ, fun _ => hb.symm, fun e => absurd top0 e, fun _ x q1 q2 e => ?_⟩, S.kind, PassesOwn.never, LamX.takes0, rfl, rfl, rfl, X.wr, fun _ => go⟩ h4
      exact go WF [] (fun _ _ => False) LamX.takes0 x q1 q2 e
  · cases h5
theorem prog_ok (X : Text T P w K mg base cl TT rows) : ∀ k : Nat, AllFn P Pr w K mg base cl TT rows k
  | 0, i, r, f, fd, hr, hl, hD => by
    refine ⟨fun vs H Q E h => ?_, fun A outer s H args us vs Q E _ _ _ _ _ h => ?_⟩
    · obtain ⟨_, _, _, _, _, _, _, hl, _⟩ := h
      exact hl
    · obtain ⟨_, _, _, _, _, _, _, _, p⟩ := h
      exact p.elim
  | k + 1, i, r, f, fd, hr, hnl, hD => by
    obtain ⟨fn, hfn, hc⟩ := X.ck i r hr
    unfold ckFn at hc
    simp only [Bool.and_eq_true, decide_eq_true_eq] at hc
    obtain ⟨h1, h2, h3, h4, _⟩ := hc
    have S := scC_ok h1
    have tp := X.top i r f fd hr hnl
    have ih := prog_ok X k
    have hD' := hD
    obtain ⟨oc, od, kV, doc, pm, an, cdv, ct, osl, rfl, lk, hcd⟩ := hD.fn.ex
    refine fnG_of (k := 4 * k + 4) lk hcd S (fun vs H Q E h => ?_) fun A outer s H vs Q E hroom hgd h => ?_
    · obtain ⟨_, _, _, _, _, _, _, hl, _⟩ := h
      exact hl
    · obtain ⟨bs, W, ds, st, hT, sr, rl, hl, p⟩ := h
      have hds : ds.length = fn.np := by rw [← rl.length, hl, h2]
      rw [callF, hfn] at p
      simp only at p
      rw [if_pos hds] at p
      refine ⟨tS K cl (bs.sub st.length sr.ge) (fun c d _ H => E c d H) (evSs (cfg P (callF P k) st.length) fn.body), ?_, W, startD fn.n ds, st, sr.enter, by rw [h3]; exact start_env rl, end_of (isSub sr.ge) sr.inv p⟩
      have tk : Takes (cxOf (L2.CX Pr w) Pr w K mg base r.N r.x (defScope r.st) f cdv A outer s H E) fun cls d x H => E cls d H := takes_of rfl rfl rfl rfl
      have acF : (T.row r).act = false := hnl
      have topE : (T.row r).top = r.top := by
        show (if r.lam = true then 0 else r.top) = r.top
        rw [hnl]
        rfl
      have G : GF (T.row r) Pr w K mg base k cl (bs.sub st.length sr.ge).T (cfg P (callF P k) st.length) := by
        show GF (T.row r) Pr w K mg base k cl bs.T (cfg P (callF P k) st.length)
        rw [hT]
        refine gf_of X ih rfl rfl rfl rfl fun _ j x hj hl => ?_
        rw [X.fns, List.getElem?_map, Option.map_eq_some_iff] at hj
        obtain ⟨r', hr', rfl⟩ := hj
        exact lam_ok X ih hr' (by rw [← X.lam j r' hr', hl])
      refine soundSs (T := T.row r) (k := k) (N := r.N) (sc := defScope r.st) fn.body ⟨⟨rfl, rfl, rfl, rfl, S.nd, hroom.mono (by omega), hgd, G, fun σ => passAt tk σ, fun _ => rfl, fun e => ⟨hroom, ?_⟩, fun e => by rw [acF] at e; cases e⟩, S.kind, passes_of rfl, tk, rfl, rfl, rfl, X.wr, fun e => by rw [acF] at e; cases e⟩ h4
      rw [topE] at e ⊢
      obtain ⟨c, Pa, q1, q2, q3, q4⟩ := tp e hD'
      refine ⟨c, Pa, q1, q2, ?_, ?_⟩
      · show _ ∈ bs.T
        rw [hT]
        exact q3
      · show ∀ p ∈ bs.T, _
        rw [hT]
        exact q4
end
/-- the heap but for the tables -/
def noTbl (H : Hp) : Hp := fun a => match H a with
  | some (.tbl _) => none
  | o => o
theorem noTbl_sub {H : Hp} {a : Addr} {o : HO} (h : noTbl H a = some o) : H a = some o ∧ ∀ ps, o ≠ .tbl ps := by
  unfold noTbl at h
  split at h
  · cases h
  · rename_i hn
    refine ⟨h, fun ps z => ?_⟩
    subst z
    exact hn ps h
theorem noTbl_of {H : Hp} {a : Addr} {o : HO} (h : H a = some o) (hn : ∀ ps, o ≠ .tbl ps) : noTbl H a = some o := by
  unfold noTbl
  rw [h]
  split
  · rename_i ps e
    cases e
    exact absurd rfl (hn ps)
  · rfl
theorem scInts {K : PySem.W.Frag} {cl : Nat → Addr} {F : Hp} {r : Nat → Addr} {n : Nat} : ∀ ns : List Int, RpL K cl F r n (ns.map V.int) (ns.map D.int)
  | [] => .nil
  | n :: ns => .cons (.int _) (scInts ns)
/-- the script, as a law's def gets it -/
theorem law_sp {K : PySem.W.Frag} {cl : Nat → Addr} {TT : List (Addr × Str)} {r : List D → Sto → Out D} {H : Hp} {a : Addr} {ns : List Int} (hS : SqL K H a (ns.map V.int)) (hT : LamX.Tabs TT H) {st' : Sto} (h : r [.lst (ns.map D.int)] [] = .ok (.bl true) st') : spD K cl TT 1 r [.ref a] H (fun v _ => v = .bl true) fun _ _ _ => False := by
  refine ⟨{ b := 0, L := fun _ => 0, le := fun _ _ => Nat.le_refl _, T := TT }, ⟨noTbl H, fun _ => 0, fun _ => none⟩, [.lst (ns.map D.int)], [], rfl, ⟨fun _ _ q => (noTbl_sub q).1, fun c c' o o' q => (by simp at q), fun c o q => (by simp at q), fun c o q => (by simp at q), fun c o q => (by simp at q), Nat.le_refl _, fun a o q => (by cases q), fun a o q => (by cases q), fun c o q => (by simp at q), hT, fun a ps q => (noTbl_sub q).2 ps rfl, fun a o q => (by cases q), trivial⟩, .cons (.lst (vs := ns.map V.int) ?_ ?_) .nil, rfl, ?_⟩
  · rcases hS with (q | ⟨o, q⟩) | q
    · exact .inl (.inl (noTbl_of q fun ps z => by cases z))
    · exact .inl (.inr ⟨o, noTbl_of q fun ps z => by cases z⟩)
    · exact .inr q
  · exact scInts ns
  · rw [h]
    intro W' H' v _ _ _ rp
    cases rp
    rfl
end Itp
namespace Itp
open L2 PySem.Spec PyProof.Rows PySem
/-! ### what the top of the text has written, reckoned -/
def adr (K : PySem.W.Frag) (x : Str) : Option Addr := match PySem.W.nsIn K mainGlobals x with
  | some (some (.ref f)) => some f
  | _ => none
def fdAt (K : PySem.W.Frag) (x : Str) : Option FuncData := match adr K x with
  | some f => (match K.lookup f with
    | some ⟨_, _, .func fd, _⟩ => some fd
    | _ => none)
  | none => none
def fnN (r : Row) (fd : FuncData) : FuncData := PySem.W.fnOf r.x r.x (defArgs r.st) (defBody r.st) (defScope r.st) .none fd.kwdefaults fd.doc fd.pyModule fd.annotations fd.code fd.closureTuple
def fnChk (K : PySem.W.Frag) (r : Row) : Bool := match adr K r.x, fdAt K r.x with
  | some f, some fd => PySem.W.codeIn K fd.code r.x && PySem.W.keepIn K (.ref f)
  | _, _ => false
def clsOf (K : PySem.W.Frag) (cls : List Str) (n : Nat) : Addr := ((cls[n]?).bind (adr K)).getD 0
-- a number, a text, a tuple that the top wrote
mutual
def dec (K : PySem.W.Frag) : Nat → Value → Option D
  | 0, _ => none
  | _ + 1, .none => some .non
  | _ + 1, .bool b => some (.bl b)
  | _ + 1, .int i _ => some (.int i)
  | _ + 1, .str x _ => some (.str x)
  | k + 1, .ref a => (match K.lookup a with
    | some ⟨.type "tuple", _, .seq its _, _⟩ => if its.size ≤ sizeLine then (decs K k its.toList).map .tup else none
    | _ => none)
  | _ + 1, _ => none
def decs (K : PySem.W.Frag) : Nat → List Value → Option (List D)
  | 0, _ => none
  | _ + 1, [] => some []
  | k + 1, u :: us => match dec K k u, decs K k us with
    | some d, some ds => some (d :: ds)
    | _, _ => none
end
mutual
theorem dec_cv {K : PySem.W.Frag} : ∀ (k : Nat) (u : Value) (d : D), dec K k u = some d → Cv K u d
  | 0, _, _, h => by simp [dec] at h
  | k + 1, u, d, h => by
    cases u with
    | none =>
      simp only [dec, Option.some.injEq] at h
      subst h
      exact .non
    | bool b =>
      simp only [dec, Option.some.injEq] at h
      subst h
      exact .bl b
    | int i t =>
      simp only [dec, Option.some.injEq] at h
      subst h
      exact .int i t
    | str x t =>
      simp only [dec, Option.some.injEq] at h
      subst h
      exact .str x t
    | ref a =>
      simp only [dec] at h
      split at h
      · rename_i e1
        split at h
        · rename_i hs
          simp only [Option.map_eq_some_iff] at h
          obtain ⟨ds, h, rfl⟩ := h
          exact .tup e1 rfl rfl hs (decs_cv k _ _ h)
        · cases h
      · cases h
    | _ => simp [dec] at h
theorem decs_cv {K : PySem.W.Frag} : ∀ (k : Nat) (us : List Value) (ds : List D), decs K k us = some ds → CvL K us ds
  | 0, _, _, h => by simp [decs] at h
  | k + 1, [], ds, h => by
    simp only [decs, Option.some.injEq] at h
    subst h
    exact .nil
  | k + 1, u :: us, ds, h => by
    simp only [decs] at h
    split at h
    · rename_i e1 e2
      cases h
      exact .cons (dec_cv k _ _ e1) (decs_cv k _ _ e2)
    · cases h
end
def decAt (K : PySem.W.Frag) (x : Str) : Option D := match PySem.W.nsIn K mainGlobals x with
  | some (some u) => dec K 40 u
  | _ => none
/-- the rows of a written dict -/
def esAt (K : PySem.W.Frag) (x : Str) : List DictEntry := match adr K x with
  | some a => (match K.lookup a with
    | some ⟨.type "dict", none, .dict es _, _⟩ => es.toList
    | _ => [])
  | none => []
def keyS : Value → Str
  | .str x _ => x
  | _ => Str.ofString ""
def kdRow (K : PySem.W.Frag) (e : DictEntry) : Option (Str × D) := match e.key, dec K 40 e.val with
  | .str x _, some d => some (x, d)
  | _, _ => none
def kdRows (K : PySem.W.Frag) : List DictEntry → Option (List (Str × D))
  | [] => some []
  | e :: es => match kdRow K e, kdRows K es with
    | some a, some as => some (a :: as)
    | _, _ => none
def kdAt (K : PySem.W.Frag) (x : Str) : Option (List (Str × D)) := match adr K x with
  | some a => (match K.lookup a with
    | some ⟨.type "dict", none, .dict es _, sl⟩ => if sl.size = 0 then (if (a == sysModules) then none else kdRows K es.toList) else none
    | _ => none)
  | none => none
theorem kdL_of {K : PySem.W.Frag} {P : Params} : ∀ {es : List DictEntry} {kvs : List (Str × D)}, kdRows K es = some kvs → es.map (·.hash) = es.map (fun e => PyData.keyHash P (keyS e.key)) → KdL K P es kvs
  | [], kvs, h, _ => by
    simp only [kdRows, Option.some.injEq] at h
    subst h
    exact .nil
  | e :: es, kvs, h, hh => by
    simp only [kdRows] at h
    simp only [List.map_cons, List.cons.injEq] at hh
    split at h
    · rename_i e1 e2
      cases h
      unfold kdRow at e1
      split at e1
      · rename_i hk hd
        cases e1
        refine .cons hk ?_ (dec_cv _ _ _ hd) (kdL_of e2 hh.2)
        rw [hh.1, hk]
        rfl
      · cases e1
    · cases h
theorem kdF_of {K : PySem.W.Frag} {P : Params} {x : Str} {kvs : List (Str × D)} (h : kdAt K x = some kvs) (hh : (esAt K x).map (·.hash) = (esAt K x).map fun e => PyData.keyHash P (keyS e.key)) : ∃ a, adr K x = some a ∧ KdF K P a kvs := by
  unfold kdAt at h
  unfold esAt at hh
  cases e : adr K x with
  | none =>
    rw [e] at h
    cases h
  | some a =>
    rw [e] at h hh
    simp only at h hh
    split at h
    · rename_i e2
      rw [e2] at hh
      simp only at hh
      split at h
      · rename_i h0
        split at h
        · cases h
        · rename_i hne
          rw [Array.eq_empty_of_size_eq_zero h0] at e2
          exact ⟨a, rfl, ⟨_, _, e2, kdL_of h hh⟩, by simpa using hne⟩
      · cases h
    · cases h
/-- the rows of a written dict whose keys are a word and a number -/
def keyP (K : PySem.W.Frag) (e : DictEntry) : Option (Str × Int) := match e.key with
  | .ref b => (match K.lookup b with
    | some ⟨.type "tuple", _, .seq its _, _⟩ => (match its.toList with
      | [.str z _, .int i _] => some (z, i)
      | _ => none)
    | _ => none)
  | _ => none
def keyPs (K : PySem.W.Frag) : List DictEntry → Option (List (Str × Int))
  | [] => some []
  | e :: es => match keyP K e, keyPs K es with
    | some p, some ps => some (p :: ps)
    | _, _ => none
def ktAt (K : PySem.W.Frag) (x : Str) : Option (List (Str × Int)) := match adr K x with
  | some a => (match K.lookup a with
    | some ⟨.type "dict", none, .dict es _, sl⟩ => if sl.size = 0 then (if (a == sysModules) then none else keyPs K es.toList) else none
    | _ => none)
  | none => none
theorem ktL_of {K : PySem.W.Frag} {w : World} : ∀ {es : List DictEntry} {ps : List (Str × Int)}, keyPs K es = some ps → es.map (·.hash) = ps.map (fun p => (ktK p).hash w) → KtL K w es ps
  | [], ps, h, _ => by
    cases h
    exact .nil
  | e :: es, ps, h, hh => by
    unfold keyPs at h
    split at h
    · rename_i p qs e1 e2
      cases h
      simp only [List.map_cons, List.cons.injEq] at hh
      unfold keyP at e1
      split at e1
      · rename_i b hk
        split at e1
        · rename_i dd its n sl hl
          split at e1
          · rename_i z t i t' hits
            cases e1
            refine .cons (t := t) (t' := t') (n := n) hk hh.1 hl rfl ?_ (ktL_of e2 hh.2)
            show Data.seq its n = Data.seq _ n
            rw [← Array.toArray_toList (xs := its), hits]
          · cases e1
        · cases e1
      · cases e1
    · cases h
theorem ktF_of {K : PySem.W.Frag} {w : World} {x : Str} {kvs : List (Str × D)} (h : ktAt K x = some (kvs.filterMap ktRow)) (hh : (esAt K x).map (·.hash) = (kvs.filterMap ktRow).map fun p => (ktK p).hash w) (hs : kvs.all (fun p => (ktRow p).isSome) = true) (hn : (kvs.filterMap ktRow).Nodup) : ∃ a, adr K x = some a ∧ KtF K w a kvs := by
  have hm : ∀ l : List (Str × D), l.all (fun p => (ktRow p).isSome) = true → l.map ktRow = (l.filterMap ktRow).map some := by
    intro l
    induction l with
    | nil => intro _; rfl
    | cons p l ih =>
      intro hl
      rw [List.all_cons, Bool.and_eq_true] at hl
      obtain ⟨q, hq⟩ := Option.isSome_iff_exists.mp hl.1
      rw [List.map_cons, List.filterMap_cons, hq, ih hl.2]
      rfl
  unfold ktAt at h
  unfold esAt at hh
  cases e : adr K x with
  | none =>
    rw [e] at h
    cases h
  | some a =>
    rw [e] at h hh
    simp only at h hh
    split at h
    · rename_i e2
      rw [e2] at hh
      simp only at hh
      split at h
      · rename_i h0
        split at h
        · cases h
        · rename_i hne
          rw [Array.eq_empty_of_size_eq_zero h0] at e2
          exact ⟨a, rfl, ⟨_, _, _, e2, ktL_of h hh, hm kvs hs, hn⟩, by simpa using hne⟩
      · cases h
    · cases h
/-! ### the classes -/
def clsV (K : PySem.W.Frag) (c : Addr) : Option Bool × Bool × Option Value := (PySem.W.subIn K (.ref c) (.type "BaseException"), PySem.W.isClsIn K c, PySem.W.typeIn K (.ref c))
def excV (K : PySem.W.Frag) (c : Addr) : (Option (Option Value) × Option (Option Value) × Option Bool × Bool) × Option (Option Value) × Option (Option Value) × Option Bool × Option Bool :=
  ((PySem.W.findIn K (.ref c) "__getattribute__", PySem.W.findIn K (.ref c) "__getattr__", PySem.W.subIn K (.ref c) (.type "BaseException"), PySem.W.hasDictIn K c),
    PySem.W.findIn K (.ref c) "__class__", PySem.W.specialIn K (.builtin "object.__class__") "__get__", PySem.W.takesIn K (.builtin "object.__class__"), PySem.W.mroIn K c (.type "object"))
def excW : (Option (Option Value) × Option (Option Value) × Option Bool × Bool) × Option (Option Value) × Option (Option Value) × Option Bool × Option Bool :=
  ((some (some (.builtin "BaseException.__getattribute__")), some none, some true, true), some (some (.builtin "object.__class__")), some (some (.builtin "getset_descriptor.__get__")), some true, some true)
def excChk (K : PySem.W.Frag) (c : Addr) : Bool := (PySem.W.subIn K (.ref c) (.type "ValueError") == some true) && (PySem.W.excIn K c [.type "ValueError", .type "Exception", .type "BaseException", .type "object"] "ValueError.__new__" && PySem.W.keepIn K (.ref c))
/-- a class of the text that an except names or that isinstance asks -/
structure ClsF (K : PySem.W.Frag) (d : Addr) : Prop where
  b : PySem.W.subIn K (.ref d) (.type "BaseException") = some true
  i : PySem.W.isClsIn K d = true
  t : PySem.W.typeIn K (.ref d) = some (.type "type")
section
variable {K : PySem.W.Frag}
theorem kitCls_of {c d : Addr} {b : Bool} (D : ClsF K d) (hs : PySem.W.subIn K (.ref c) (.ref d) = some b) : PySem.W.kitCls K (.ref c) (.ref d) = some b := by
  have e2 : ((PySem.W.clsIn K d).isSome && PySem.W.typeIn K (.ref d) == some (.type "type")) = true := by
    have h2' : (PySem.W.clsIn K d).isSome = true := D.i
    rw [h2', D.t]
    rfl
  show (if ((PySem.W.clsIn K d).isSome && PySem.W.typeIn K (.ref d) == some (.type "type")) = true then PySem.W.subIn K (.ref c) (.ref d) else none) = some b
  rw [if_pos e2]
  exact hs
theorem exmOne_of {c d : Addr} {b : Bool} (D : ClsF K d) (hs : PySem.W.subIn K (.ref c) (.ref d) = some b) : PySem.W.exmOne K (.ref c) (.ref d) = some b := by
  have e1 : (PySem.W.subIn K (.ref d) (.type "BaseException") == some true) = true := by
    rw [D.b]
    rfl
  show (if (PySem.W.subIn K (.ref d) (.type "BaseException") == some true) = true then PySem.W.kitCls K (.ref c) (.ref d) else none) = some b
  rw [if_pos e1]
  exact kitCls_of D hs
theorem kitV_of {c : Addr} (h : PySem.W.subIn K (.ref c) (.type "ValueError") = some true) : PySem.W.kitOne K (.ref c) (.type "ValueError") = some true := by
  have e : PySem.W.kitMeta "ValueError" = true := by decide +kernel
  unfold PySem.W.kitOne
  rw [if_neg (by simp)]
  show (if PySem.W.kitMeta "ValueError" = true then PySem.W.subIn K (.ref c) (.type "ValueError") else none) = some true
  rw [if_pos e]
  exact h
/-- all that is asked of the classes, by few facts each -/
theorem kf_of {cl : Nat → Addr} {sub : Nat → Nat → Option Bool} {cs es : List Nat} (hsub : ∀ n m b, sub n m = some b → PySem.W.subIn K (.ref (cl n)) (.ref (cl m)) = some b ∧ n ∈ es ∧ m ∈ cs ∧ (n = m → b = true)) (C : ∀ n ∈ cs, ClsF K (cl n))
    (E : ∀ n, n ∈ es → L2.ExcC K (cl n)) (V : ∀ n, n ∈ es → PySem.W.subIn K (.ref (cl n)) (.type "ValueError") = some true) (inj : ∀ n m, n ∈ es → m ∈ cs → cl n = cl m → n = m) : KF K cl sub := by
  refine ⟨fun n m b e => E n (hsub n m b e).2.1, fun n m b e => ?_, fun n m b e => exmOne_of (C _ (hsub n m b e).2.2.1) (hsub n m b e).1, fun n m b e => kitV_of (V n (hsub n m b e).2.1)⟩
  obtain ⟨h1, h2, h3, h4⟩ := hsub n m b e
  unfold PySem.W.kitOne
  by_cases q : cl n = cl m
  · have := h4 (inj n m h2 h3 q)
    subst this
    rw [if_pos (by rw [q]; simp)]
  · rw [if_neg (by simpa using q)]
    exact kitCls_of (C _ h3) h1
end
theorem nodup_inj {α : Type} : ∀ {l : List α} {n m : Nat} (nd : l.Nodup) (hn : n < l.length) (hm : m < l.length), l[n] = l[m] → n = m := by
  intro l n m nd hn hm e
  have p := List.pairwise_iff_getElem.mp nd
  rcases Nat.lt_trichotomy n m with q | q | q
  · exact absurd e (p n m hn hm q)
  · exact q
  · exact absurd e.symm (p m n hm hn q)
def subF (subT : List (Nat × Nat × Bool)) : Nat → Nat → Option Bool := fun n m => (subT.find? fun p => p.1 == n && p.2.1 == m).map (·.2.2)
theorem subF_in {subT : List (Nat × Nat × Bool)} : ∀ n m b, subF subT n m = some b → (n, m, b) ∈ subT := by
  intro n m b h
  unfold subF at h
  cases e : subT.find? fun p => p.1 == n && p.2.1 == m with
  | none =>
    rw [e] at h
    cases h
  | some p =>
    rw [e] at h
    have h1 := List.mem_of_find?_eq_some e
    have h2 := List.find?_some e
    simp only [Bool.and_eq_true, beq_iff_eq] at h2
    obtain ⟨p1, p2, p3⟩ := p
    cases h
    obtain ⟨rfl, rfl⟩ := h2
    exact h1
/-! ### the tables of code objects -/
def tabsOf (K : PySem.W.Frag) (rows : List Row) : List (Addr × Addr × Str) := rows.filterMap fun r => if r.lam || r.top == 0 then none else match PySem.W.tabIn K r.x with
  | some (c, P) => some (c, P, r.x ++ ".<locals>." ++ sfx r.top)
  | none => none
/-- all that is asked of what the top has written -/
structure Tops (K : PySem.W.Frag) (w : World) (q : PySem.Program) (T : Tab) (rows : List Row) (globs : List D) (kds : List (List (Str × D))) (cs es : List Nat) (subT : List (Nat × Nat × Bool)) : Prop where
  fns : rows.map (fun r => fdAt K r.x) = rows.map fun r => (fdAt K r.x).map (fnN r)
  fnc : rows.all (fnChk K) = true
  cls : T.cls.all (fun x => (adr K x).isSome) = true
  blt : T.blt.map (PySem.W.nsIn K mainGlobals) = T.blt.map fun _ => some none
  gcd : (if T.gcd then PySem.W.nsIn K mainGlobals (Str.ofString "gcd") else some (some (.builtin "math.gcd"))) = some (some (.builtin "math.gcd"))
  isq : (if T.isq then PySem.W.nsIn K mainGlobals (Str.ofString "isqrt") else some (some (.builtin "math.isqrt"))) = some (some (.builtin "math.isqrt"))
  gls : T.gls.map (decAt K) = globs.map some
  kts : T.kts.map (ktAt K) = (kds.drop T.kds.length).map fun l => some (l.filterMap ktRow)
  kth : T.kts.map (fun x => (esAt K x).map (·.hash)) = (kds.drop T.kds.length).map fun l => (l.filterMap ktRow).map fun p => (ktK p).hash w
  ktd : (kds.drop T.kds.length).all (fun l => l.all (fun p => (ktRow p).isSome) && decide (l.filterMap ktRow).Nodup) = true
  kds : T.kds.map (kdAt K) = (kds.take T.kds.length).map some
  kdh : T.kds.map (fun x => (esAt K x).map (·.hash)) = T.kds.map fun x => (esAt K x).map fun e => PyData.keyHash w.params (keyS e.key)
  clsv : cs.map (fun n => clsV K (clsOf K T.cls n)) = cs.map fun _ => (some true, true, some (.type "type"))
  sub : subT.all (fun p => PySem.W.subIn K (.ref (clsOf K T.cls p.1)) (.ref (clsOf K T.cls p.2.1)) == some p.2.2) = true
  exc : es.map (fun n => excV K (clsOf K T.cls n)) = es.map fun _ => excW
  excc : es.all (fun n => excChk K (clsOf K T.cls n)) = true
  inj : decide ((List.range T.cls.length).map (clsOf K T.cls)).Nodup = true
  tab : rows.all (fun r => r.lam || (r.top == 0 || ((PySem.W.tabIn K r.x).isSome && (recsOf q).any fun e => e.name == r.x))) = true
  tabn : (tabsOf K rows).all (fun t => (K.lookup t.2.1).isNone) = true
  tabd : decide ((tabsOf K rows).map fun t => t.2.1).Nodup = true
/-- .. and of the text alone -/
def okData (T : Tab) (rows : List Row) (fns : List Fn) (cs es : List Nat) (subT : List (Nat × Nat × Bool)) : Bool :=
  decide (T.fns = rows.map (·.x)) && (T.wr && (decide (T.rcl = es) && (decide (fns.length = rows.length) && (((List.range rows.length).zip rows).all (fun p => decide (T.lam.contains p.1 = p.2.lam)) &&
    (cs.all (fun n => decide (n < T.cls.length)) && (es.all (fun n => decide (n < T.cls.length) && cs.contains n) && subT.all fun p => es.contains p.1 && (cs.contains p.2.1 && (decide (p.1 ≠ p.2.1) || p.2.2))))))))
inductive BindsF : List Itp.Row → Prop where
  | nil : BindsF []
  | cons {r : Itp.Row} {rs : List Itp.Row} (h : ∀ (kV doc pm : Value) (an : Option Addr) (cdv ct : Value) (us : List Value), us.length = r.ps.length → bindArgs (PySem.W.fnOf r.x r.x (defArgs r.st) (defBody r.st) (defScope r.st) .none kV doc pm an cdv ct) { pos := us } = pure (r.ps.zip us)) (hs : BindsF rs) : BindsF (r :: rs)
theorem BindsF.get : ∀ {rs : List Itp.Row}, BindsF rs → ∀ (i : Nat) {r : Itp.Row}, rs[i]? = some r → ∀ (kV doc pm : Value) (an : Option Addr) (cdv ct : Value) (us : List Value), us.length = r.ps.length → bindArgs (PySem.W.fnOf r.x r.x (defArgs r.st) (defBody r.st) (defScope r.st) .none kV doc pm an cdv ct) { pos := us } = pure (r.ps.zip us)
  | _, .nil, _, _, e => by simp at e
  | _, .cons h _, 0, _, e => by
    simp at e
    subst e
    exact h
  | _, .cons _ hs, i + 1, _, e => hs.get i (by simpa using e)
end Itp
namespace Itp
open L2 PySem.Spec PyProof.Rows PySem
theorem map_all {α β : Type} {l : List α} {f g : α → β} (h : l.map f = l.map g) : ∀ a ∈ l, f a = g a := List.map_inj_left.mp h
theorem map_at {α β : Type} {l : List α} {l' : List β} {f : α → Option β} (h : l.map f = l'.map some) {i : Nat} {a : α} (e : l[i]? = some a) : ∃ b, l'[i]? = some b ∧ f a = some b := by
  have h1 : (l.map f)[i]? = some (f a) := by rw [List.getElem?_map, e]; rfl
  rw [h, List.getElem?_map, Option.map_eq_some_iff] at h1
  obtain ⟨b, h2, h3⟩ := h1
  exact ⟨b, h2, h3.symm⟩
def mkP (fns : List Fn) (globs : List D) (kds : List (List (Str × D))) (subT : List (Nat × Nat × Bool)) (fuel : Nat) : Prog := { fns := fns, glob := fun n => globs[n]?, sub := subF subT, fuel := fuel, kd := fun n => kds.getD n [] }
theorem adr_ns {K : PySem.W.Frag} {x : Str} {a : Addr} (h : adr K x = some a) : PySem.W.nsIn K mainGlobals x = some (some (.ref a)) := by
  unfold adr at h
  split at h
  · rename_i e
    cases h
    exact e
  · cases h
section
variable {K : PySem.W.Frag} {w : World} {q : PySem.Program} {T : Tab} {rows : List Row} {fns : List Fn} {globs : List D} {kds : List (List (Str × D))} {cs es : List Nat} {subT : List (Nat × Nat × Bool)} {fuel : Nat} {mg : Str → Option Value} {h : Heap}
theorem def_of (X : K.In h) (G : h.Ns mainGlobals mg) {r : Row} (hf : fdAt K r.x = (fdAt K r.x).map (fnN r)) (hc : fnChk K r = true)
    (hb : ∀ (kV doc pm : Value) (an : Option Addr) (cdv ct : Value) (us : List Value), us.length = r.ps.length → bindArgs (PySem.W.fnOf r.x r.x (defArgs r.st) (defBody r.st) (defScope r.st) .none kV doc pm an cdv ct) { pos := us } = pure (r.ps.zip us)) : ∃ f fd, Def K mg r f fd := by
  unfold fnChk at hc
  split at hc
  · rename_i f fd e1 e2
    simp only [Bool.and_eq_true] at hc
    obtain ⟨c1, c2⟩ := hc
    have e3 : fd = fnN r fd := by
      rw [e2] at hf
      exact Option.some.inj hf
    have e4 := e2
    unfold fdAt at e4
    rw [e1] at e4
    simp only at e4
    split at e4
    · rename_i l
      cases e4
      rw [e3] at l
      have F := fun_mk (x := r.x) (qual := r.x) (st := r.st) (f := f) l c1 c2
      exact ⟨f, _, F, PySem.W.mg_of X G (adr_ns e1), F.binds hb, fun us hu => hb _ _ _ _ _ _ us hu⟩
    · cases e4
  · cases hc
theorem text_of (hT : Tops K w q T rows globs kds cs es subT) (hd : okData T rows fns cs es subT = true) (hck : ∀ (i : Nat) r, rows[i]? = some r → ∃ fn, fns[i]? = some fn ∧ ckFn T fn r = true) (hb : BindsF rows) (X : K.In h) (G : h.Ns mainGlobals mg)
    {base : Heap} (TB : ∀ p ∈ (tabsOf K rows).map (fun t => (t.1, t.2.1)), LamX.TabB base mg p.1 p.2) :
    Text T (mkP fns globs kds subT fuel) w K mg base (clsOf K T.cls) ((tabsOf K rows).map (·.2)) rows := by
  unfold okData at hd
  simp only [Bool.and_eq_true, decide_eq_true_eq, List.all_eq_true, List.contains_iff_mem, Bool.or_eq_true] at hd
  obtain ⟨d1, d2, d3, d4, d5, d6, d7, d8⟩ := hd
  have clsA : ∀ n x, T.cls[n]? = some x → adr K x = some (clsOf K T.cls n) := fun n x e => by
    have h1 := List.all_eq_true.mp hT.cls x (List.mem_of_getElem? e)
    obtain ⟨a, ha⟩ := Option.isSome_iff_exists.mp h1
    unfold clsOf
    rw [e, ha]
    simp [ha]
  have C : ∀ n ∈ cs, ClsF K (clsOf K T.cls n) := fun n hn => by
    have := map_all hT.clsv n hn
    unfold clsV at this
    simp only [Prod.mk.injEq] at this
    exact ⟨this.1, this.2.1, this.2.2⟩
  have E : ∀ n ∈ es, L2.ExcC K (clsOf K T.cls n) := fun n hn => by
    have := map_all hT.exc n hn
    unfold excV excW at this
    simp only [Prod.mk.injEq] at this
    obtain ⟨⟨a1, a2, a3, a4⟩, a5, a6, a7, a8⟩ := this
    exact ⟨a1, a2, a3, a4, a5, a6, a7, a8⟩
  have V : ∀ n ∈ es, PySem.W.subIn K (.ref (clsOf K T.cls n)) (.type "ValueError") = some true ∧ PySem.W.excIn K (clsOf K T.cls n) [.type "ValueError", .type "Exception", .type "BaseException", .type "object"] "ValueError.__new__" = true ∧ PySem.W.keepIn K (.ref (clsOf K T.cls n)) = true := fun n hn => by
    have := List.all_eq_true.mp hT.excc n hn
    unfold excChk at this
    simp only [Bool.and_eq_true, beq_iff_eq] at this
    exact this
  have inj : ∀ n m, n < T.cls.length → m < T.cls.length → clsOf K T.cls n = clsOf K T.cls m → n = m := fun n m hn hm e => by
    have nd := of_decide_eq_true hT.inj
    exact nodup_inj nd (n := n) (m := m) (by simpa using hn) (by simpa using hm) (by simpa using e)
  refine { B := ⟨fun n x e => ?_, fun n x e => PySem.W.mg_of X G (adr_ns (clsA n x e)), fun n hn => ?_, ?_, fun x hx => PySem.W.mg_none_of X G (map_all hT.blt x hx), fun e => ?_, fun n x e => ?_, fun e => ?_, fun n x e => ?_⟩, fns := d1, wr := d2, ck := hck, d := fun i r hr => ?_, lam := fun i r hr => ?_, top := fun i r f fd hr hl ht D => ?_ }
  · obtain ⟨d, e1, e2⟩ := map_at hT.gls e
    unfold decAt at e2
    split at e2
    · rename_i u hu
      obtain ⟨v, h1, h2⟩ := (dec_cv _ _ _ e2).rp (cl := clsOf K T.cls)
      exact ⟨d, v, u, e1, PySem.W.mg_of X G hu, h1, h2⟩
    · cases e2
  · rw [d3] at hn
    have c := C n (d7 n hn).2
    exact ⟨(V n hn).2.2, ⟨_, _, _, _, PySem.F.excBase_ValueError, (V n hn).2.1⟩, fun X hX => raises_own (by rw [hX]; exact c.b) (by rw [hX]; exact c.t)⟩
  · refine kf_of (cs := cs) (es := es) (fun n m b e => ?_) C E (fun n hn => (V n hn).1) fun n m hn hm e => inj n m (d7 n hn).1 (d6 m hm) e
    have hm := subF_in n m b e
    have h1 := List.all_eq_true.mp hT.sub _ hm
    have h2 := d8 _ hm
    refine ⟨by simpa using h1, h2.1, h2.2.1, fun z => ?_⟩
    exact h2.2.2.resolve_left fun y => y z
  · have := hT.gcd
    rw [e] at this
    exact PySem.W.mg_of X G this
  · obtain ⟨kvs, e1, e2⟩ := map_at hT.kds e
    have e3 := map_all hT.kdh x (List.mem_of_getElem? e)
    obtain ⟨a, h1, h2⟩ := kdF_of e2 e3
    refine ⟨a, PySem.W.mg_of X G (adr_ns h1), ?_⟩
    show KdF K w.params a (kds.getD n [])
    have hlt : n < T.kds.length := (List.getElem?_eq_some_iff.mp e).1
    rw [List.getElem?_take_of_lt hlt] at e1
    rw [List.getD_eq_getElem?_getD, e1]
    exact h2
  · have := hT.isq
    rw [e] at this
    exact PySem.W.mg_of X G this
  · have hn : n < T.kts.length := (List.getElem?_eq_some_iff.mp e).1
    have hl : (kds.drop T.kds.length).length = T.kts.length := by
      have := congrArg List.length hT.kts
      simpa using this.symm
    have hkv : (kds.drop T.kds.length)[n]? = some ((kds.drop T.kds.length)[n]'(by omega)) := List.getElem?_eq_getElem _
    generalize hg : (kds.drop T.kds.length)[n]'(by omega) = kvs at hkv
    have e1 : ktAt K x = some (kvs.filterMap ktRow) := by
      have h1 : (T.kts.map (ktAt K))[n]? = some (ktAt K x) := by rw [List.getElem?_map, e]; rfl
      rw [hT.kts, List.getElem?_map, hkv] at h1
      exact (Option.some.inj h1).symm
    have e2 : (esAt K x).map (·.hash) = (kvs.filterMap ktRow).map fun p => (ktK p).hash w := by
      have h1 : (T.kts.map (fun x => (esAt K x).map (·.hash)))[n]? = some ((esAt K x).map (·.hash)) := by rw [List.getElem?_map, e]; rfl
      rw [hT.kth, List.getElem?_map, hkv] at h1
      exact (Option.some.inj h1).symm
    have e3 := List.all_eq_true.mp hT.ktd kvs (List.mem_of_getElem? hkv)
    simp only [Bool.and_eq_true, decide_eq_true_eq] at e3
    obtain ⟨a, h1, h2⟩ := ktF_of e1 e2 e3.1 e3.2
    refine ⟨a, PySem.W.mg_of X G (adr_ns h1), ?_⟩
    show KtF K w a (kds.getD (T.kds.length + n) [])
    rw [List.getElem?_drop] at hkv
    rw [List.getD_eq_getElem?_getD, hkv]
    exact h2
  · exact def_of X G (map_all hT.fns r (List.mem_of_getElem? hr)) (List.all_eq_true.mp hT.fnc r (List.mem_of_getElem? hr)) (hb.get i hr)
  · refine d5 (i, r) (List.mem_iff_getElem?.mpr ⟨i, ?_⟩)
    rw [List.getElem?_zip_eq_some]
    refine ⟨?_, hr⟩
    have hi := (List.getElem?_eq_some_iff.mp hr).1
    rw [List.getElem?_range hi]
  · have h1 := List.all_eq_true.mp hT.tab r (List.mem_of_getElem? hr)
    simp only [hl, Bool.false_or, Bool.or_eq_true, beq_iff_eq, Bool.and_eq_true] at h1
    have h1 := h1.resolve_left ht
    obtain ⟨⟨c, Pa⟩, hc⟩ := Option.isSome_iff_exists.mp h1.1
    have mem : (c, Pa, r.x ++ ".<locals>." ++ sfx r.top) ∈ tabsOf K rows := by
      refine List.mem_filterMap.mpr ⟨r, List.mem_of_getElem? hr, ?_⟩
      have : (r.lam || r.top == 0) = false := by
        rw [hl, Bool.false_or, beq_eq_false_iff_ne]
        exact ht
      rw [this, hc]
      rfl
    obtain ⟨oc, od, kV, doc, pm, an, cdv, ct, osl, rfl, lk, _⟩ := D.fn.ex
    refine ⟨c, Pa, PySem.W.law_code X G hc D.mg (X _ _ lk) rfl, TB (c, Pa) (List.mem_map.mpr ⟨_, mem, rfl⟩), List.mem_map.mpr ⟨_, mem, rfl⟩, fun p hp e => ?_⟩
    obtain ⟨t, ht1, rfl⟩ := List.mem_map.mp hp
    have nd := of_decide_eq_true hT.tabd
    obtain ⟨i1, hi1, g1⟩ := List.mem_iff_getElem.mp ht1
    obtain ⟨i2, hi2, g2⟩ := List.mem_iff_getElem.mp mem
    have : i1 = i2 := nodup_inj nd (n := i1) (m := i2) (by simpa using hi1) (by simpa using hi2) (by simp only [List.getElem_map, g1, g2]; exact e)
    subst this
    rw [g1] at g2
    rw [g2]
theorem hck_of {T : Tab} {rows : List Row} {fns : List Fn} (h : (rows.zip fns).all (fun p => ckFn T p.2 p.1) = true) (hl : fns.length = rows.length) : ∀ (i : Nat) r, rows[i]? = some r → ∃ fn, fns[i]? = some fn ∧ ckFn T fn r = true := by
  intro i r hr
  rw [List.all_eq_true] at h
  obtain ⟨hi, e⟩ := List.getElem?_eq_some_iff.mp hr
  have hi2 : i < fns.length := by rw [hl]; exact hi
  refine ⟨fns[i], List.getElem?_eq_getElem hi2, ?_⟩
  have hz : (rows[i], fns[i]) ∈ rows.zip fns := by
    refine List.mem_iff_getElem?.mpr ⟨i, ?_⟩
    rw [List.getElem?_zip_eq_some]
    exact ⟨List.getElem?_eq_getElem hi, List.getElem?_eq_getElem hi2⟩
  have := h _ hz
  subst e
  exact this
/-- a law's def, by its script alone -/
def spLaw (K : PySem.W.Frag) (TT : List (Addr × Str)) (r : List D → Sto → Out D) : Sp := fun vs H Q _ => ∃ (a : Addr) (ns : List Int) (st' : Sto), vs = [.ref a] ∧ SqL K H a (ns.map V.int) ∧ LamX.Tabs TT H ∧ r [.lst (ns.map D.int)] [] = .ok (.bl true) st' ∧ ∀ H', Q (.bl true) H'
theorem FnG.weak {P : PySem.Program} {w : World} {K : PySem.W.Frag} {mg : Str → Option Value} {base : Heap} {CX : CXT} {k : Nat} {f : Addr} {fd : FuncData} {ps : List Str} {sp sp' : Sp} (F : FnG P w K mg base CX k f fd ps sp) (h : ∀ vs H Q E, sp' vs H Q E → sp vs H Q E) : FnG P w K mg base CX k f fd ps sp' :=
  ⟨fun vs H Q E q => F.len vs H Q E (h vs H Q E q), fun A outer s H args us vs Q E a b c d e q => F.run A outer s H args us vs Q E a b c d e (h vs H Q E q)⟩
theorem law_spQ {cl : Nat → Addr} {TT : List (Addr × Str)} {r : List D → Sto → Out D} {vs : List V} {H : Hp} {Q : VK} {E : XK} (h : spLaw K TT r vs H Q E) : spD K cl TT 1 r vs H Q E := by
  obtain ⟨a, ns, st', rfl, hS, hT, hr, hQ⟩ := h
  obtain ⟨base, W, ds, st, hb, sr, rl, hl, p⟩ := law_sp (cl := cl) (r := r) hS hT hr
  refine ⟨base, W, ds, st, hb, sr, rl, hl, ?_⟩
  cases e : r ds st with
  | ok d s1 =>
    rw [e] at p
    intro W' H' v a b c rp
    have : v = .bl true := p W' H' v a b c rp
    subst this
    exact hQ H'
  | exc n s1 =>
    rw [e] at p
    intro W' H' a b c
    exact (p W' H' a b c).elim
  | bad =>
    rw [e] at p
    exact p
theorem tab_nil {TT : List (Addr × Str)} {H : Hp} (h : ∀ p ∈ TT, H p.1 = some (.tbl #[])) : LamX.Tabs TT H := fun p hp => by
  refine ⟨#[], h p hp, ?_, fun pos cv e => ?_⟩
  · exact trivial
  · cases e
end
theorem walk_mk {l : PySem.W.OpenLaw} {n kk i : Nat} {q : PySem.Program} {loose : List Str} {XP : (Str → Option Value) → Heap → Prop} {YP : World → Heap → Prop} {d : DefRec} {K : Params → PySem.W.Frag} {T : Tab} {rows : List Row} {fns : List Fn} {globs : List D} {kds : List (List (Str × D))} {cs es : List Nat}
    {subT : List (Nat × Nat × Bool)} {fuel : Nat} {r : Row} (hn : l.most = some n) (hn2 : n ≤ sizeLine) (hdf : d.params.defaults = []) (hroom : Room (4 * kk + 1) PySem.callerA) (hY : ∀ (w : World) (h : Heap), YP w h → (K w.params).In h) (hnm : d.name = r.x) (hr : rows[i]? = some r) (hps : r.ps = [Str.ofString "script"]) (hl : r.lam = false)
    (hT : ∀ w : World, Tops (K w.params) w q T rows globs kds cs es subT) (hd : okData T rows fns cs es subT = true) (hck : ∀ (i : Nat) r, rows[i]? = some r → ∃ fn, fns[i]? = some fn ∧ ckFn T fn r = true) (hb : BindsF rows)
    (runs : ∀ ns : List Int, ns.length ≤ n → (∀ z ∈ ns, Builtin.Int.intBits z ≤ 1048576) → ∃ st', callF (mkP fns globs kds subT fuel) kk i [.lst (ns.map D.int)] [] = .ok (.bl true) st') :
    PySem.W.WalkO q loose XP YP l.row.toRowW d [] fun f vs => call f vs := by
  refine walk_ofG (l := l) (n := n) (k := 4 * kk + 1) (x := Str.ofString "script") (CX := fun w => L2.CX l.prog w) hn hn2 hdf hroom hY (fun w mg fa h Y KX G hmg hTab => ?_) fun w H s e s' hx => by obtain ⟨_, _, _, _, _, _, _, _, _, _, _, _, z⟩ := hx; exact z
  have T0 := hT w
  have tabs : ∀ t ∈ tabsOf (K w.params) rows, PySem.W.CodeHd h t.1 t.2.1 ∧ h.get? t.2.1 = some (PySem.W.tabObj #[]) := fun t ht => by
    obtain ⟨r', hr', e⟩ := List.mem_filterMap.mp ht
    split at e
    · cases e
    · rename_i hc
      split at e
      · rename_i c Pa hti
        cases e
        have h1 := List.all_eq_true.mp T0.tab r' hr'
        have hc : (r'.lam || r'.top == 0) = false := by simpa using hc
        rw [Bool.or_eq_false_iff] at hc
        rw [hc.1, hc.2, Bool.false_or, Bool.false_or, Bool.and_eq_true] at h1
        obtain ⟨e, he⟩ := Option.isSome_iff_exists.mp (show ((recsOf q).find? fun e => e.name == r'.x).isSome = true by rw [List.find?_isSome]; simpa using h1.2)
        exact hTab r'.x e c Pa he hti
      · cases e
  obtain ⟨f, fd, D⟩ := def_of KX G (map_all T0.fns r (List.mem_of_getElem? hr)) (List.all_eq_true.mp T0.fnc r (List.mem_of_getElem? hr)) (hb.get i hr)
  have e2 : mg d.name = some (.ref f) := by
    rw [hnm]
    exact D.mg
  rw [hmg] at e2
  cases e2
  refine ⟨fd, (tabsOf (K w.params) rows).map (fun t => (t.1, t.2.1)), spLaw (K w.params) ((tabsOf (K w.params) rows).map (·.2)) (callF (mkP fns globs kds subT fuel) kk i), fun p hp => ?_, fun p hp => ?_, fun p hp => ?_, fun s u => ?_, fun H a ns hlen hbits hH hS => ?_, fun base KB GB TB => ?_⟩
  · obtain ⟨t, ht, rfl⟩ := List.mem_map.mp hp
    exact (tabs t ht).2
  · obtain ⟨t, ht, rfl⟩ := List.mem_map.mp hp
    have := List.all_eq_true.mp T0.tabn t ht
    simpa using this
  · obtain ⟨t, ht, rfl⟩ := List.mem_map.mp hp
    exact (tabs t ht).1
  · have := D.bd [u] (by rw [hps]; rfl)
    rw [hps] at this
    exact .of_eq this
  · obtain ⟨st', e⟩ := runs ns hlen hbits
    refine ⟨a, ns, st', rfl, hS, tab_nil fun p hp => ?_, e, fun _ => rfl⟩
    obtain ⟨t, ht, rfl⟩ := List.mem_map.mp hp
    exact hH _ (List.mem_map.mpr ⟨t, ht, rfl⟩)
  · have X := text_of (fuel := fuel) T0 hd hck hb KX G (base := base) TB
    have F := prog_ok (Pr := l.prog) X kk i r _ fd hr hl D
    rw [hps] at F
    exact F.weak fun vs H Q E q => law_spQ q
end Itp
namespace HT
open PySem PySem.W PySem.Calls PyProof.Rows
/-! ### a run of the machine, as a wp -/
section
variable {p : PySem.Program} {w : World} {n₀ : Nat} {ann : Option Value}
theorem calm_through {t : Thread} (h : through t = true) : t.calm = true := by
  obtain ⟨cur, code, pos, st⟩ := t
  cases st with
  | cons _ _ => cases h
  | nil =>
    cases cur with
    | pure f =>
      cases f with
      | done f => rfl
      | again c => cases h
    | _ => cases h
/-- what came through has halted, each state ahead calm -/
theorem halted_of_top : ∀ {n : Nat} {s : Shared} {t : Thread} {s' : Shared}, topRun table p w n₀ ann n s t = some s' → leftWithCleanup s'.gens = false →
    ∃ k f, runN (denote table) p w k s t = .halted (.done f) s' ∧ ∀ j s₁ t₁, runN (denote table) p w j s t = .running s₁ t₁ → t₁.calm = true
  | 0, _, _, _, h, _ => by cases h
  | n + 1, s, t, s', h, hg => by
    unfold topRun at h
    cases ht : through t with
    | true =>
      rw [ht] at h
      have e : s = s' := Option.some.inj h
      subst e
      have hc := calm_through ht
      obtain ⟨cur, code, pos, st⟩ := t
      cases st with
      | cons _ _ => cases ht
      | nil =>
        cases cur with
        | pure f =>
          cases f with
          | again c => cases ht
          | done f =>
            have hs : step (denote table) p w s ⟨.pure (.done f), code, pos, []⟩ = .halt (.done f) s := by
              obtain ⟨hp, gs, d, k, os⟩ := s
              show PySem.finish (.done f) (⟨hp, gs, d, k, os⟩ : Shared) = _
              unfold PySem.finish
              have hg' : leftWithCleanup gs = false := hg
              simp only [hg']
              rfl
            refine ⟨1, f, ?_, fun j s₁ t₁ hj => ?_⟩
            · unfold PySem.runN
              rw [hs]
            · cases j with
              | zero =>
                injection hj with _ e
                exact e ▸ hc
              | succ j =>
                unfold PySem.runN at hj
                rw [hs] at hj
                cases hj
        | _ => cases ht
    | false =>
      rw [ht] at h
      cases hk : stepOk n₀ ann t with
      | false =>
        rw [hk] at h
        cases h
      | true =>
        rw [hk] at h
        have hc : t.calm = true := by
          unfold stepOk at hk
          exact (Bool.and_eq_true_iff.mp hk).1
        cases hs : step (denote table) p w s t with
        | halt o s₂ =>
          rw [hs] at h
          cases h
        | go s₂ t₂ =>
          rw [hs] at h
          obtain ⟨k, f, hr, hcs⟩ := halted_of_top (s := s₂) (t := t₂) h hg
          refine ⟨k + 1, f, ?_, fun j s₁ t₁ hj => ?_⟩
          · unfold PySem.runN
            rw [hs]
            exact hr
          · cases j with
            | zero =>
              injection hj with _ e
              exact e ▸ hc
            | succ j =>
              unfold PySem.runN at hj
              rw [hs] at hj
              exact hcs j s₁ t₁ hj
/-- .. as Runs, from no frame below -/
theorem runs_of_top {n : Nat} {s s' : Shared} {t : Sem Fin} {c : Code} {pos : Pos} {st : List Frame} (h : topRun table p w n₀ ann n s ⟨t, c, pos, st⟩ = some s') (hg : s'.gens = #[]) :
    ∃ f, Runs (model p w) (Ctx.of c []) pos t st s (.ret (.ok f)) s' := by
  obtain ⟨k, f, hr, hc⟩ := halted_of_top h (by rw [hg]; simp [leftWithCleanup])
  obtain ⟨s₂, hi, hf⟩ := runN_calm_runNI (denote table) p w hr hc
  have e : s' = s₂ := by
    have h1 : s₂.forget = s'.forget := hf.symm
    exact (Shared.eq_of_forget_eq h1 hg).symm
  subst e
  have hi' : (model p w).runN k s ⟨t, c, pos, st⟩ = .halted (outcomeOf (.ok f)) s' := hi
  exact ⟨f, reach_runs (halted_reach (M := model p w) (r := .ok f) k s t c pos st hi').1⟩
/-- the frame below a piece: only next goes on -/
def okF : Result → Sem Fin
  | .ok .next => .pure (.done .next)
  | _ => .unsupported "another end"
def fr (q : Pos) : Frame := .ret okF none false [] (.builtin "claim.caller" {}) q []
def nxt (m : Sem Flow) : Sem Fin := m >>= fun f => (.pure (.done f) : Sem Fin)
theorem runs_okF {Γ : Ctx} {pos : Pos} {r : Result} {s s' : Shared} {f : Flow} (h : Runs (model p w) Γ pos (okF r) [] s (.ret (.ok f)) s') : r = .ok .next ∧ s = s' := by
  unfold okF at h
  split at h
  · cases h
    exact ⟨rfl, rfl⟩
  · cases h
theorem okF_next {Γ : Ctx} {pos : Pos} {r : Result} {s s' : Shared} {f : Flow} (h : Runs (model p w) Γ pos (okF r) [] s (.ret (.ok f)) s') (hf : f ≠ .next) : False := by
  unfold okF at h
  split at h
  · cases h
    exact hf rfl
  · cases h
theorem wp_of_runs {Γ : Ctx} {m : Sem Flow} {pos : Pos} {s s' : Shared} (h : Runs (model p w) Γ pos (nxt m) [] s (.ret (.ok .next)) s') : Sem.wp (model p w) Γ m (fun f _ s₂ => f = .next ∧ s₂ = s') (fun _ _ _ => False) pos s := by
  have h1 := (Sem.wp_iff_runs (model p w) Γ (nxt m) (fun r s₂ => r = .ok .next ∧ s₂ = s') pos s).mpr ⟨_, _, h, rfl, rfl⟩
  unfold nxt at h1
  rw [Sem.wp_bind'] at h1
  refine Sem.wp_mono _ _ _ (fun f p' s₂ h2 => ?_) (fun e p' s₂ h2 => ?_) _ _ h1
  · have h3 : (Except.ok f : Result) = .ok .next ∧ s₂ = s' := h2
    exact ⟨by cases h3.1; rfl, h3.2⟩
  · have h3 : (Except.error e : Result) = .ok .next ∧ s₂ = s' := h2
    cases h3.1
theorem seg_ret {M : Model} {Γ : Ctx} {pos : Pos} {t : Sem Fin} {k h g l c₁ p₁ kp} {s s' : Shared} {r : Result} (x : Runs M Γ pos t [.ret k h g l c₁ p₁ kp] s (.ret r) s') :
    ∃ r₁ s₁, Runs M (Γ.over [.ret k h g l c₁ p₁ kp]) pos t [] s (.ret r₁) s₁ ∧ Runs M (Γ.goto c₁) p₁ (k r₁) [] s₁ (.ret r) s' := by
  cases x with
  | segRet a b => exact ⟨_, _, a, b⟩
  | segSuspGen hs => simp [splitAtGen] at hs
/-- a piece of a body -/
theorem wp_of_piece {n : Nat} {s s' : Shared} {m : Sem Flow} {c : Code} {pos q : Pos} (h : topRun table p w n₀ ann n s ⟨nxt m, c, pos, [fr q]⟩ = some s') (hg : s'.gens = #[]) :
    Sem.wp (model p w) (Ctx.of c [fr q]) m (fun f _ s₂ => f = .next ∧ s₂ = s') (fun _ _ _ => False) pos s := by
  obtain ⟨f, hr⟩ := runs_of_top h hg
  obtain ⟨r₁, s₁, a, b⟩ := seg_ret hr
  have b' : f = .next ∧ r₁ = .ok .next ∧ s₁ = s' := by
    cases f with
    | next => exact ⟨rfl, runs_okF b⟩
    | _ => exact False.elim (okF_next b (by simp))
  obtain ⟨rfl, rfl, rfl⟩ := b'
  exact wp_of_runs a
/-- a piece ahead of the body -/
theorem wp_of_head {n : Nat} {s s' : Shared} {m : Sem Flow} {c : Code} {pos : Pos} (h : topRun table p w n₀ ann n s ⟨m >>= fun f => okF (.ok f), c, pos, []⟩ = some s') (hg : s'.gens = #[]) :
    Sem.wp (model p w) (Ctx.of c []) m (fun f _ s₂ => f = .next ∧ s₂ = s') (fun _ _ _ => False) pos s := by
  obtain ⟨f, hr⟩ := runs_of_top h hg
  have h1 := (Sem.wp_iff_runs (model p w) (Ctx.of c []) _ (fun r s₂ => r = .ok f ∧ s₂ = s') pos s).mpr ⟨_, _, hr, rfl, rfl⟩
  rw [Sem.wp_bind'] at h1
  refine Sem.wp_mono _ _ _ (fun g p' s₂ h2 => ?_) (fun e p' s₂ h2 => ?_) _ _ h1
  · cases g with
    | next =>
      have h3 : (Except.ok Flow.next : Result) = .ok f ∧ s₂ = s' := h2
      exact ⟨rfl, h3.2⟩
    | _ => exact False.elim h2
  · have h3 : (Except.error e : Result) = .ok f ∧ s₂ = s' := h2
    cases h3.1
end
end HT
namespace HT
open PySem PySem.W PySem.Calls PyProof.Rows
section
variable {p : PySem.Program} {w : World}
abbrev bdy (p : PySem.Program) : List Stmt := behindTheImports p
def ev0 (p : PySem.Program) (cv : Value) (fv : Addr) : PySem.Env := { scope := p.main.scope, locals := mainNs, globals := mainNs, cells := [], code := cv, frame := some fv }
abbrev Γb (p : PySem.Program) (cv : Value) (fv : Addr) (q : Pos) : Ctx := Ctx.of (.body (bdy p) (ev0 p cv fv)) [fr q]
abbrev Γc : Ctx := Ctx.of (.builtin "claim.caller" {}) []
def mA (p : PySem.Program) (cv : Value) (fv : Addr) : Sem Flow := do
  let code ← moduleCode p.main
  let frame ← newBodyFrame code mainNs mainNs
  if code == cv && frame == fv then pure .next else unsupported "another code or frame"
def mB (b : List Stmt) (env : PySem.Env) : Sem Flow := do
  blockStart b env
  pure .next
abbrev NoE : Value → Pos → Shared → Prop := fun _ _ _ => False
abbrev Nx (S : Shared) : Flow → Pos → Shared → Prop := fun f _ s => f = .next ∧ s = S
theorem execs_app_wp {Γ : Ctx} {env : PySem.Env} {rest : List Stmt} {Q : Flow → Pos → Shared → Prop} {E : Value → Pos → Shared → Prop} : ∀ {l : List Stmt} {pos : Pos} {s : Shared},
    Sem.wp (model p w) Γ (execs l env) (fun f pos' s' => f = .next ∧ Sem.wp (model p w) Γ (execs rest env) Q E pos' s') E pos s → Sem.wp (model p w) Γ (execs (l ++ rest) env) Q E pos s
  | [], pos, s, h => h.2
  | a :: l, pos, s, h => by
    have h1 : Sem.wp (model p w) Γ (exec a env >>= fun f => (match f with | .next => execs l env | f => pure f : Sem Flow)) (fun f pos' s' => f = .next ∧ Sem.wp (model p w) Γ (execs rest env) Q E pos' s') E pos s := h
    show Sem.wp (model p w) Γ (exec a env >>= fun f => (match f with | .next => execs (l ++ rest) env | f => pure f : Sem Flow)) Q E pos s
    rw [Sem.wp_bind'] at h1 ⊢
    refine Sem.wp_mono _ _ _ (fun f p' s' h2 => ?_) (fun _ _ _ x => x) _ _ h1
    cases f with
    | next => exact execs_app_wp h2
    | _ => exact absurd h2.1 (by simp)
theorem execs_one_wp {Γ : Ctx} {env : PySem.Env} {st : Stmt} {rest : List Stmt} {Q : Flow → Pos → Shared → Prop} {E : Value → Pos → Shared → Prop} {pos : Pos} {s : Shared}
    (h : Sem.wp (model p w) Γ (exec st env) (fun f pos' s' => f = .next ∧ Sem.wp (model p w) Γ (execs rest env) Q E pos' s') E pos s) : Sem.wp (model p w) Γ (execs (st :: rest) env) Q E pos s := by
  show Sem.wp (model p w) Γ (exec st env >>= fun f => (match f with | .next => execs rest env | f => pure f : Sem Flow)) Q E pos s
  rw [Sem.wp_bind']
  refine Sem.wp_mono _ _ _ (fun f p' s' h2 => ?_) (fun _ _ _ x => x) _ _ h
  obtain ⟨rfl, h2⟩ := h2
  exact h2
theorem mB_wp {Γ : Ctx} {b : List Stmt} {env : PySem.Env} {S : Shared} {pos : Pos} {s : Shared} (h : Sem.wp (model p w) Γ (mB b env) (Nx S) NoE pos s) : Sem.wp (model p w) Γ (blockStart b env) (fun _ _ s' => s' = S) NoE pos s := by
  unfold mB at h
  rw [Sem.wp_bind'] at h
  exact Sem.wp_mono _ _ _ (fun _ _ _ x => x.2) (fun _ _ _ x => x) _ _ h
/-- the whole top -/
theorem top_wp {S0 SA : Shared} {G : Shared → Prop} {PB : Pos → Shared → Prop} {cv : Value} {fv : Addr} (hA : Sem.wp (model p w) Γc (mA p cv fv) (Nx SA) NoE default S0)
    (hB : ∀ q pos, Sem.wp (model p w) (Γb p cv fv q) (blockStart (bdy p) (ev0 p cv fv)) (fun _ _ s => PB q s) NoE pos SA)
    (hC : ∀ q pos s, PB q s → Sem.wp (model p w) (Γb p cv fv q) (execs (bdy p) (ev0 p cv fv)) (fun f _ s => f = .next ∧ G s) NoE pos s) :
    Sem.wp (model p w) Γc (topStub p).cur (Sem.finPost (model p w) Γc fun r s' => r = .ok (.ret .none) ∧ G s') NoE default S0 := by
  unfold mA at hA
  rw [Sem.wp_bind'] at hA
  show Sem.wp (model p w) Γc (moduleCode p.main >>= fun code => (do
      let frame ← newBodyFrame code mainNs mainNs
      let _ ← PySem.run (.body (behindTheImports p) { scope := p.main.scope, locals := mainNs, globals := mainNs, cells := [], code, frame := some frame })
      ret .none : Sem Fin)) _ _ default S0
  rw [Sem.wp_bind']
  refine Sem.wp_mono _ _ _ (fun code p1 s1 h1 => ?_) (fun _ _ _ x => x) _ _ hA
  rw [Sem.wp_bind'] at h1 ⊢
  refine Sem.wp_mono _ _ _ (fun frame p2 s2 h2 => ?_) (fun _ _ _ x => x) _ _ h1
  by_cases hc : (code == cv && frame == fv) = true
  · rw [if_pos hc] at h2
    obtain ⟨c1, c2⟩ := Bool.and_eq_true_iff.mp hc
    have e1 : code = cv := eq_of_beq c1
    have e2 : frame = fv := eq_of_beq c2
    subst e1 e2
    have e3 : s2 = SA := h2.2
    subst e3
    rw [Sem.wp_bind']
    show Sem.wp (model p w) Γc (.call (.body (bdy p) (ev0 p code frame)) none false [] fun r => (match r with | .ok f => .pure f | .error e => .raise e : Sem Flow)) _ _ p2 s2
    rw [Sem.wp_call]
    have hb : Sem.wp (model p w) (Γb p code frame p2) (denote table (.body (bdy p) (ev0 p code frame))) (Sem.finPost (model p w) (Γb p code frame p2) fun r s' => r = .ok .next ∧ G s') NoE p2 s2 := by
      show Sem.wp (model p w) (Γb p code frame p2) (blockStart (bdy p) (ev0 p code frame) >>= (fun _ => (execs (bdy p) (ev0 p code frame)).onRaise (leaving (ev0 p code frame)) >>= fun f => (Sem.pure (Fin.done f) : Sem Fin))) _ _ _ _
      rw [Sem.wp_bind']
      refine Sem.wp_mono _ _ _ (fun _ p3 s3 h3 => ?_) (fun _ _ _ x => x) _ _ (hB p2 p2)
      rw [Sem.wp_bind', Sem.wp_onRaise]
      refine Sem.wp_mono _ _ _ (fun f p4 s4 h4 => ?_) (fun _ _ _ x => x.elim) _ _ (hC p2 p3 s3 h3)
      obtain ⟨rfl, h4⟩ := h4
      exact ⟨rfl, h4⟩
    have hr := (Sem.wp_iff_runs (model p w) (Γb p code frame p2) (denote table (.body (bdy p) (ev0 p code frame))) (fun r s' => r = .ok .next ∧ G s') p2 s2).mp (Sem.wp_mono _ _ _ (fun _ _ _ x => x) (fun _ _ _ x => x.elim) _ _ hb)
    obtain ⟨r, s', hr, rfl, hG⟩ := hr
    refine ⟨.ok .next, s', hr, ?_⟩
    exact ⟨rfl, hG⟩
  · rw [if_neg hc] at h2
    exact h2.elim
end
end HT
namespace HT
open PySem PySem.W PySem.Calls PyProof.Rows
section
variable {p : PySem.Program} {w : World}
theorem last_step {den : Code → Sem Fin} : ∀ {n : Nat} {s : Shared} {t : Thread} {o : Outcome} {s' : Shared}, runN den p w n s t = .halted o s' → ∃ k s₁ t₁, runN den p w k s t = .running s₁ t₁ ∧ step den p w s₁ t₁ = .halt o s'
  | 0, _, _, _, _, h => by cases h
  | n + 1, s, t, o, s', h => by
    unfold PySem.runN at h
    cases hs : step den p w s t with
    | go s₂ t₂ =>
      rw [hs] at h
      obtain ⟨k, s₁, t₁, a, b⟩ := last_step h
      refine ⟨k + 1, s₁, t₁, ?_, b⟩
      unfold PySem.runN
      rw [hs]
      exact a
    | halt o₂ s₂ =>
      rw [hs] at h
      cases h
      exact ⟨0, s, t, rfl, hs⟩
theorem through_of_halt {den : Code → Sem Fin} {s s' : Shared} {t : Thread} {f : Flow} (h : step den p w s t = .halt (.done f) s') : through t = true := by
  obtain ⟨heap, gens, drawn, toks, os⟩ := s
  obtain ⟨cur, code, pos, st⟩ := t
  cases cur with
  | pure x =>
    cases x with
    | done g =>
      cases st with
      | nil => rfl
      | cons F r => cases F <;> (simp only [step] at h; cases h)
    | again c => cases st <;> (try rename_i F r; cases F) <;> (simp only [step] at h; (repeat' split at h) <;> cases h)
  | _ => simp only [step, PySem.finish] at h <;> (repeat' split at h) <;> cases h
/-- the whole top, run -/
theorem top_sched {S0 : Shared} {G : Shared → Prop} (h : Sem.wp (model p w) Γc (topStub p).cur (Sem.finPost (model p w) Γc fun r s' => r = .ok (.ret .none) ∧ G s') NoE default S0) (hg : ∀ s, G s → s.gens = #[]) (hz : S0.asleep) :
    ∃ S3, G S3 ∧ (∃ n t, schedN (denote table) p w n (.single S0 (topStub p)) = .running (.single S3 t) ∧ through t = true) ∧ S3.heap.life = S0.heap.life := by
  have h' : Sem.wp (model p w) ⟨.builtin "claim.caller" {}, none, none, [], none⟩ (topStub p).cur (Sem.finPost (model p w) ⟨.builtin "claim.caller" {}, none, none, [], none⟩ fun r s' => (r = .ok (.ret .none) ∧ G s') ∧ leftWithCleanup s'.gens = false)
      (fun e _ s' => ((.error e : Result) = .ok (.ret .none) ∧ G s') ∧ leftWithCleanup s'.gens = false) default S0 :=
    Sem.wp_mono _ _ _ (fun fin p' s' x => PySem.finPost_mono (fun r s y => ⟨y, by rw [hg s y.2]; simp [leftWithCleanup]⟩) x) (fun _ _ _ x => x.elim) _ _ h
  obtain ⟨n, r, s', hn, rfl, hG⟩ := (wp_iff_halts (M := model p w) (c := .builtin "claim.caller" {}) (topStub p).cur (fun r s' => r = .ok (.ret .none) ∧ G s') default S0).mp h'
  have hn' : runNI (denote table) p w n S0 (topStub p) = .halted (outcomeOf (.ok (.ret .none))) s' := hn
  obtain ⟨s₂, hr, hf, hc⟩ := runNI_real _ _ _ hn' (outcomeOf_ends _)
  have e : s₂ = s' := Shared.eq_of_forget_eq hf (hg _ hG)
  subst e
  obtain ⟨k, s₁, t₁, ha, hb⟩ := last_step hr
  have e1 := step_halt_same _ _ _ _ _ _ _ hb
  subst e1
  have ht : through t₁ = true := through_of_halt hb
  have hne : ∀ j s₃, runN (denote table) p w j S0 (topStub p) ≠ .halted (.unsupported "lifetime:generator-with-cleanup-left-suspended") s₃ := by
    intro j s₃ hj
    have a := runN_mono (denote table) p w n j S0 (topStub p) _ _ hr
    have b := runN_mono (denote table) p w j n S0 (topStub p) _ s₃ hj
    rw [Nat.add_comm, b] at a
    injection a with a1 _
    cases a1
  have hs := schedN_eq_runN (denote table) p w S0 (topStub p) hz ⟨hc, hne⟩ k
  rw [ha] at hs
  exact ⟨_, hG, ⟨k, t₁, hs, ht⟩, runN_life _ _ _ hr⟩
end
/-- what is known behind the top -/
def Behind (p q : PySem.Program) (loose : List Str) (XP : (Str → Option Value) → Heap → Prop) (YP : World → Heap → Prop) : Prop :=
  ∀ w : World, (∃ s, AfterRun (opening p) w s) ∧ ∀ s, AfterRun (opening p) w s → ∃ s₀, fenceModules? p s = some s₀ ∧ s₀.gens = #[] ∧ ∃ s₁, TopRan p w s₀ s₁ ∧ s₁.asleep ∧ s₁.gens = #[] ∧ s₁.heap.isNs mainGlobals = true ∧
      Ground q loose [] XP w s₁ (s₁.heap.nsMap mainGlobals) (s₁.heap.nsMap builtinsNs) s₁.heap ∧ YP w s₁.heap
/-- the state ahead of the top -/
structure Opened (p : PySem.Program) (w : World) (ann : Option Value) (S0 : Shared) : Prop where
  imp : ∃ s, AfterRun (opening p) w s ∧ fenceModules? p s = some S0
  gens : S0.gens = #[]
  ns : S0.heap.isNs mainGlobals = true
  ann : S0.heap.nsMap mainGlobals "__annotations__" = ann
theorem Opened.asleep {p : PySem.Program} {w : World} {ann : Option Value} {S0 : Shared} (O : Opened p w ann S0) : S0.asleep := by
  obtain ⟨s, A, hf⟩ := O.imp
  exact Shared.asleep_of_life (fence_lifeW hf) (AfterImport.life A)
/-- what the run has to show -/
structure Ran (p q : PySem.Program) (loose : List Str) (Xt : Shared → Bool) (YP : World → Heap → Prop) (w : World) (ann : Option Value) (S0 S3 : Shared) : Prop where
  gens : S3.gens = #[]
  os : S3.os = S0.os
  kept : ∀ b o, b < S0.heap.objs.size → b ≠ mainNs → b ≠ cStatics → ann ≠ some (.ref b) → S0.heap.get? b = some o → S3.heap.get? b = some o
  looks : (staticsOk (importedModules p.main.body) S0.heap S3.heap && namesBound p S3.heap && laidKept S0.heap S3.heap) = true
  seen : openSeen q loose (importedModules p.main.body) Xt true S3 = openGood q loose
  says : YP w S3.heap
def Runs3 (p q : PySem.Program) (loose : List Str) (Xt : Shared → Bool) (YP : World → Heap → Prop) (w : World) (ann : Option Value) (S0 : Shared) : Prop :=
  Sem.wp (model p w) Γc (topStub p).cur (Sem.finPost (model p w) Γc fun r s' => r = .ok (.ret .none) ∧ Ran p q loose Xt YP w ann S0 s') NoE default S0
theorem behind_of {p q : PySem.Program} {loose : List Str} {Xt : Shared → Bool} {XP : (Str → Option Value) → Heap → Prop} {YP : World → Heap → Prop}
    (hX : ∀ s, Xt s = true → XP (s.heap.nsMap mainGlobals) s.heap) (hch : chainsOk q = true) (run : ∀ w, ∃ ann S0, Opened p w ann S0 ∧ Runs3 p q loose Xt YP w ann S0) : Behind p q loose XP YP := fun w => by
  obtain ⟨ann, S0, O, ru⟩ := run w
  have z := O.asleep
  obtain ⟨s, A, hfe⟩ := O.imp
  refine ⟨⟨s, A⟩, fun s2 hs2 => ?_⟩
  have es : s2 = s := AfterImport.unique hs2 A
  subst es
  obtain ⟨S3, R, hr, hl⟩ := top_sched ru (fun _ R => R.gens) z
  have hlk := R.looks
  simp only [Bool.and_eq_true] at hlk
  obtain ⟨⟨l1, l2⟩, l3⟩ := hlk
  obtain ⟨G, _, g1, g2, g3, g4, g5⟩ := ground_of_open (w := w) hX hch R.seen
  refine ⟨_, hfe, O.gens, S3, ⟨hr, hl, Shared.rest_eq R.os, fun b o hb' hn => R.kept b o (Heap.lt_size hb') (fun y => hn (.inl y)) (fun y => hn (.inr (.inl y))) (fun y => hn (.inr (.inr ((Pin.globalOf_eq O.ns _).trans (O.ann.trans y))))) hb', g2, statics_of_ok l1, g3, g4, g5, ?_, names_of_bound l2, laid_of_kept l3⟩, Shared.asleep_of_life hl z, R.gens, g1, G, R.says⟩
  intro g hgm
  rw [R.gens] at hgm
  simp at hgm
end HT
namespace HT
open PySem PySem.W PySem.Calls PyProof.Rows
def lawTree (nm : Str) (vs : List Value) : Sem Fin := do
  match ← nsGet mainNs nm with
  | some f => do
    let v ← PySem.call f vs
    ret v
  | none => unsupported "claim.caller:no-such-global"
theorem lawTree_of {p : PySem.Program} {w : World} {nm : Str} {vs : List Value} {s : Shared} {mg : Str → Option Value} {f : Value} {Q : PySem.Fin → Shared → Prop} {E : Value → Shared → Prop}
    (hg : s.heap.Ns mainGlobals mg) (hf : mg nm = some f) (h : wpAny (model p w) callerA (PySem.call f vs) (fun v s' => Q (.done (.ret v)) s') E s) : wpAny (model p w) callerA (lawTree nm vs) Q E s := by
  unfold lawTree
  refine wpAny_bind (wpAny_nsGet hg ?_)
  rw [hf]
  refine wpAny_bind (wpAny_mono h (fun v s' x => ?_) fun _ _ x => x)
  exact wpAny_pure x
/-- a law from what is known behind its top -/
theorem holds_behind {r : OpenRow} {q : PySem.Program} {loose : List Str} {XP : (Str → Option Value) → Heap → Prop} {YP : World → Heap → Prop} {d : DefRec} {kwd : List (Str × PySem.Expr)}
    (bh : Behind r.prog q loose XP YP) (hYk : ∀ w h h', YP w h → (∀ b o, h.get? b = some o → h'.get? b = some o) → YP w h') (hXk : ∀ mg h h', XP mg h → (∀ b o, h.get? b = some o → h'.get? b = some o) → XP mg h')
    (hdef : defOf q r.name = some (d, kwd)) (hp : r.prog.theDef r.name = some (d.params, d.body, d.scope)) (hk : kwWritten? d.params.kwonlyargs d.params.kw_defaults = some kwd) (hrec : r.records = [])
    (k1 : r.wellSaid = true) (ok1 : opensWell r.prog = true) (ok2 : (frees r.toRowW && r.within.isEmpty) = true) (hb : r.prog.bare) (hw : r.toRowW.promised)
    (walk : WalkO q loose XP YP r.toRowW d kwd fun f vs => PySem.call f vs) : r.Holds := by
  obtain ⟨ok3, ok4⟩ := Bool.and_eq_true_iff.mp ok2
  obtain ⟨f1, f2, f3, f4, f5⟩ := frees_parts ok3
  have idt := ident_freeW f2 f3 f4
  have wi : r.toRowW.claim.within = [] := List.isEmpty_iff.mp ok4
  refine ⟨k1, hw, ⟨hb, ok1, ?_⟩, hw.witness, fun w => ?_⟩
  · show r.makers.map _ = []
    rw [f5]
    rfl
  refine ⟨(bh w).1, fun s hs => ?_⟩
  obtain ⟨sOpen, e1, e2, sTop, ran, zz, ng, mainIs, gr, says⟩ := (bh w).2 s hs
  have RF : RecFacts r.records sTop.heap := recFacts_nil hrec
  have gr2 := RF.ground gr
  refine ⟨sOpen, e1, e2, sTop, ran, fun n hn => ?_, RF.1, RF.2.1, ?_⟩
  · have en : n = r.name := by
      by_cases hpin : r.pinned = true
      · rw [if_pos hpin] at hn
        simpa using hn
      · rw [if_neg hpin] at hn
        simp at hn
    subst en
    exact pinned_of_view mainIs gr hdef hp hk
  · refine ClaimW.callFrom_of_specG (c := r.toRowW.claim) (tree := lawTree r.name) zz ng fun args a1 a2 ord a3 => ?_
    obtain ⟨⟨vals, sLaid⟩, laid⟩ := Option.isSome_iff_exists.mp (layAllW_isSome (P := w.params) (ord := ord) gr2.has args r.args sTop (pre_splitW a1).1)
    have old := layAllW_keeps _ _ _ laid
    have rest := layAllW_rest _ _ _ laid
    obtain ⟨as, b1, b2, b3⟩ := reads_layAllW a3 _ _ _ laid a2 sLaid.heap (fun _ _ e => e)
    have L : Laid r.records w sTop sLaid args vals as := ⟨⟨ord, a3, laid⟩, b1, b2, b3, old, rest.1.trans ng, rest.2.2.1⟩
    have gr3 := gr2.keeps hXk old
    obtain ⟨a, o, pm, cd, doc, dV, kV, c1, c2, c3, c4, c5⟩ := gr3.fn hdef
    have hm : sTop.heap.nsMap mainGlobals d.name = some (.ref a) := (defOf_name hdef).symm ▸ c1
    have run := walk w sTop sLaid _ _ gr3 (hYk _ _ _ says old) a o pm cd doc dV kV c2 c3 c4 c5 hm L.gens args vals as a1 a2 L.reads L.well (L.low gr.low)
    refine ⟨vals, sLaid, laid, lawTree_of gr3.T.g c1 (wpAny_mono run (fun v s' g => ?_) fun e s' g => ?_)⟩
    · have en := g.laid (c := r.toRowW.claim) f1 wi idt L
      exact ⟨_, rfl, en.1, en.2.1, en.2.2, fun hwr => ⟨namesKept_of ran mainIs r.keeps old g.2.1.old, fun x hx => absurd (show x ∈ r.records from hx) (by rw [hrec]; simp)⟩⟩
    · have en := g.laid (c := r.toRowW.claim) f1 wi idt L
      exact ⟨en.1, en.2.1, en.2.2, fun hwr => ⟨namesKept_of ran mainIs r.keeps old g.2.1.old, fun x hx => absurd (show x ∈ r.records from hx) (by rw [hrec]; simp)⟩⟩
end HT
noncomputable section
namespace HT
open PySem PySem.W PySem.Calls PyProof.Rows HeadRun
/-! ### the library's twins -/
def execsQ : List Stmt → PySem.Env → Sem Flow := PySem.W.Fast.tw12563942051412417395
theorem execsQ_eq : @PySem.execs = execsQ := PySem.W.Fast.te12563942051412417395
def blockQ : List Stmt → PySem.Env → Sem Unit := PySem.W.Fast.tw1066825118222455980
theorem blockQ_eq : @PySem.blockStart = blockQ := PySem.W.Fast.te1066825118222455980
def codeQ : (m : Module) → PySem.Str → Option Nat → Sem Value := fun m f n => PySem.W.Fast.tw17154629097778926822 m f n
theorem codeQ_eq (m : Module) (f : PySem.Str) (n : Option Nat) : PySem.moduleCode m f n = codeQ m f n := congrFun (congrFun (congrFun PySem.W.Fast.te17154629097778926822 m) f) n
def frameQ : Value → Addr → Addr → Addr → Sem Addr := fun a b c d => PySem.W.Fast.tw12822647523644345616 a b c d
theorem frameQ_eq (a : Value) (b c d : Addr) : PySem.newBodyFrame a b c d = frameQ a b c d := congrFun (congrFun (congrFun (congrFun PySem.W.Fast.te12822647523644345616 a) b) c) d
def mAQ (p : PySem.Program) (cv : Value) (fv : Addr) : Sem Flow := do
  let code ← codeQ p.main p.main.file none
  let frame ← frameQ code mainNs mainNs builtinsNs
  if code == cv && frame == fv then pure .next else unsupported "another code or frame"
theorem mAQ_eq (p : PySem.Program) (cv : Value) (fv : Addr) : mA p cv fv = mAQ p cv fv := by
  unfold mA mAQ
  simp only [codeQ_eq, frameQ_eq]
def mBQ (b : List Stmt) (env : PySem.Env) : Sem Flow := do
  blockQ b env
  pure .next
theorem mBQ_eq (b : List Stmt) (env : PySem.Env) : mB b env = mBQ b env := by
  unfold mB mBQ
  rw [← blockQ_eq]
/-! ### the machine over the heap as a tree -/
section
variable {p : PySem.Program} {w : World}
def goQ (p : PySem.Program) (w : World) (n0 : Nat) (ann : Option Value) (M : Nat) (s : SharedT) (t : Thread) : Option SharedT := goF (stepQ (denQ tabQ) p w) n0 ann M s t
theorem goQ_ok {n0 : Nat} {ann : Option Value} {M : Nat} {s s' : SharedT} {t : Thread} (h : goQ p w n0 ann M s t = some s') : topRun table p w n0 ann M s.abs t = some s'.abs := by
  unfold goQ at h
  rw [← stepQ_eq, ← denQ_eq, ← tabQ_eq] at h
  rw [table_eq_tree]
  exact goF_ok h
/-- the boot, the imports, the fences -/
def openQ (p : PySem.Program) (w : World) (n0 : Nat) (ann : Option Value) (M : Nat) : Option SharedT := match impF (stepQ (denQ tabQ) (opening p) w) M (startT (opening p)) (start (opening p)).2 with
  | none => none
  | some s => match fenceQ p s.abs with
    | none => none
    | some s0 => match s0.heap.isNs mainGlobals && ((s0.gens.size == 0) && decide (s0.heap.nsMap mainGlobals "__annotations__" = ann)) with
      | false => none
      | true => match treeOf s0 with
        | none => none
        | some x => match Nat.beq x.n n0 with
          | false => none
          | true => frS x fun x => some x
theorem openQ_ok {n0 : Nat} {ann : Option Value} {M : Nat} {x : SharedT} (h : openQ p w n0 ann M = some x) : Opened p w ann x.abs ∧ x.abs.heap.objs.size = n0 := by
  unfold openQ at h
  rw [← stepQ_eq, ← denQ_eq, ← tabQ_eq, ← fenceQ_eq] at h
  split at h
  · cases h
  rename_i s e1
  split at h
  · cases h
  rename_i s0 e2
  split at h
  · cases h
  rename_i e3
  split at h
  · cases h
  rename_i y e4
  split at h
  · cases h
  rename_i e5
  rw [frS_eq] at h
  cases h
  have a1 := impF_ok e1
  rw [startT_eq, ← table_eq_tree] at a1
  obtain ⟨ex, en⟩ := treeOf_eq e4
  simp only [Bool.and_eq_true, decide_eq_true_eq, beq_iff_eq] at e3
  obtain ⟨e3, e6, e7⟩ := e3
  rw [ex]
  refine ⟨⟨⟨_, AfterImport.of_importEnds a1, e2⟩, Array.eq_empty_of_size_eq_zero e6, e3, e7⟩, ?_⟩
  rw [en]
  exact Nat.eq_of_beq_eq_true e5
/-- what stays -/
structure Kp (n0 : Nat) (ann : Option Value) (s s' : Shared) : Prop where
  life : s'.heap.life = s.heap.life
  os : s'.os = s.os
  kept : ∀ b o, b < n0 → b ≠ mainNs → b ≠ cStatics → ann ≠ some (.ref b) → s.heap.get? b = some o → s'.heap.get? b = some o
theorem Kp.trans {n0 : Nat} {ann : Option Value} {a b c : Shared} (x : Kp n0 ann a b) (y : Kp n0 ann b c) : Kp n0 ann a c :=
  ⟨y.life.trans x.life, y.os.trans x.os, fun i o h1 h2 h3 h4 h5 => y.kept i o h1 h2 h3 h4 (x.kept i o h1 h2 h3 h4 h5)⟩
theorem kp_top {n0 : Nat} {ann : Option Value} {M : Nat} {s s' : Shared} {t : Thread} (z : s.asleep) (h : topRun table p w n0 ann M s t = some s') : Kp n0 ann s s' := by
  obtain ⟨_, l, o, f⟩ := topRun_spec _ _ _ _ z h
  exact ⟨l, o, fun b o h1 h2 h3 h4 h5 => f b o h1 h2 h3 h4 h5⟩
theorem Kp.asleep {n0 : Nat} {ann : Option Value} {s s' : Shared} (x : Kp n0 ann s s') (z : s.asleep) : s'.asleep := Shared.asleep_of_life x.life z
/-- what the last state shows -/
structure Shown (p q : PySem.Program) (loose : List Str) (Xt : Shared → Bool) (YP : World → Heap → Prop) (w : World) (S0 s : Shared) : Prop where
  gens : s.gens = #[]
  looks : (staticsOk (importedModules p.main.body) S0.heap s.heap && namesBound p s.heap && laidKept S0.heap s.heap) = true
  seen : openSeen q loose (importedModules p.main.body) Xt true s = openGood q loose
  says : YP w s.heap
theorem ran_of {q : PySem.Program} {loose : List Str} {Xt : Shared → Bool} {YP : World → Heap → Prop} {n0 : Nat} {ann : Option Value} {S0 s : Shared} (hn : S0.heap.objs.size = n0) (k : Kp n0 ann S0 s) (x : Shown p q loose Xt YP w S0 s) : Ran p q loose Xt YP w ann S0 s :=
  ⟨x.gens, k.os, fun b o h1 h2 h3 h4 h5 => k.kept b o (by rw [← hn]; exact h1) h2 h3 h4 h5, x.looks, x.seen, x.says⟩
theorem top_gens {n₀ : Nat} {ann : Option Value} : ∀ {n : Nat} {s : Shared} {t : Thread} {s' : Shared}, topRun table p w n₀ ann n s t = some s' → s.gens.size ≤ s'.gens.size
  | 0, _, _, _, h => by cases h
  | n + 1, s, t, s', h => by
    unfold topRun at h
    split at h
    · cases h
      exact Nat.le_refl _
    · split at h
      · cases h
      · cases hs : step (denote table) p w s t with
        | halt o s₂ =>
          rw [hs] at h
          cases h
        | go s₂ t₂ =>
          rw [hs] at h
          exact Nat.le_trans (step_size hs) (top_gens h)
theorem gens_down {n0 : Nat} {ann : Option Value} {M : Nat} {s s' : SharedT} {t : Thread} (h : goQ p w n0 ann M s t = some s') (g : s'.gens = #[]) : s.gens = #[] := by
  have le : s.gens.size ≤ s'.gens.size := top_gens (goQ_ok h)
  rw [g] at le
  exact Array.eq_empty_of_size_eq_zero (Nat.le_zero.mp le)
/-- the head of the top: the code, the frame, the block's start -/
def headA (p : PySem.Program) (w : World) (n0 : Nat) (ann : Option Value) (M : Nat) (cv : Value) (fv : Addr) (s0 : SharedT) : Option SharedT := goQ p w n0 ann M s0 ⟨mAQ p cv fv >>= fun f => okF (.ok f), .builtin "claim.caller" {}, default, []⟩
def headB (p : PySem.Program) (w : World) (n0 : Nat) (ann : Option Value) (M : Nat) (cv : Value) (fv : Addr) (q pB : Pos) (sA : SharedT) : Option SharedT := goQ p w n0 ann M sA ⟨nxt (mBQ (bdy p) (ev0 p cv fv)), .body (bdy p) (ev0 p cv fv), pB, [fr q]⟩
/-- a piece of the body -/
def bodyC (p : PySem.Program) (w : World) (n0 : Nat) (ann : Option Value) (M : Nat) (cv : Value) (fv : Addr) (q pC : Pos) (b : List Stmt) (s : SharedT) : Option SharedT := goQ p w n0 ann M s ⟨nxt (execsQ b (ev0 p cv fv)), .body (bdy p) (ev0 p cv fv), pC, [fr q]⟩
theorem runs3_of {q : PySem.Program} {loose : List Str} {Xt : Shared → Bool} {YP : World → Heap → Prop} {n0 : Nat} {ann : Option Value} {M : Nat} {cv : Value} {fv : Addr} {s0 sA : SharedT} (O : Opened p w ann s0.abs) (eA : headA p w n0 ann M cv fv s0 = some sA) (gA : sA.gens = #[])
    (h0 : ∀ qp pB, ∃ sB, headB p w n0 ann M cv fv qp pB sA = some sB ∧ sB.gens = #[])
    (h1 : ∀ qp pB sB, headB p w n0 ann M cv fv qp pB sA = some sB → Kp n0 ann s0.abs sB.abs → sB.abs.asleep → ∀ pC, Sem.wp (model p w) (Γb p cv fv qp) (execs (bdy p) (ev0 p cv fv)) (fun f _ s => f = .next ∧ Ran p q loose Xt YP w ann s0.abs s) NoE pC sB.abs) :
    Runs3 p q loose Xt YP w ann s0.abs := by
  have tA := goQ_ok eA
  have kA := kp_top O.asleep tA
  have wA := wp_of_head tA (show sA.abs.gens = #[] from gA)
  rw [← mAQ_eq] at wA
  refine top_wp (PB := fun qp s => ∃ pB sB, headB p w n0 ann M cv fv qp pB sA = some sB ∧ s = sB.abs) wA (fun qp pos => ?_) (fun qp pos s hs => ?_)
  · obtain ⟨sB, e, g⟩ := h0 qp pos
    have tB := goQ_ok e
    have wB := wp_of_piece tB (show sB.abs.gens = #[] from g)
    rw [← mBQ_eq] at wB
    exact Sem.wp_mono _ _ _ (fun _ _ s x => ⟨pos, sB, e, x⟩) (fun _ _ _ x => x) _ _ (mB_wp wB)
  · obtain ⟨pB, sB, e, rfl⟩ := hs
    have tB := goQ_ok e
    have k := kA.trans (kp_top (kA.asleep O.asleep) tB)
    exact h1 qp pB sB e k (k.asleep O.asleep) pos
/-- a piece of the body, run by the machine -/
theorem body_wp {n0 : Nat} {ann : Option Value} {M : Nat} {s s' : SharedT} {b : List Stmt} {cv : Value} {fv : Addr} {qp pos : Pos} (h : bodyC p w n0 ann M cv fv qp pos b s = some s') (g : s'.gens = #[]) :
    Sem.wp (model p w) (Γb p cv fv qp) (execs b (ev0 p cv fv)) (Nx s'.abs) NoE pos s.abs := by
  have x := wp_of_piece (goQ_ok h) (show s'.abs.gens = #[] from g)
  rw [← execsQ_eq] at x
  exact x
/-- a text whose top the machine runs through: one chain -/
def chainP (p : PySem.Program) (w : World) (n0 : Nat) (ann : Option Value) (M : Nat) (cv : Value) (fv : Addr) (q pB pC : Pos) : Option (SharedT × SharedT) := match openQ p w n0 ann M with
  | none => none
  | some s0 => match headA p w n0 ann M cv fv s0 with
    | none => none
    | some sA => match headB p w n0 ann M cv fv q pB sA with
      | none => none
      | some sB => match bodyC p w n0 ann M cv fv q pC (bdy p) sB with
        | none => none
        | some s3 => some (s0, s3)
theorem plain_runs {q : PySem.Program} {loose : List Str} {Xt : Shared → Bool} {YP : World → Heap → Prop} {n0 : Nat} {ann : Option Value} {M : Nat} {cv : Value} {fv : Addr}
    (h : ∀ qp pB pC, ∃ s0 s3, chainP p w n0 ann M cv fv qp pB pC = some (s0, s3) ∧ Shown p q loose Xt YP w s0.abs s3.abs) : ∃ ann S0, Opened p w ann S0 ∧ Runs3 p q loose Xt YP w ann S0 := by
  have parts : ∀ qp pB pC, ∃ s0 sA sB s3, openQ p w n0 ann M = some s0 ∧ headA p w n0 ann M cv fv s0 = some sA ∧ headB p w n0 ann M cv fv qp pB sA = some sB ∧ bodyC p w n0 ann M cv fv qp pC (bdy p) sB = some s3 ∧ s3.gens = #[] ∧ Shown p q loose Xt YP w s0.abs s3.abs := fun qp pB pC => by
    obtain ⟨s0, s3, e, sh⟩ := h qp pB pC
    unfold chainP at e
    split at e
    · cases e
    rename_i y0 e0
    split at e
    · cases e
    rename_i yA eA
    split at e
    · cases e
    rename_i yB eB
    split at e
    · cases e
    rename_i y3 e3
    cases e
    exact ⟨_, _, _, _, e0, eA, eB, e3, sh.gens, sh⟩
  obtain ⟨s0, sA, sB, s3, e0, eA, eB, e3, g3, _⟩ := parts default default default
  obtain ⟨O, hn⟩ := openQ_ok e0
  have gA : sA.gens = #[] := gens_down eB (gens_down e3 g3)
  refine ⟨ann, s0.abs, O, runs3_of O eA gA (fun qp pB => ?_) (fun qp pB sB' hB k z pC => ?_)⟩
  · obtain ⟨_, _, sB', _, e0', eA', eB', e3', g3', _⟩ := parts qp pB default
    rw [e0] at e0'
    cases e0'
    rw [eA] at eA'
    cases eA'
    exact ⟨_, eB', gens_down e3' g3'⟩
  · obtain ⟨_, _, sB2, s32, e0', eA', eB', e3', g3', sh⟩ := parts qp pB pC
    rw [e0] at e0'
    cases e0'
    rw [eA] at eA'
    cases eA'
    rw [hB] at eB'
    cases eB'
    have x := body_wp e3' g3'
    have k3 := k.trans (kp_top z (goQ_ok e3'))
    exact Sem.wp_mono _ _ _ (fun _ _ s y => ⟨y.1, y.2 ▸ ran_of hn k3 sh⟩) (fun _ _ _ y => y) _ _ x
end
end HT
noncomputable section
namespace Itp
open L2 PySem.Spec PyProof.Rows PySem
theorem walk_ofK {l : PySem.W.OpenLaw} {n k : Nat} {q : PySem.Program} {loose : List Str} {XP : (Str → Option Value) → Heap → Prop} {YP : World → Heap → Prop} {d : DefRec} {KP : World → PySem.W.Frag → Prop} {CX : World → CXT} {x : Str} (hn : l.most = some n) (hn2 : n ≤ sizeLine) (hdf : d.params.defaults = []) (hr : Room k PySem.callerA)
    (hY : ∀ (w : World) (h : Heap), YP w h → ∃ K : PySem.W.Frag, K.In h ∧ KP w K)
    (F : ∀ (w : World) (mg : Str → Option Value) (fa : Addr) (h : Heap) (K : PySem.W.Frag), KP w K → K.In h → h.Ns mainGlobals mg → mg d.name = some (.ref fa) → (∀ (y : Str) (e : DefRec) (c Pa : Addr), (recsOf q).find? (fun e => e.name == y) = some e → PySem.W.tabIn K y = some (c, Pa) → PySem.W.CodeHd h c Pa ∧ h.get? Pa = some (PySem.W.tabObj #[])) → ∃ (fd : FuncData) (cs : List (Addr × Addr)) (sp : Sp),
      (∀ p ∈ cs, h.get? p.2 = some (PySem.W.tabObj #[])) ∧ (∀ p ∈ cs, K.lookup p.2 = none) ∧ (∀ p ∈ cs, PySem.W.CodeHd h p.1 p.2) ∧ (∀ (s : Shared) (u : Value), BindsTo s fd { pos := [u] } [(x, u)]) ∧
      (∀ (H : Hp) (a : Addr) (ns : List Int), ns.length ≤ n → (∀ z ∈ ns, Builtin.Int.intBits z ≤ 1048576) → (∀ p ∈ cs, H p.2 = some (.tbl #[])) → SqL K H a (ns.map V.int) → sp [.ref a] H (fun v _ => v = .bl true) fun _ _ _ => False) ∧
      ∀ base : Heap, K.In base → base.Ns mainGlobals mg → (∀ p ∈ cs, LamX.TabB base mg p.1 p.2) → FnG l.prog w K mg base (CX w) k fa fd [x] sp)
    (hCX : ∀ (w : World) (H : Hp) (s : Shared) (e : Value) (s' : Shared), CX w [] H s (fun _ _ _ => False) e s' → False) :
    PySem.W.WalkO q loose XP YP l.row.toRowW d [] fun f vs => call f vs := by
  refine Att.attach_callB hn hdf fun w s₀ s₁ mg mb fa o pm cd doc a vs ns G Y ho hd hcd hmg hobj hints hlen hbits hg => ?_
  obtain ⟨K, KX, kp⟩ := hY w s₁.heap Y
  obtain ⟨fd, cs, sp, hT, nT, C, hb, hsp, hF⟩ := F w mg fa s₁.heap K kp KX G.T.g hmg fun y e c Pa h1 h2 => PySem.W.tab_of G.T KX h1 h2
  exact law_callG KX G.T.g G.T.b G.T.builtins G.T.nolimit hg hT nT C G.T.bmain hobj hints (Nat.le_trans hlen hn2) hr hF hb (fun H hH hS => hsp H a ns hlen hbits hH hS) fun H e s' => hCX w H s₁ e s'
theorem walk_mkK {l : PySem.W.OpenLaw} {n kk i : Nat} {q : PySem.Program} {loose : List Str} {XP : (Str → Option Value) → Heap → Prop} {YP : World → Heap → Prop} {d : DefRec} {T : Tab} {rows : List Row} {fns : List Fn} {globs : List D} {kds : List (List (Str × D))} {cs es : List Nat}
    {subT : List (Nat × Nat × Bool)} {fuel : Nat} {r : Row} (hn : l.most = some n) (hn2 : n ≤ sizeLine) (hdf : d.params.defaults = []) (hroom : Room (4 * kk + 1) PySem.callerA) (hnm : d.name = r.x) (hr : rows[i]? = some r) (hps : r.ps = [Str.ofString "script"]) (hl : r.lam = false)
    (hT : ∀ (w : World) (h : Heap), YP w h → ∃ K : PySem.W.Frag, K.In h ∧ Tops K w q T rows globs kds cs es subT) (hd : okData T rows fns cs es subT = true) (hck : ∀ (i : Nat) r, rows[i]? = some r → ∃ fn, fns[i]? = some fn ∧ ckFn T fn r = true) (hb : BindsF rows)
    (runs : ∀ ns : List Int, ns.length ≤ n → (∀ z ∈ ns, Builtin.Int.intBits z ≤ 1048576) → ∃ st', callF (mkP fns globs kds subT fuel) kk i [.lst (ns.map D.int)] [] = .ok (.bl true) st') :
    PySem.W.WalkO q loose XP YP l.row.toRowW d [] fun f vs => call f vs := by
  refine walk_ofK (l := l) (n := n) (k := 4 * kk + 1) (x := Str.ofString "script") (CX := fun w => L2.CX l.prog w) hn hn2 hdf hroom (KP := fun w K => Tops K w q T rows globs kds cs es subT) hT (fun w mg fa h K T0 KX G hmg hTab => ?_) fun w H s e s' hx => by obtain ⟨_, _, _, _, _, _, _, _, _, _, _, _, z⟩ := hx; exact z
  have tabs : ∀ t ∈ tabsOf K rows, PySem.W.CodeHd h t.1 t.2.1 ∧ h.get? t.2.1 = some (PySem.W.tabObj #[]) := fun t ht => by
    obtain ⟨r', hr', e⟩ := List.mem_filterMap.mp ht
    split at e
    · cases e
    · rename_i hc
      split at e
      · rename_i c Pa hti
        cases e
        have h1 := List.all_eq_true.mp T0.tab r' hr'
        have hc : (r'.lam || r'.top == 0) = false := by simpa using hc
        rw [Bool.or_eq_false_iff] at hc
        rw [hc.1, hc.2, Bool.false_or, Bool.false_or, Bool.and_eq_true] at h1
        obtain ⟨e, he⟩ := Option.isSome_iff_exists.mp (show ((recsOf q).find? fun e => e.name == r'.x).isSome = true by rw [List.find?_isSome]; simpa using h1.2)
        exact hTab r'.x e c Pa he hti
      · cases e
  obtain ⟨f, fd, D⟩ := def_of KX G (map_all T0.fns r (List.mem_of_getElem? hr)) (List.all_eq_true.mp T0.fnc r (List.mem_of_getElem? hr)) (hb.get i hr)
  have e2 : mg d.name = some (.ref f) := by
    rw [hnm]
    exact D.mg
  rw [hmg] at e2
  cases e2
  refine ⟨fd, (tabsOf K rows).map (fun t => (t.1, t.2.1)), spLaw K ((tabsOf K rows).map (·.2)) (callF (mkP fns globs kds subT fuel) kk i), fun p hp => ?_, fun p hp => ?_, fun p hp => ?_, fun s u => ?_, fun H a ns hlen hbits hH hS => ?_, fun base KB GB TB => ?_⟩
  · obtain ⟨t, ht, rfl⟩ := List.mem_map.mp hp
    exact (tabs t ht).2
  · obtain ⟨t, ht, rfl⟩ := List.mem_map.mp hp
    have := List.all_eq_true.mp T0.tabn t ht
    simpa using this
  · obtain ⟨t, ht, rfl⟩ := List.mem_map.mp hp
    exact (tabs t ht).1
  · have := D.bd [u] (by rw [hps]; rfl)
    rw [hps] at this
    exact .of_eq this
  · obtain ⟨st', e⟩ := runs ns hlen hbits
    refine ⟨a, ns, st', rfl, hS, tab_nil fun p hp => ?_, e, fun _ => rfl⟩
    obtain ⟨t, ht, rfl⟩ := List.mem_map.mp hp
    exact hH _ (List.mem_map.mpr ⟨t, ht, rfl⟩)
  · have X := text_of (fuel := fuel) T0 hd hck hb KX G (base := base) TB
    have F := prog_ok (Pr := l.prog) X kk i r _ fd hr hl D
    rw [hps] at F
    exact F.weak fun vs H Q E q => law_spQ q
end Itp
namespace HT
open PySem PySem.W PySem.Calls PyProof.Rows HeadRun Itp
/-- the objects of the last state that stay -/
def Kof (as : List Addr) (s : SharedT) : PySem.W.Frag := as.filterMap fun a => match getT s a with
  | some o => some (a, o)
  | none => none
theorem kof_in {s : SharedT} : ∀ {as : List Addr}, (Kof as s).In s.abs.heap
  | [], a, o, e => by cases e
  | b :: as, a, o, e => by
    unfold Kof at e
    rw [List.filterMap_cons] at e
    cases hb : getT s b with
    | none =>
      rw [hb] at e
      exact kof_in (as := as) a o e
    | some o' =>
      rw [hb] at e
      have e1 : List.lookup a ((b, o') :: Kof as s) = some o := e
      rw [List.lookup_cons] at e1
      cases hab : a == b with
      | true =>
        rw [hab] at e1
        cases e1
        have : a = b := eq_of_beq hab
        subst this
        exact (getT_eq s a).symm.trans hb
      | false =>
        rw [hab] at e1
        exact kof_in (as := as) a o e1
section
variable (K : PySem.W.Frag) (w : World) (q : PySem.Program) (T : Tab) (rows : List Itp.Row) (globs : List D) (kds : List (List (PySem.Str × D))) (cs es : List Nat) (subT : List (Nat × Nat × Bool))
/-- the seventeen facts, as one equation -/
def topsL := (rows.map (fun r => fdAt K r.x), rows.all (fnChk K), T.cls.all (fun x => (adr K x).isSome), T.blt.map (PySem.W.nsIn K mainGlobals),
  (if T.gcd then PySem.W.nsIn K mainGlobals (PySem.Str.ofString "gcd") else some (some (.builtin "math.gcd"))), (if T.isq then PySem.W.nsIn K mainGlobals (PySem.Str.ofString "isqrt") else some (some (.builtin "math.isqrt"))),
  T.gls.map (decAt K), T.kts.map (ktAt K), T.kts.map (fun x => (esAt K x).map (·.hash)), (kds.drop T.kds.length).all (fun l => l.all (fun p => (ktRow p).isSome) && decide (l.filterMap ktRow).Nodup), T.kds.map (kdAt K), T.kds.map (fun x => (esAt K x).map (·.hash)), cs.map (fun n => clsV K (clsOf K T.cls n)), subT.all (fun p => PySem.W.subIn K (.ref (clsOf K T.cls p.1)) (.ref (clsOf K T.cls p.2.1)) == some p.2.2),
  es.map (fun n => excV K (clsOf K T.cls n)), es.all (fun n => excChk K (clsOf K T.cls n)), decide ((List.range T.cls.length).map (clsOf K T.cls)).Nodup,
  rows.all (fun r => r.lam || (r.top == 0 || ((PySem.W.tabIn K r.x).isSome && (recsOf q).any fun e => e.name == r.x))), (tabsOf K rows).all (fun t => (K.lookup t.2.1).isNone), decide ((tabsOf K rows).map fun t => t.2.1).Nodup)
def topsR := (rows.map (fun r => (fdAt K r.x).map (fnN r)), true, true, T.blt.map (fun _ => (some none : Option (Option Value))), (some (some (.builtin "math.gcd")) : Option (Option Value)), (some (some (.builtin "math.isqrt")) : Option (Option Value)),
  globs.map some, (kds.drop T.kds.length).map (fun l => some (l.filterMap ktRow)), (kds.drop T.kds.length).map (fun l => (l.filterMap ktRow).map fun p => (ktK p).hash w), true, (kds.take T.kds.length).map some, T.kds.map (fun x => (esAt K x).map fun e => PyData.keyHash w.params (keyS e.key)), cs.map (fun _ => ((some true, true, some (.type "type")) : Option Bool × Bool × Option Value)), true, es.map (fun _ => excW), true, true, true, true, true)
variable {K w q T rows globs kds cs es subT}
theorem tops_of (h : topsL K q T rows kds cs es subT = topsR K w T rows globs kds cs es) : Tops K w q T rows globs kds cs es subT := by
  unfold topsL topsR at h
  simp only [Prod.mk.injEq] at h
  obtain ⟨a1, a2, a3, a4, a5, a6, a7, c1, c2, c3, a8, a9, b1, b2, b3, b4, b5, b6, b7, b8⟩ := h
  exact ⟨a1, a2, a3, a4, a5, a6, a7, c1, c2, c3, a8, a9, b1, b2, b3, b4, b5, b6, b7, b8⟩
end
end HT
noncomputable section
namespace HT
open PySem PySem.W PySem.Calls PyProof.Rows HeadRun Itp
theorem seenQ_is (q : PySem.Program) (loose mods : List PySem.Str) (Xt : Shared → Bool) (s : Shared) : seenQ q loose mods Xt s = openSeen q loose mods Xt true s := (HeadRun.seenQ_eq q loose mods Xt s).symm
section
variable (l : PySem.W.OpenLaw) (q : PySem.Program) (loose : List PySem.Str) (as : List Addr) (w : World) (T : Tab) (rows : List Itp.Row) (globs : List D) (kds : List (List (PySem.Str × D))) (cs es : List Nat) (subT : List (Nat × Nat × Bool))
def Xt0 : Shared → Bool := fun s => xlAt q [] s && recOk l.row.toRowW.records s
def looks0 (p : PySem.Program) (h0 h3 : Heap) : Bool := staticsOk (importedModules p.main.body) h0 h3 && namesBound p h3 && laidKept h0 h3
def shL (x : SharedT × SharedT) := (x.2.gens.size, looks0 l.prog x.1.abs.heap x.2.abs.heap, seenQ q loose (importedModules l.prog.main.body) (Xt0 l q) x.2.abs, topsL (Kof as x.2) q T rows kds cs es subT)
def shR (x : SharedT × SharedT) := ((0 : Nat), true, openGood q loose, topsR (Kof as x.2) w T rows globs kds cs es)
/-- what is said of the written part -/
def YP0 : World → Heap → Prop := fun w h => ∃ K : PySem.W.Frag, K.In h ∧ Tops K w q T rows globs kds cs es subT
variable {l q loose as w T rows globs kds cs es subT}
theorem shown_of {x : SharedT × SharedT} (e : shL l q loose as T rows kds cs es subT x = shR q loose as w T rows globs kds cs es x) : Shown l.prog q loose (Xt0 l q) (YP0 q T rows globs kds cs es subT) w x.1.abs x.2.abs := by
  unfold shL shR at e
  obtain ⟨e1, e⟩ := Prod.mk.inj e
  obtain ⟨e2, e⟩ := Prod.mk.inj e
  obtain ⟨e3, e4⟩ := Prod.mk.inj e
  exact ⟨Array.eq_empty_of_size_eq_zero e1, e2, (seenQ_is q loose _ _ _).symm.trans e3, _, kof_in, tops_of e4⟩
theorem map_eq_of {α β : Type} {c : Option α} {f g : α → β} (h : (c.isSome, c.map f) = (true, c.map g)) : ∃ x, c = some x ∧ f x = g x := by
  obtain ⟨h1, h2⟩ := Prod.mk.inj h
  cases c with
  | none => cases h1
  | some x => exact ⟨x, rfl, Option.some.inj h2⟩
/-- the equation that the kernel reckons, for a text whose top the machine runs through -/
def EqP (l : PySem.W.OpenLaw) (q : PySem.Program) (loose : List PySem.Str) (as : List Addr) (T : Tab) (rows : List Itp.Row) (globs : List D) (kds : List (List (PySem.Str × D))) (cs es : List Nat) (subT : List (Nat × Nat × Bool)) (n0 : Nat) (ann : Option Value) (M : Nat) (cv : Value) (fv : Addr) (w : World) : Prop :=
  ∀ qp pB pC, ((chainP l.prog w n0 ann M cv fv qp pB pC).isSome, (chainP l.prog w n0 ann M cv fv qp pB pC).map (shL l q loose as T rows kds cs es subT)) = (true, (chainP l.prog w n0 ann M cv fv qp pB pC).map (shR q loose as w T rows globs kds cs es))
theorem behind_plain {n0 : Nat} {ann : Option Value} {M : Nat} {cv : Value} {fv : Addr} (hch : chainsOk q = true) (h : ∀ w, EqP l q loose as T rows globs kds cs es subT n0 ann M cv fv w) :
    Behind l.row.prog q loose (XL q []) (YP0 q T rows globs kds cs es subT) :=
  behind_of (p := l.prog) (Xt := Xt0 l q) (fun s e => xl_of s (Bool.and_eq_true_iff.mp e).1) hch fun w => plain_runs (p := l.prog) fun qp pB pC => by
    obtain ⟨⟨s0, s3⟩, e, sh⟩ := map_eq_of (h w qp pB pC)
    exact ⟨s0, s3, e, shown_of sh⟩
theorem yp_keeps : ∀ (w : World) (h h' : Heap), YP0 q T rows globs kds cs es subT w h → (∀ b o, h.get? b = some o → h'.get? b = some o) → YP0 q T rows globs kds cs es subT w h' := fun w h h' ⟨K, a, b⟩ k => ⟨K, a.keeps k, b⟩
end
end HT
namespace HT
open PySem PySem.W PySem.Calls PyProof.Rows
/-! ### a display of a dict whose keys are tuples, told to the last state -/
section
variable {prog : PySem.Program} {w : World} {A : Around} {E : Value → Shared → Prop} {s : Shared}
def pushE (h : Heap) (d : Addr) (e : DictEntry) : Heap := h.update d (Obj.mapDictKeys (·.push e))
abbrev KN (prog : PySem.Program) (w : World) := nestedKind prog w
abbrev XL1 := List (NestedKey × Addr × Value)
theorem pushE_same (h : Heap) (d : Addr) (e : DictEntry) : Heap.SameBut d h (pushE h d e) := Heap.SameBut.update ..
theorem dictOf_push {h : Heap} {d : Addr} {xs : XL1} {k : NestedKey} {a : Addr} {v : Value} (hm : h.DictOfH (KN prog w) d xs) (hk : (KN prog w).is h k a) (hnew : k ∉ xs.map (·.1)) :
    (pushE h d ⟨k.hash w, .ref a, v⟩).DictOfH (KN prog w) d (xs ++ [(k, a, v)]) := by
  obtain ⟨o, es, ep, ho, hc, hd, he, his, hn⟩ := hm
  have sb : Heap.SameBut d h (pushE h d ⟨k.hash w, .ref a, v⟩) := pushE_same ..
  refine ⟨_, _, ep + 1, Heap.get?_update_self _ ho (Obj.isFreed_of_dict (Obj.data_mapDictKeys hd _)), hc.mapDictKeys _, Obj.data_mapDictKeys hd _, ?_, ?_, ?_⟩
  · rw [Array.toList_push, he, List.map_append]
    rfl
  · intro x hx
    rcases List.mem_append.mp hx with hx | hx
    · exact (KN prog w).keeps (his x hx) ho hd sb
    · have : x = (k, a, v) := by simpa using hx
      subst this
      exact (KN prog w).keeps hk ho hd sb
  · rw [List.map_append, List.nodup_append]
    refine ⟨hn, by simp, ?_⟩
    intro x hx y hy e
    have : y = k := by simpa using hy
    subst this
    exact hnew (e ▸ hx)
theorem dictSet_new {d a : Addr} {xs : XL1} {k : NestedKey} {v : Value} {Q : Unit → Shared → Prop} (hu : A.units + 8 < cLine) (hk : (KN prog w).is s.heap k a) (hm : s.heap.DictOfH (KN prog w) d xs) (hnew : k ∉ xs.map (·.1)) (hsz : xs.length ≤ sizeLine)
    (hQ : Q () { s with heap := pushE s.heap d ⟨k.hash w, .ref a, v⟩, toks := s.toks + k.draws }) : wpAny (model prog w) A (dictSet d (.ref a) v) Q E s := by
  obtain ⟨o, es, ep, ho, hc, hd, he, his, hn⟩ := hm
  unfold dictSet
  refine wpAny_holding ?_
  refine wpAny_bind ((KN prog w).pyHash hu hk ?_)
  unfold dictSetHashed
  refine wpAny_holding ?_
  refine wpAny_bind (wpAny_dictFind_heap (s := { s with toks := s.toks + (KN prog w).draws k }) hu hk ho hd he his hn (fun hno => ?_) (fun j p hj => ?_))
  · exact wpAny_bind (wpAny_rule (wpAny_updateDictKeys (hz := by have e := size_of_entries he; omega) (s := { s with toks := s.toks + (KN prog w).draws k }) ho hd hQ))
  · exact absurd (List.mem_map.mpr ⟨_, List.mem_of_getElem? hj, rfl⟩) hnew
theorem dictPut_new {d a : Addr} {xs : XL1} {k : NestedKey} {v : Value} {Q : Unit → Shared → Prop} (hu : A.units + 8 < cLine) (hk : (KN prog w).is s.heap k a) (hm : s.heap.DictOfH (KN prog w) d xs) (hnew : k ∉ xs.map (·.1)) (hsz : xs.length ≤ sizeLine)
    (hQ : Q () { s with heap := pushE s.heap d ⟨k.hash w, .ref a, v⟩ }) : wpAny (model prog w) A (dictPut d (k.hash w) (.ref a) v) Q E s := by
  obtain ⟨o, es, ep, ho, hc, hd, he, his, hn⟩ := hm
  unfold dictPut
  refine wpAny_bind (wpAny_dictFind_heap (knd := KN prog w) (k := k) hu hk ho hd he his hn (fun hno => ?_) (fun j p hj => ?_))
  · exact wpAny_updateDictKeys (hz := by have e := size_of_entries he; omega) ho hd hQ
  · exact absurd (List.mem_map.mpr ⟨_, List.mem_of_getElem? hj, rfl⟩) hnew
/-! ### the pairs -/
abbrev Pr := PySem.Str × Int
def keyOf (p : Pr) : NestedKey := .tup [.text p.1, .num p.2]
def tupO (p : Pr) (t : Nat) : Obj := { cls := .type "tuple", data := .seq #[.str p.1 t, .int p.2 (t + 1)] }
theorem tup_is {h : Heap} {p : Pr} {a t : Nat} (e : h.get? a = some (tupO p t)) : (KN prog w).is h (keyOf p) a :=
  ⟨.tup e rfl rfl (.cons (.text _ _) (.cons (.int _ _) .nil)), by simp [keyOf, NestedKey.depth, NestedKey.depthAll]⟩
/-- what stands behind a key and its value -/
structure PairEv (prog : PySem.Program) (w : World) (p : Pr) (k v : Sem Value) : Prop where
  key : ∀ (A : Around) (E : Value → Shared → Prop) (s : Shared) (Q : Value → Shared → Prop), Q (.ref s.heap.objs.size) { s with heap := s.heap.push (tupO p s.toks), toks := s.toks + 2 } → wpAny (model prog w) A k Q E s
  val : ∀ (A : Around) (E : Value → Shared → Prop) (s : Shared) (Q : Value → Shared → Prop), Q (.bool true) s → wpAny (model prog w) A v Q E s
inductive PairsEv (prog : PySem.Program) (w : World) : List Pr → List (Sem Value × Sem Value) → Prop where
  | nil : PairsEv prog w [] []
  | cons {p k v ps kvs} : PairEv prog w p k v → PairsEv prog w ps kvs → PairsEv prog w (p :: ps) ((k, v) :: kvs)
theorem PairsEv.length {ps : List Pr} {kvs : List (Sem Value × Sem Value)} (h : PairsEv prog w ps kvs) : ps.length = kvs.length := by
  induction h with
  | nil => rfl
  | cons _ _ ih => simp [ih]
theorem get_push_old {h : Heap} {a : Addr} {o x : Obj} (e : h.get? a = some o) : (h.push x).get? a = some o := Heap.get?_push_of_some x e
theorem dictOf_more {h : Heap} {d : Addr} {xs : XL1} {o : Obj} (hm : h.DictOfH (KN prog w) d xs) : (h.push o).DictOfH (KN prog w) d xs := by
  obtain ⟨o', es, ep, ho, hc, hd, he, his, hn⟩ := hm
  exact ⟨o', es, ep, get_push_old ho, hc, hd, he, fun x hx => nestedKind_stays.stays (fun b o vs n e _ => get_push_old e) (his x hx), hn⟩
theorem get_push_new (h : Heap) (p : Pr) (t : Nat) : (h.push (tupO p t)).get? h.objs.size = some (tupO p t) := Heap.get?_push_size _ rfl
/-- one pair, put as it comes -/
def put1 (w : World) (d : Addr) (s : Shared) (p : Pr) : Shared := { s with heap := pushE (s.heap.push (tupO p s.toks)) d ⟨(keyOf p).hash w, .ref s.heap.objs.size, .bool true⟩, toks := s.toks + 2 + 3 }
theorem keyOf_inj {p q : Pr} (h : keyOf p = keyOf q) : p = q := by
  obtain ⟨a, b⟩ := p
  obtain ⟨c, d⟩ := q
  unfold keyOf at h
  injection h with h
  injection h with h1 h2
  injection h1 with h1
  injection h2 with h2 _
  injection h2 with h2
  subst h1 h2
  rfl
theorem key_new {xs : XL1} {ps : List Pr} {p : Pr} (hx : xs.map (·.1) = ps.map keyOf) (hp : p ∉ ps) : keyOf p ∉ xs.map (·.1) := by
  rw [hx]
  intro h
  obtain ⟨q, hq, e⟩ := List.mem_map.mp h
  exact hp (keyOf_inj e ▸ hq)
/-- a long run of pairs -/
theorem long_wp (hu : A.units + 8 < cLine) {d : Addr} : ∀ (ps : List Pr) (kvs : List (Sem Value × Sem Value)) (done : List Pr) (xs : XL1) (s : Shared) (Q : PUnit → Shared → Prop), PairsEv prog w ps kvs → s.heap.DictOfH (KN prog w) d xs → xs.map (·.1) = done.map keyOf → (done ++ ps).Nodup → (done ++ ps).length ≤ 1000 →
    (∀ xs', (ps.foldl (put1 w d) s).heap.DictOfH (KN prog w) d xs' → xs'.map (·.1) = (done ++ ps).map keyOf → Q PUnit.unit (ps.foldl (put1 w d) s)) →
    wpAny (model prog w) A (forIn kvs PUnit.unit fun (x : Sem Value × Sem Value) (_ : PUnit) => (do
        let kv ← x.1
        let vv ← holding [kv] x.2
        holding [kv, vv] (dictSet d kv vv)
        pure (ForInStep.yield PUnit.unit) : Sem (ForInStep PUnit))) Q E s
  | [], _, done, xs, s, Q, .nil, hm, hx, _, _, hQ => by
    rw [List.forIn_nil]
    exact wpAny_pure (hQ xs hm (by rw [List.append_nil]; exact hx))
  | p :: ps, _, done, xs, s, Q, .cons (k := k) (v := v) (kvs := kvs) ev evs, hm, hx, hnd, hlen, hQ => by
    rw [List.forIn_cons]
    have hp : p ∉ done := fun h => by
      have := List.nodup_append.mp hnd
      exact this.2.2 p h p (by simp) rfl
    refine wpAny_bind (wpAny_bind (ev.key A E s _ (wpAny_bind (wpAny_holding (ev.val A E _ _ (wpAny_bind (wpAny_holding ?_)))))))
    have hm1 := dictOf_more (o := tupO p s.toks) hm
    have hk := tup_is (prog := prog) (w := w) (get_push_new s.heap p s.toks)
    have hlx : xs.length = done.length := by
      have := congrArg List.length hx
      simpa using this
    refine dictSet_new (s := { s with heap := s.heap.push (tupO p s.toks), toks := s.toks + 2 }) hu hk hm1 (key_new hx hp) (by simp at hlen; unfold sizeLine; omega) ?_
    refine wpAny_pure ?_
    have e2 : done ++ p :: ps = (done ++ [p]) ++ ps := by simp
    have hm2 := dictOf_push (v := .bool true) hm1 hk (key_new hx hp)
    exact long_wp hu ps kvs (done ++ [p]) _ (put1 w d s p) Q evs hm2 (by rw [List.map_append, List.map_append, hx]; rfl) (e2 ▸ hnd) (e2 ▸ hlen) fun xs' a b => hQ xs' a (by rw [e2]; exact b)
end
end HT
namespace HT
open PySem PySem.W PySem.Calls PyProof.Rows
section
variable {prog : PySem.Program} {w : World} {A : Around} {E : Value → Shared → Prop} {s : Shared}
def dictO : Obj := { cls := .type "dict", data := .dict #[] }
def newD (s : Shared) : Shared := { s with heap := s.heap.push dictO }
theorem sub_long (hu : A.units + 8 < cLine) {ps : List Pr} {kvs : List (Sem Value × Sem Value)} {Q : Addr → Shared → Prop} (ev : PairsEv prog w ps kvs) (h15 : 15 < ps.length) (hnd : ps.Nodup) (hlen : ps.length ≤ 1000)
    (hQ : ∀ xs, (ps.foldl (put1 w s.heap.objs.size) (newD s)).heap.DictOfH (KN prog w) s.heap.objs.size xs → xs.map (·.1) = ps.map keyOf → Q s.heap.objs.size (ps.foldl (put1 w s.heap.objs.size) (newD s))) : wpAny (model prog w) A (subDict kvs) Q E s := by
  unfold subDict
  refine wpAny_bind (wpAny_alloc ?_)
  refine wpAny_bind (wpAny_holding ?_)
  rw [if_neg (by rw [← ev.length]; omega)]
  refine wpAny_bind (wpAny_rule ?_)
  have hm : (newD s).heap.DictOfH (KN prog w) s.heap.objs.size [] := Heap.DictOfH.new s.heap
  exact wpAny_bind (long_wp hu ps kvs [] [] (newD s) _ ev hm rfl hnd hlen fun xs a b => wpAny_pure (wpAny_pure (hQ xs a b)))
/-! a short run: all keys ahead -/
def tup1 (s : Shared) (p : Pr) : Shared := { s with heap := s.heap.push (tupO p s.toks), toks := s.toks + 2 }
def set1 (w : World) (d : Addr) (s : Shared) (x : Pr × Addr) : Shared := { s with heap := pushE s.heap d ⟨(keyOf x.1).hash w, .ref x.2, .bool true⟩, toks := s.toks + 3 }
def adrsOf (a : Addr) : List Pr → List (Pr × Addr)
  | [] => []
  | p :: ps => (p, a) :: adrsOf (a + 1) ps
theorem tup1_size (s : Shared) (p : Pr) : (tup1 s p).heap.objs.size = s.heap.objs.size + 1 := by
  show (s.heap.push (tupO p s.toks)).objs.size = _
  unfold Heap.push
  simp
def Stand (h : Heap) : List (Pr × Addr) → Prop := fun xs => ∀ x ∈ xs, ∃ t, h.get? x.2 = some (tupO x.1 t)
theorem evalPairs_wp {d : Addr} : ∀ (ps : List Pr) (kvs : List (Sem Value × Sem Value)) (s : Shared) (Q : List (Value × Value) → Shared → Prop), PairsEv prog w ps kvs → s.heap.DictOfH (KN prog w) d [] →
    ((ps.foldl tup1 s).heap.DictOfH (KN prog w) d [] → Stand (ps.foldl tup1 s).heap (adrsOf s.heap.objs.size ps) → (∀ b o, s.heap.get? b = some o → (ps.foldl tup1 s).heap.get? b = some o) → Q ((adrsOf s.heap.objs.size ps).map fun x => (.ref x.2, .bool true)) (ps.foldl tup1 s)) →
    wpAny (model prog w) A (evalPairs kvs) Q E s
  | [], _, s, Q, .nil, hm, hQ => wpAny_pure (hQ hm (fun x hx => by cases hx) fun _ _ e => e)
  | p :: ps, _, s, Q, .cons (k := k) (v := v) (kvs := kvs) ev evs, hm, hQ => by
    unfold evalPairs
    refine wpAny_bind (ev.key A E s _ (wpAny_bind (wpAny_holding (ev.val A E _ _ (wpAny_bind (wpAny_holding ?_))))))
    refine evalPairs_wp ps kvs (tup1 s p) _ evs (dictOf_more hm) fun a b c => wpAny_pure ?_
    have e : adrsOf s.heap.objs.size (p :: ps) = (p, s.heap.objs.size) :: adrsOf (tup1 s p).heap.objs.size ps := by rw [tup1_size]; rfl
    have := hQ a (by
      rw [e]
      intro x hx
      rcases List.mem_cons.mp hx with rfl | hx
      · exact ⟨_, c _ _ (get_push_new s.heap p s.toks)⟩
      · exact b x hx) (fun b' o' z => c _ _ (get_push_old z))
    rw [e] at this
    exact this
theorem sets_wp (hu : A.units + 8 < cLine) {d : Addr} : ∀ (zs : List (Pr × Addr)) (done : List Pr) (xs : XL1) (s : Shared) (Q : PUnit → Shared → Prop), s.heap.DictOfH (KN prog w) d xs → xs.map (·.1) = done.map keyOf → (done ++ zs.map (·.1)).Nodup → (done ++ zs.map (·.1)).length ≤ 1000 → Stand s.heap zs → (∀ z ∈ zs, z.2 ≠ d) →
    (∀ xs', (zs.foldl (set1 w d) s).heap.DictOfH (KN prog w) d xs' → xs'.map (·.1) = (done ++ zs.map (·.1)).map keyOf → Q PUnit.unit (zs.foldl (set1 w d) s)) →
    wpAny (model prog w) A (forIn (zs.map fun x => ((.ref x.2, .bool true) : Value × Value)) PUnit.unit fun (x : Value × Value) (_ : PUnit) => (do
        dictSet d x.1 x.2
        pure (ForInStep.yield PUnit.unit) : Sem (ForInStep PUnit))) Q E s
  | [], done, xs, s, Q, hm, hx, _, _, _, _, hQ => by
    rw [List.map_nil, List.forIn_nil]
    exact wpAny_pure (hQ xs hm (by simpa using hx))
  | z :: zs, done, xs, s, Q, hm, hx, hnd, hlen, hst, hne, hQ => by
    rw [List.map_cons, List.forIn_cons]
    have hp : z.1 ∉ done := fun h => (List.nodup_append.mp hnd).2.2 z.1 h z.1 (by simp) rfl
    obtain ⟨t, ht⟩ := hst z (by simp)
    have hk := tup_is (prog := prog) (w := w) ht
    have hlx : xs.length = done.length := by
      have := congrArg List.length hx
      simpa using this
    refine wpAny_bind (wpAny_bind (dictSet_new hu hk hm (key_new hx hp) (by simp at hlen; unfold sizeLine; omega) (wpAny_pure ?_)))
    have hm2 := dictOf_push (v := .bool true) hm hk (key_new hx hp)
    have e2 : done ++ (z :: zs).map (·.1) = (done ++ [z.1]) ++ zs.map (·.1) := by simp
    refine sets_wp hu zs (done ++ [z.1]) _ (set1 w d s z) Q hm2 (by rw [List.map_append, List.map_append, hx]; rfl) (e2 ▸ hnd) (e2 ▸ hlen) (fun y hy => ?_) (fun y hy => hne y (by simp [hy])) fun xs' a b => hQ xs' a (by rw [e2]; exact b)
    obtain ⟨t', ht'⟩ := hst y (by simp [hy])
    refine ⟨t', ?_⟩
    have sb := (pushE_same s.heap d ⟨(keyOf z.1).hash w, .ref z.2, .bool true⟩).2 y.2 (hne y (by simp [hy]))
    exact sb.trans ht'
theorem adrs_fst : ∀ (a : Addr) (ps : List Pr), (adrsOf a ps).map (·.1) = ps
  | _, [] => rfl
  | a, p :: ps => by
    show p :: (adrsOf (a + 1) ps).map (·.1) = _
    rw [adrs_fst]
theorem adrs_ge : ∀ (a : Addr) (ps : List Pr), ∀ x ∈ adrsOf a ps, a ≤ x.2
  | _, [], x, h => by cases h
  | a, p :: ps, x, h => by
    rcases List.mem_cons.mp h with rfl | h
    · exact Nat.le_refl _
    · exact Nat.le_trans (Nat.le_succ a) (adrs_ge (a + 1) ps x h)
def shortS (w : World) (s : Shared) (ps : List Pr) : Shared := (adrsOf (newD s).heap.objs.size ps).foldl (set1 w s.heap.objs.size) (ps.foldl tup1 (newD s))
theorem sub_short (hu : A.units + 8 < cLine) {ps : List Pr} {kvs : List (Sem Value × Sem Value)} {Q : Addr → Shared → Prop} (ev : PairsEv prog w ps kvs) (h15 : ps.length ≤ 15) (hnd : ps.Nodup)
    (hQ : ∀ xs, (shortS w s ps).heap.DictOfH (KN prog w) s.heap.objs.size xs → xs.map (·.1) = ps.map keyOf → Q s.heap.objs.size (shortS w s ps)) : wpAny (model prog w) A (subDict kvs) Q E s := by
  unfold subDict
  refine wpAny_bind (wpAny_alloc ?_)
  refine wpAny_bind (wpAny_holding ?_)
  rw [if_pos (by rw [← ev.length]; omega)]
  have hm : (newD s).heap.DictOfH (KN prog w) s.heap.objs.size [] := Heap.DictOfH.new s.heap
  refine wpAny_bind (evalPairs_wp (d := s.heap.objs.size) ps kvs (newD s) _ ev hm fun a b c => ?_)
  refine wpAny_holding (wpAny_bind ?_)
  refine sets_wp hu (adrsOf (newD s).heap.objs.size ps) [] [] _ _ a rfl (by rw [adrs_fst]; exact hnd) (by rw [adrs_fst]; simp; omega) b (fun z hz => ?_) fun xs e1 e2 => wpAny_pure (wpAny_pure (hQ xs e1 (by rw [adrs_fst] at e2; exact e2)))
  have h1 := adrs_ge _ _ z hz
  have h2 : (newD s).heap.objs.size = s.heap.objs.size + 1 := by
    show (s.heap.push dictO).objs.size = _
    unfold Heap.push
    simp
  intro e
  rw [h2, e] at h1
  exact Nat.not_succ_le_self _ h1
end
end HT
namespace HT
open PySem PySem.W PySem.Calls PyProof.Rows
section
variable {prog : PySem.Program} {w : World} {A : Around} {E : Value → Shared → Prop} {s : Shared}
/-! one display merged into another -/
def entOf (w : World) (y : NestedKey × Addr × Value) : DictEntry := ⟨y.1.hash w, .ref y.2.1, y.2.2⟩
def pushAll (h : Heap) (d : Addr) (es : List DictEntry) : Heap := es.foldl (fun h e => pushE h d e) h
theorem pushAll_same (d : Addr) : ∀ (es : List DictEntry) (h : Heap), Heap.SameBut d h (pushAll h d es)
  | [], h => Heap.SameBut.refl _ _
  | e :: es, h => (pushE_same h d e).trans (pushAll_same d es (pushE h d e))
theorem pushAll_snoc (h : Heap) (d : Addr) (es : List DictEntry) (e : DictEntry) : pushAll h d (es ++ [e]) = pushE (pushAll h d es) d e := by
  unfold pushAll
  rw [List.foldl_append]
  rfl
theorem merge_wp (hu : A.units + 8 < cLine) {d a : Addr} {xs ys : XL1} {Q : Unit → Shared → Prop} (hd : s.heap.DictOfH (KN prog w) d xs) (ha : s.heap.DictOfH (KN prog w) a ys) (hne : a ≠ d) (hs : (a == sysModules) = false) (h0 : xs ≠ []) (hnd : ((xs ++ ys).map (·.1)).Nodup) (hlen : (xs ++ ys).length ≤ 1000)
    (hQ : (pushAll s.heap d (ys.map (entOf w))).DictOfH (KN prog w) d (xs ++ ys) → Q () { s with heap := pushAll s.heap d (ys.map (entOf w)) }) : wpAny (model prog w) A (mergeMapping d (.ref a) false) Q E s := by
  obtain ⟨oa, ea, pa, ga, ca, da, la, ia, na⟩ := id ha
  obtain ⟨od, ed, pd, gd, cd, dd, ld, id', nd⟩ := id hd
  have hes : ea.size = ys.length := size_of_entries la
  unfold mergeMapping
  refine wpAny_bind (wpAny_isInstance ha.typeIs isSubtype_dict_dict ?_)
  simp only [if_true]
  refine wpAny_bind (wpAny_specialOf ha.typeIs F.slot_dict_iter.lookup ?_)
  simp only [beq_self_eq_true]
  refine wpAny_bind (wpAny_pure ?_)
  simp only [hs, Bool.false_eq_true, if_false]
  have hed : ed.isEmpty = false := by
    have : ed.size = xs.length := size_of_entries ld
    rw [Array.isEmpty_eq_false_iff]
    intro e
    rw [e] at this
    exact h0 (List.eq_nil_of_length_eq_zero this.symm)
  refine wpAny_bind (wpAny_dictEntries gd dd ?_)
  rw [hed]
  simp only [Bool.false_eq_true, if_false]
  refine wpAny_bind (wpAny_dictEntries ga da (wpAny_bind (wpAny_dictEpoch ga da (wpAny_bind ?_))))
  refine wpAny_forIn_list _ (fun rest _ s' => ∃ j, rest = (List.range ea.size).drop j ∧ j ≤ ea.size ∧ s' = { s with heap := pushAll s.heap d ((ys.take j).map (entOf w)) } ∧ s'.heap.DictOfH (KN prog w) d (xs ++ ys.take j)) _ ?_ ?_ _ _ ⟨0, rfl, Nat.zero_le _, by simp [pushAll], by simpa [pushAll] using hd⟩
  · rintro i rest b s' ⟨j, hr, hj, rfl, hm⟩
    have hj' : j < ea.size := by
      rcases Nat.lt_or_ge j ea.size with h | h
      · exact h
      · rw [List.drop_eq_nil_of_le (by simpa using h)] at hr
        cases hr
    have hi : i = j ∧ rest = (List.range ea.size).drop (j + 1) := by
      rw [List.drop_eq_getElem_cons (by simpa using hj')] at hr
      injection hr with h1 h2
      exact ⟨by simpa using h1, h2⟩
    obtain ⟨rfl, hrest⟩ := hi
    have sb := pushAll_same d ((ys.take i).map (entOf w)) s.heap
    have ga' : (pushAll s.heap d ((ys.take i).map (entOf w))).get? a = some oa := (sb.2 a hne).trans ga
    have hy : i < ys.length := by rw [← hes]; exact hj'
    have eat : ea[i]? = some (entOf w ys[i]) := by
      rw [entry_at la i, List.getElem?_eq_getElem hy]
      rfl
    refine wpAny_bind (wpAny_dictEntries ga' da ?_)
    rw [eat]
    have hk : (KN prog w).is (pushAll s.heap d ((ys.take i).map (entOf w))) ys[i].1 ys[i].2.1 := by
      refine nestedKind_stays.stays (fun b o vs n e hd' => ?_) (ia ys[i] (List.getElem_mem hy))
      have hb : b ≠ d := by
        rintro rfl
        rw [gd] at e
        cases e
        rw [dd] at hd'
        cases hd'
      exact (sb.2 b hb).trans e
    have et : ys.take (i + 1) = ys.take i ++ [ys[i]] := (List.take_append_getElem hy).symm
    have hnew : ys[i].1 ∉ (xs ++ ys.take i).map (·.1) := by
      intro hin
      have h1 : ((xs ++ ys.take (i + 1)).map (·.1)).Nodup := by
        refine List.Nodup.sublist ?_ hnd
        exact List.Sublist.map _ (List.Sublist.append (List.Sublist.refl _) (List.take_sublist _ _))
      rw [et, ← List.append_assoc, List.map_append, List.nodup_append] at h1
      exact h1.2.2 _ hin _ (by simp) rfl
    refine wpAny_bind (wpAny_holding ?_)
    refine dictPut_new (s := { s with heap := pushAll s.heap d ((ys.take i).map (entOf w)) }) hu hk hm hnew (by simp at hlen ⊢; unfold sizeLine; omega) ?_
    have hm2 := dictOf_push (v := ys[i].2.2) hm hk hnew
    have ga2 : (pushE (pushAll s.heap d ((ys.take i).map (entOf w))) d (entOf w ys[i])).get? a = some oa := ((pushE_same _ d _).2 a hne).trans ga'
    refine wpAny_bind (wpAny_dictEpoch ga2 da ?_)
    simp only [bne_self_eq_false, Bool.false_eq_true, if_false]
    refine wpAny_pure ⟨i + 1, hrest, hj', ?_, ?_⟩
    · rw [et, List.map_append]
      show _ = ({ s with heap := pushAll s.heap d ((ys.take i).map (entOf w) ++ [entOf w ys[i]]) } : Shared)
      rw [pushAll_snoc]
      rfl
    · rw [et, ← List.append_assoc]
      exact hm2
  · rintro b s' ⟨j, hr, hj, rfl, hm⟩
    have ej : j = ea.size := by
      have := congrArg List.length hr
      simp at this
      omega
    subst ej
    rw [hes, List.take_length] at hm ⊢
    exact wpAny_pure (hQ hm)
end
end HT
namespace HT
open PySem PySem.W PySem.Calls PyProof.Rows
section
variable {prog : PySem.Program} {w : World} {A : Around} {E : Value → Shared → Prop} {s : Shared}
/-! ### one run of pairs, short or long -/
def subS (w : World) (s : Shared) (ps : List Pr) : Shared := if ps.length ≤ 15 then shortS w s ps else ps.foldl (put1 w s.heap.objs.size) (newD s)
def Keeps (h h' : Heap) : Prop := ∀ b o, h.get? b = some o → h'.get? b = some o
theorem newD_size (s : Shared) : (newD s).heap.objs.size = s.heap.objs.size + 1 := by
  show (s.heap.push dictO).objs.size = _
  unfold Heap.push
  simp
theorem keeps_long {w : World} {h0 : Heap} : ∀ (ps : List Pr) (s : Shared), Keeps h0 s.heap → Keeps h0 (ps.foldl (put1 w h0.objs.size) s).heap
  | [], s, k => k
  | p :: ps, s, k => keeps_long ps (put1 w h0.objs.size s p) fun b o e => by
    have hb : b ≠ h0.objs.size := Nat.ne_of_lt (Heap.lt_size e)
    exact ((pushE_same _ _ _).2 b hb).trans (get_push_old (k b o e))
theorem keeps_tups {h0 : Heap} : ∀ (ps : List Pr) (s : Shared), Keeps h0 s.heap → Keeps h0 (ps.foldl tup1 s).heap
  | [], s, k => k
  | p :: ps, s, k => keeps_tups ps (tup1 s p) fun b o e => get_push_old (k b o e)
theorem keeps_sets {w : World} {h0 : Heap} : ∀ (zs : List (Pr × Addr)) (s : Shared), Keeps h0 s.heap → Keeps h0 (zs.foldl (set1 w h0.objs.size) s).heap
  | [], s, k => k
  | z :: zs, s, k => keeps_sets zs (set1 w h0.objs.size s z) fun b o e => by
    have hb : b ≠ h0.objs.size := Nat.ne_of_lt (Heap.lt_size e)
    exact ((pushE_same _ _ _).2 b hb).trans (k b o e)
theorem subS_keeps (w : World) (s : Shared) (ps : List Pr) : Keeps s.heap (subS w s ps).heap := by
  have k0 : Keeps s.heap (newD s).heap := fun b o e => get_push_old e
  unfold subS
  split
  · exact keeps_sets _ _ (keeps_tups _ _ k0)
  · exact keeps_long _ _ k0
theorem sub_wp (hu : A.units + 8 < cLine) {ps : List Pr} {kvs : List (Sem Value × Sem Value)} {Q : Addr → Shared → Prop} (ev : PairsEv prog w ps kvs) (hnd : ps.Nodup) (hlen : ps.length ≤ 1000)
    (hQ : ∀ xs, (subS w s ps).heap.DictOfH (KN prog w) s.heap.objs.size xs → xs.map (·.1) = ps.map keyOf → Q s.heap.objs.size (subS w s ps)) : wpAny (model prog w) A (subDict kvs) Q E s := by
  unfold subS at hQ
  by_cases h : ps.length ≤ 15
  · simp only [if_pos h] at hQ
    exact sub_short hu ev h hnd hQ
  · simp only [if_neg h] at hQ
    exact sub_long hu ev (by omega) hnd hlen hQ
/-! ### a run flushed -/
def entsAt (h : Heap) (a : Addr) : List DictEntry := match h.get? a with
  | some ⟨_, _, .dict es _, _⟩ => es.toList
  | _ => []
def flushS (w : World) (m : Option Addr) (s : Shared) (ps : List Pr) : Shared × Option Addr := match m with
  | none => (subS w s ps, some s.heap.objs.size)
  | some d => ({ subS w s ps with heap := pushAll (subS w s ps).heap d (entsAt (subS w s ps).heap s.heap.objs.size) }, some d)
def MainOk (prog : PySem.Program) (w : World) (m : Option Addr) (h : Heap) (done : List Pr) : Prop := match m with
  | none => done = []
  | some d => ∃ xs, h.DictOfH (KN prog w) d xs ∧ xs.map (·.1) = done.map keyOf ∧ xs ≠ []
theorem keys_nodup {ps : List Pr} (h : ps.Nodup) : (ps.map keyOf).Nodup := List.Pairwise.map keyOf (fun _ _ ne e => ne (keyOf_inj e)) h
theorem map_ne_nil {α β : Type} {l : List α} {f : α → β} {k : List β} (h : l.map f = k) (hk : k ≠ []) : l ≠ [] := fun e => hk (by rw [← h, e]; rfl)
/-- main is there already: what is shown of a further run -/
theorem more_wp (hu : A.units + 8 < cLine) {d : Addr} {done ps : List Pr} {kvs : List (Sem Value × Sem Value)} {Q : Unit → Shared → Prop} {sub : Addr} {s1 : Shared} {ys : XL1} (hsub : sub = s.heap.objs.size) (hs1 : s1 = subS w s ps) (hy : s1.heap.DictOfH (KN prog w) sub ys) (ky : ys.map (·.1) = ps.map keyOf)
    (hm : MainOk prog w (some d) s.heap done) (hnd : (done ++ ps).Nodup) (hlen : (done ++ ps).length ≤ 1000) (hlow : sysModules < s.heap.objs.size)
    (hQ : MainOk prog w (some d) (flushS w (some d) s ps).1.heap (done ++ ps) → Q () (flushS w (some d) s ps).1) : wpAny (model prog w) A (mergeMapping d (.ref sub) false) Q E s1 := by
  subst hsub hs1
  obtain ⟨xs, hx, kx, x0⟩ := hm
  have kp := subS_keeps w s ps
  have hx1 : (subS w s ps).heap.DictOfH (KN prog w) d xs := by
    obtain ⟨o, es, ep, ho, hc, hd, he, his, hn⟩ := hx
    exact ⟨o, es, ep, kp _ _ ho, hc, hd, he, fun x hxm => nestedKind_stays.stays (fun b o' vs n e _ => kp _ _ e) (his x hxm), hn⟩
  have hne : s.heap.objs.size ≠ d := by
    obtain ⟨o, _, _, ho, _⟩ := hx
    exact Nat.ne_of_gt (Heap.lt_size ho)
  have hks : ((xs ++ ys).map (·.1)) = (done ++ ps).map keyOf := by rw [List.map_append, List.map_append, kx, ky]
  have hents : entsAt (subS w s ps).heap s.heap.objs.size = ys.map (entOf w) := by
    obtain ⟨o, es, ep, ho, hc, hd, he, his, hn⟩ := hy
    unfold entsAt
    rw [ho]
    obtain ⟨oc, od, odat, osl⟩ := o
    simp only at hd
    subst hd
    exact he
  have hl : (xs ++ ys).length ≤ 1000 := by
    have := congrArg List.length hks
    simp only [List.length_map] at this
    omega
  refine merge_wp hu hx1 hy hne ?_ x0 (by rw [hks]; exact keys_nodup hnd) hl fun hd => ?_
  · rw [beq_eq_false_iff_ne]
    exact Nat.ne_of_gt hlow
  · have q2 := hQ
    unfold flushS at q2
    simp only [hents] at q2
    exact q2 ⟨xs ++ ys, hd, hks, fun h => x0 (List.append_eq_nil_iff.mp h).1⟩
end
end HT
namespace HT
open PySem PySem.W PySem.Calls PyProof.Rows
section
variable {prog : PySem.Program} {w : World} {A : Around} {E : Value → Shared → Prop} {s : Shared}
/-- the runs in which a display is stored: all but the last of seventeen -/
def Good : List (List Pr) → Prop
  | [] => False
  | [c] => 0 < c.length ∧ c.length < 17
  | c :: cs => c.length = 17 ∧ Good cs
def dispC (w : World) : List (List Pr) → Option Addr → Shared → Shared × Option Addr
  | [], m, s => (s, m)
  | c :: cs, m, s => dispC w cs (flushS w m s c).2 (flushS w m s c).1
theorem good_short {cs : List (List Pr)} (h : Good cs) (hl : cs.flatten.length < 17) : ∃ c, cs = [c] := by
  match cs, h with
  | [c], _ => exact ⟨c, rfl⟩
  | c :: c2 :: cs, h =>
    have h1 : c.length = 17 := h.1
    rw [List.flatten_cons, List.length_append] at hl
    omega
theorem good_long {cs : List (List Pr)} {a b : List Pr} (h : Good cs) (e : a ++ b = cs.flatten) (ha : a.length = 17) : ∃ cs', cs = a :: cs' ∧ Good cs' ∧ b = cs'.flatten := by
  match cs, h with
  | [c], h =>
    have h1 := h.2
    have := congrArg List.length e
    simp at this
    omega
  | c :: c2 :: cs, h =>
    have h1 : c.length = 17 := h.1
    have h2 : Good (c2 :: cs) := h.2
    rw [List.flatten_cons] at e
    obtain ⟨rfl, rfl⟩ := List.append_inj e (by rw [ha, h1])
    exact ⟨_, rfl, h2, rfl⟩
theorem PairsEv.snoc {ps : List Pr} {kvs : List (Sem Value × Sem Value)} {p : Pr} {k v : Sem Value} (h : PairsEv prog w ps kvs) (e : PairEv prog w p k v) : PairsEv prog w (ps ++ [p]) (kvs ++ [(k, v)]) := by
  induction h with
  | nil => exact .cons e .nil
  | cons a _ ih => exact .cons a ih
theorem flushS_size (w : World) (m : Option Addr) (s : Shared) (ps : List Pr) : True := trivial
/-- what is known while the display is walked -/
structure Inv (prog : PySem.Program) (w : World) (fin : Shared × Option Addr) (rest : List (Option (Sem Value) × Sem Value)) (b : Option Addr × List (Sem Value × Sem Value)) (s : Shared) : Prop where
  ex : ∃ (done psr more : List Pr) (kvr : List (Sem Value × Sem Value)) (cs : List (List Pr)), PairsEv prog w psr b.2 ∧ PairsEv prog w more kvr ∧ rest = kvr.map (fun x => (some x.1, x.2)) ∧ psr.length < 17 ∧ (done ++ (psr ++ more)).Nodup ∧ (done ++ (psr ++ more)).length ≤ 1000 ∧
    MainOk prog w b.1 s.heap done ∧ Good cs ∧ psr ++ more = cs.flatten ∧ dispC w cs b.1 s = fin ∧ sysModules < s.heap.objs.size
theorem lt_of_keeps {h h' : Heap} (k : Keeps h h') {a : Addr} (e : (h.get? a).isSome = true) : a < h'.objs.size := by
  obtain ⟨o, ho⟩ := Option.isSome_iff_exists.mp e
  exact Heap.lt_size (k _ _ ho)
end
end HT
namespace HT
open PySem PySem.W PySem.Calls PyProof.Rows
section
variable {prog : PySem.Program} {w : World} {A : Around} {E : Value → Shared → Prop} {s : Shared}
theorem size_pushE (h : Heap) (d : Addr) (e : DictEntry) : (pushE h d e).objs.size = h.objs.size := by
  unfold pushE Heap.update
  simp
theorem size_push (h : Heap) (o : Obj) : (h.push o).objs.size = h.objs.size + 1 := by
  unfold Heap.push
  simp
theorem size_pushAll (d : Addr) : ∀ (es : List DictEntry) (h : Heap), (pushAll h d es).objs.size = h.objs.size
  | [], _ => rfl
  | e :: es, h => by
    show (pushAll (pushE h d e) d es).objs.size = _
    rw [size_pushAll d es, size_pushE]
theorem size_long (d : Addr) : ∀ (ps : List Pr) (s : Shared), s.heap.objs.size ≤ (ps.foldl (put1 w d) s).heap.objs.size
  | [], _ => Nat.le_refl _
  | p :: ps, s => by
    refine Nat.le_trans ?_ (size_long d ps (put1 w d s p))
    show _ ≤ (pushE (s.heap.push _) d _).objs.size
    rw [size_pushE, size_push]
    omega
theorem size_tups : ∀ (ps : List Pr) (s : Shared), s.heap.objs.size ≤ (ps.foldl tup1 s).heap.objs.size
  | [], _ => Nat.le_refl _
  | p :: ps, s => by
    refine Nat.le_trans ?_ (size_tups ps (tup1 s p))
    rw [tup1_size]
    omega
theorem size_sets (d : Addr) : ∀ (zs : List (Pr × Addr)) (s : Shared), s.heap.objs.size ≤ (zs.foldl (set1 w d) s).heap.objs.size
  | [], _ => Nat.le_refl _
  | z :: zs, s => by
    refine Nat.le_trans ?_ (size_sets d zs (set1 w d s z))
    show _ ≤ (pushE s.heap d _).objs.size
    rw [size_pushE]
    exact Nat.le_refl _
theorem size_sub (ps : List Pr) (s : Shared) : s.heap.objs.size ≤ (subS w s ps).heap.objs.size := by
  have h0 : s.heap.objs.size ≤ (newD s).heap.objs.size := by
    rw [newD_size]
    omega
  unfold subS
  split
  · unfold shortS
    exact Nat.le_trans h0 (Nat.le_trans (size_tups _ _) (size_sets _ _ _))
  · exact Nat.le_trans h0 (size_long _ _ _)
theorem size_flush (m : Option Addr) (ps : List Pr) (s : Shared) : s.heap.objs.size ≤ (flushS w m s ps).1.heap.objs.size := by
  cases m with
  | none => exact size_sub ps s
  | some d =>
    show _ ≤ (pushAll _ d _).objs.size
    rw [size_pushAll]
    exact size_sub ps s
/-- the display of all pairs -/
theorem disp_wp (hu : A.units + 8 < cLine) {ps : List Pr} {kvs : List (Sem Value × Sem Value)} {cs : List (List Pr)} {d : Addr} {s2 : Shared} {Q : Value → Shared → Prop} (ev : PairsEv prog w ps kvs) (hnd : ps.Nodup) (hlen : ps.length ≤ 1000) (hg : Good cs) (hc : ps = cs.flatten) (hlow : sysModules < s.heap.objs.size)
    (hf : dispC w cs none s = (s2, some d)) (hQ : Q (.ref d) s2) : wpAny (model prog w) A (dictDisplay (kvs.map fun x => (some x.1, x.2))) Q E s := by
  unfold dictDisplay
  refine wpAny_bind (wpAny_forIn_list _ (Inv prog w (s2, some d)) _ ?_ ?_ _ _ ⟨[], [], ps, kvs, cs, .nil, ev, rfl, by decide, by simpa using hnd, by simpa using hlen, rfl, hg, by simpa using hc, hf, hlow⟩)
  · rintro x rest ⟨m, run⟩ s' ⟨done, psr, more, kvr, cs, e1, e2, e3, e4, e5, e6, e7, e8, e9, e10, e11⟩
    cases e2 with
    | nil => cases e3
    | cons ev evs =>
      rename_i p k v more kvr
      injection e3 with e3 e3'
      subst e3 e3'
      simp only
      have es := e1.snoc ev
      have hlr : (run ++ [(k, v)]).length = psr.length + 1 := by
        have := e1.length
        simp [this]
      by_cases h17 : psr.length + 1 = 17
      · rw [if_pos (by rw [hlr, h17]; rfl)]
        have hcs : (psr ++ [p]) ++ more = cs.flatten := by rw [← e9]; simp
        obtain ⟨cs', rfl, hg', hm'⟩ := good_long e8 hcs (by simp [h17])
        have hne : (run ++ [(k, v)]).isEmpty = false := by simp
        rw [hne]
        simp only [Bool.false_eq_true, if_false]
        have nd1 : (done ++ (psr ++ [p])).Nodup := by
          refine List.Nodup.sublist ?_ e5
          exact List.Sublist.append (List.Sublist.refl _) (List.Sublist.append (List.Sublist.refl _) (by simp))
        have ln1 : (done ++ (psr ++ [p])).length ≤ 1000 := by
          simp at e6 ⊢
          omega
        have nd0 : (psr ++ [p]).Nodup := (List.nodup_append.mp nd1).2.1
        have ln0 : (psr ++ [p]).length ≤ 1000 := by
          simp at e6 ⊢
          omega
        cases m with
        | none =>
          refine wpAny_bind (wpAny_bind (sub_wp hu es nd0 ln0 fun xs hx kx => wpAny_pure (wpAny_pure ?_)))
          have e7' : done = [] := e7
          subst e7'
          refine ⟨psr ++ [p], [], more, kvr, cs', .nil, evs, rfl, by decide, by simpa using e5, by simpa using e6, ⟨xs, hx, kx, ?_⟩, hg', by simpa using hm', e10, Nat.lt_of_lt_of_le e11 (size_flush none _ s')⟩
          exact map_ne_nil kx (by simp)
        | some d' =>
          refine wpAny_bind (wpAny_bind (wpAny_holding (sub_wp hu es nd0 ln0 fun ys hy ky => wpAny_bind (wpAny_onRaise (wpAny_mono (wpAny_holding (more_wp (kvs := []) (E := fun _ _ => False) hu rfl rfl hy ky e7 nd1 ln1 e11 fun hM => ?_)) (fun _ _ z => z) fun _ _ z => z.elim)))))
          refine wpAny_pure (wpAny_pure ?_)
          exact ⟨done ++ (psr ++ [p]), [], more, kvr, cs', .nil, evs, rfl, by decide, by simpa using e5, by simpa using e6, hM, hg', by simpa using hm', e10, Nat.lt_of_lt_of_le e11 (size_flush (some d') _ s')⟩
      · rw [if_neg (by rw [hlr]; simpa using h17)]
        exact wpAny_pure ⟨done, psr ++ [p], more, kvr, cs, es, evs, rfl, by simp; omega, by simpa using e5, by simpa using e6, e7, e8, by simpa using e9, e10, e11⟩
  · rintro ⟨m, run⟩ s' ⟨done, psr, more, kvr, cs, e1, e2, e3, e4, e5, e6, e7, e8, e9, e10, e11⟩
    cases e2 with
    | cons ev evs => cases e3
    | nil =>
      rw [List.append_nil] at e9 e5 e6
      obtain ⟨c, rfl⟩ := good_short e8 (by rw [← e9]; exact e4)
      have ec : psr = c := by simpa using e9
      subst ec
      have hpos : 0 < psr.length := e8.1
      have hne : run.isEmpty = false := by
        have := e1.length
        cases run with
        | nil =>
          have z : psr.length = 0 := this
          rw [z] at hpos
          cases hpos
        | cons _ _ => rfl
      simp only [hne, Bool.false_eq_true, if_false]
      have nd0 : psr.Nodup := (List.nodup_append.mp e5).2.1
      have ln0 : psr.length ≤ 1000 := Nat.le_of_lt (Nat.lt_trans e4 (by decide))
      have hfin : flushS w m s' psr = (s2, some d) := e10
      cases m with
      | none =>
        refine wpAny_bind (wpAny_bind (sub_wp hu e1 nd0 ln0 fun xs hx kx => wpAny_pure ?_))
        have h1 : subS w s' psr = s2 := congrArg Prod.fst hfin
        have h2 : some s'.heap.objs.size = some d := congrArg Prod.snd hfin
        cases h2
        rw [h1]
        exact wpAny_pure hQ
      | some d' =>
        refine wpAny_bind (wpAny_bind (wpAny_holding (sub_wp hu e1 nd0 ln0 fun ys hy ky => wpAny_bind (wpAny_onRaise (wpAny_mono (wpAny_holding (more_wp (kvs := []) (E := fun _ _ => False) hu rfl rfl hy ky e7 e5 e6 e11 fun hM => ?_)) (fun _ _ z => z) fun _ _ z => z.elim)))))
        refine wpAny_pure ?_
        have h1 : (flushS w (some d') s' psr).1 = s2 := congrArg Prod.fst hfin
        have h2 : some d' = some d := congrArg Prod.snd hfin
        cases h2
        rw [h1]
        exact wpAny_pure hQ
end
end HT
noncomputable section
namespace HT
open PySem PySem.W PySem.Calls PyProof.Rows HeadRun
/-! ### the same over the heap as a tree -/
structure Same (s s' : SharedT) : Prop where
  life : s'.life = s.life
  gens : s'.gens = s.gens
  drawn : s'.drawn = s.drawn
  os : s'.os = s.os
theorem Same.refl (s : SharedT) : Same s s := ⟨rfl, rfl, rfl, rfl⟩
theorem Same.trans {a b c : SharedT} (x : Same a b) (y : Same b c) : Same a c := ⟨y.life.trans x.life, y.gens.trans x.gens, y.drawn.trans x.drawn, y.os.trans x.os⟩
def pushT (o : Obj) (k : Nat) (s : SharedT) : Option SharedT := match ((s.tree.ins s.n o).get s.n).isSome with
  | true => frNat (s.n + 1) fun n => frNat (s.toks + k) fun t => some { s with tree := s.tree.ins s.n o, n := n, toks := t }
  | false => none
def entT (d : Addr) (e : DictEntry) (k : Nat) (s : SharedT) : Option SharedT := match s.tree.get d with
  | some _ => frNat (s.toks + k) fun t => some { s with tree := s.tree.set d (Obj.mapDictKeys (·.push e)), toks := t }
  | none => none
theorem pushT_ok {o : Obj} {k : Nat} {s s' : SharedT} (h : pushT o k s = some s') : s'.abs = { s.abs with heap := s.abs.heap.push o, toks := s.abs.toks + k } ∧ Same s s' ∧ s'.n = s.n + 1 := by
  unfold pushT at h
  split at h
  · rename_i e
    rw [frNat_eq, frNat_eq] at h
    cases h
    refine ⟨?_, ⟨rfl, rfl, rfl, rfl⟩, rfl⟩
    show (⟨absHeap (s.tree.ins s.n o) (s.n + 1) s.life, s.gens, s.drawn, s.toks + k, s.os⟩ : Shared) = _
    rw [absHeap_ins e]
    rfl
  · cases h
theorem entT_ok {d : Addr} {e : DictEntry} {k : Nat} {s s' : SharedT} (h : entT d e k s = some s') : s'.abs = { s.abs with heap := pushE s.abs.heap d e, toks := s.abs.toks + k } ∧ Same s s' ∧ s'.n = s.n := by
  unfold entT at h
  split at h
  · rename_i o g
    rw [frNat_eq] at h
    cases h
    refine ⟨?_, ⟨rfl, rfl, rfl, rfl⟩, rfl⟩
    show (⟨absHeap (s.tree.set d _) s.n s.life, s.gens, s.drawn, s.toks + k, s.os⟩ : Shared) = _
    rw [absHeap_set g]
    rfl
  · cases h
def foldT {α : Type} (f : α → SharedT → Option SharedT) : List α → SharedT → Option SharedT
  | [], s => some s
  | a :: as, s => match f a s with
    | some s' => foldT f as s'
    | none => none
theorem foldT_ok {α : Type} {f : α → SharedT → Option SharedT} {g : Shared → α → Shared} (hf : ∀ a s s', f a s = some s' → s'.abs = g s.abs a ∧ Same s s') : ∀ {l : List α} {s s' : SharedT}, foldT f l s = some s' → s'.abs = l.foldl g s.abs ∧ Same s s'
  | [], s, s', h => by
    cases h
    exact ⟨rfl, .refl _⟩
  | a :: as, s, s', h => by
    unfold foldT at h
    split at h
    · rename_i s1 e
      obtain ⟨a1, a2⟩ := hf a s s1 e
      obtain ⟨b1, b2⟩ := foldT_ok hf h
      exact ⟨by rw [b1, a1]; rfl, a2.trans b2⟩
    · cases h
section
variable {w : World}
theorem abs_size (s : SharedT) : s.abs.heap.objs.size = s.n := absHeap_size _ _ _
def put1T (w : World) (d : Addr) (p : Pr) (s : SharedT) : Option SharedT := match pushT (tupO p s.toks) 2 s with
  | some s1 => entT d ⟨(keyOf p).hash w, .ref s.n, .bool true⟩ 3 s1
  | none => none
theorem put1T_ok {d : Addr} {p : Pr} {s s' : SharedT} (h : put1T w d p s = some s') : s'.abs = put1 w d s.abs p ∧ Same s s' := by
  unfold put1T at h
  split at h
  · rename_i s1 e
    obtain ⟨a1, a2, _⟩ := pushT_ok e
    obtain ⟨b1, b2, _⟩ := entT_ok h
    refine ⟨?_, a2.trans b2⟩
    rw [b1, a1]
    unfold put1
    rw [abs_size]
    rfl
  · cases h
def tup1T (p : Pr) (s : SharedT) : Option SharedT := pushT (tupO p s.toks) 2 s
theorem tup1T_ok {p : Pr} {s s' : SharedT} (h : tup1T p s = some s') : s'.abs = tup1 s.abs p ∧ Same s s' := by
  obtain ⟨a, b, _⟩ := pushT_ok h
  exact ⟨a, b⟩
def set1T (w : World) (d : Addr) (x : Pr × Addr) (s : SharedT) : Option SharedT := entT d ⟨(keyOf x.1).hash w, .ref x.2, .bool true⟩ 3 s
theorem set1T_ok {d : Addr} {x : Pr × Addr} {s s' : SharedT} (h : set1T w d x s = some s') : s'.abs = set1 w d s.abs x ∧ Same s s' := by
  obtain ⟨a, b, _⟩ := entT_ok h
  exact ⟨a, b⟩
def subT (w : World) (ps : List Pr) (s : SharedT) : Option SharedT := match pushT dictO 0 s with
  | none => none
  | some s1 => match Nat.ble ps.length 15 with
    | false => foldT (put1T w s.n) ps s1
    | true => match foldT tup1T ps s1 with
      | none => none
      | some s2 => foldT (set1T w s.n) (adrsOf s1.n ps) s2
theorem subT_ok {ps : List Pr} {s s' : SharedT} (h : subT w ps s = some s') : s'.abs = subS w s.abs ps ∧ Same s s' := by
  unfold subT at h
  split at h
  · cases h
  rename_i s1 e1
  obtain ⟨a1, a2, a3⟩ := pushT_ok e1
  have aN : s1.abs = newD s.abs := a1
  have nN : s1.n = (newD s.abs).heap.objs.size := by rw [← aN, abs_size]
  split at h
  · rename_i e2
    have h15 : ¬ ps.length ≤ 15 := fun q => by
      rw [Nat.ble_eq_true_of_le q] at e2
      cases e2
    obtain ⟨b1, b2⟩ := foldT_ok (g := put1 w s.n) (fun a s s' e => put1T_ok e) h
    refine ⟨?_, a2.trans b2⟩
    unfold subS
    rw [if_neg h15, b1, aN, abs_size]
  · rename_i e2
    have h15 : ps.length ≤ 15 := Nat.le_of_ble_eq_true e2
    split at h
    · cases h
    rename_i s2 e3
    obtain ⟨b1, b2⟩ := foldT_ok (g := tup1) (fun a s s' e => tup1T_ok e) e3
    obtain ⟨c1, c2⟩ := foldT_ok (g := set1 w s.n) (fun a s s' e => set1T_ok e) h
    refine ⟨?_, (a2.trans b2).trans c2⟩
    unfold subS shortS
    rw [if_pos h15, c1, b1, aN, nN, abs_size]
def mrgT (d : Addr) (e : DictEntry) (s : SharedT) : Option SharedT := entT d e 0 s
def flushT (w : World) (m : Option Addr) (ps : List Pr) (s : SharedT) : Option (SharedT × Option Addr) := match m with
  | none => match subT w ps s with
    | some s1 => some (s1, some s.n)
    | none => none
  | some d => match subT w ps s with
    | none => none
    | some s1 => match (match getT s1 s.n with
        | some ⟨_, _, .dict es _, _⟩ => some es.toList
        | _ => none : Option (List DictEntry)) with
      | none => none
      | some es => match foldT (mrgT d) es s1 with
        | none => none
        | some s2 => some (s2, some d)
theorem mrg_fold (d : Addr) : ∀ (es : List DictEntry) (s : Shared), es.foldl (fun s e => ({ s with heap := pushE s.heap d e, toks := s.toks + 0 } : Shared)) s = { s with heap := pushAll s.heap d es }
  | [], s => rfl
  | e :: es, s => by
    rw [List.foldl_cons, mrg_fold d es]
    rfl
theorem flushT_ok {m m' : Option Addr} {ps : List Pr} {s s' : SharedT} (h : flushT w m ps s = some (s', m')) : flushS w m s.abs ps = (s'.abs, m') ∧ Same s s' := by
  unfold flushT at h
  split at h
  · split at h
    · rename_i s1 e
      cases h
      obtain ⟨a, b⟩ := subT_ok e
      refine ⟨?_, b⟩
      unfold flushS
      rw [a, abs_size]
    · cases h
  · rename_i d
    split at h
    · cases h
    rename_i s1 e
    obtain ⟨a, b⟩ := subT_ok e
    split at h
    · cases h
    rename_i es e2
    split at h
    · cases h
    rename_i s2 e3
    cases h
    obtain ⟨c1, c2⟩ := foldT_ok (g := fun s e => ({ s with heap := pushE s.heap d e, toks := s.toks + 0 } : Shared)) (fun a s s' e => by
      obtain ⟨x, y, _⟩ := entT_ok e
      exact ⟨x, y⟩) e3
    refine ⟨?_, b.trans c2⟩
    have en : entsAt (subS w s.abs ps).heap s.abs.heap.objs.size = es := by
      rw [← a, abs_size]
      unfold entsAt
      rw [← getT_eq s1 s.n]
      split at e2
      · rename_i g
        cases e2
        first | rfl | rw [g]
      · cases e2
    unfold flushS
    simp only [en]
    rw [c1, mrg_fold, a]
  -- done
def dispT (w : World) : List (List Pr) → Option Addr → SharedT → Option (SharedT × Option Addr)
  | [], m, s => some (s, m)
  | c :: cs, m, s => match flushT w m c s with
    | none => none
    | some x => dispT w cs x.2 x.1
theorem dispT_ok : ∀ {cs : List (List Pr)} {m m' : Option Addr} {s s' : SharedT}, dispT w cs m s = some (s', m') → dispC w cs m s.abs = (s'.abs, m') ∧ Same s s'
  | [], m, m', s, s', h => by
    cases h
    exact ⟨rfl, .refl _⟩
  | c :: cs, m, m', s, s', h => by
    unfold dispT at h
    split at h
    · cases h
    rename_i x e
    obtain ⟨s1, m1⟩ := x
    obtain ⟨a, b⟩ := flushT_ok e
    obtain ⟨c1, c2⟩ := dispT_ok h
    refine ⟨?_, b.trans c2⟩
    unfold dispC
    rw [a]
    exact c1
/-! what stood stays -/
theorem pushAll_keeps {h0 : Heap} {d : Addr} (hd : h0.objs.size ≤ d) (es : List DictEntry) {h : Heap} (k : Keeps h0 h) : Keeps h0 (pushAll h d es) := fun b o e => by
  have hb : b ≠ d := Nat.ne_of_lt (Nat.lt_of_lt_of_le (Heap.lt_size e) hd)
  exact ((pushAll_same d es h).2 b hb).trans (k b o e)
theorem flush_keeps {h0 : Heap} {m : Option Addr} {s : Shared} {ps : List Pr} (k : Keeps h0 s.heap) (hn : h0.objs.size ≤ s.heap.objs.size) (hm : ∀ d, m = some d → h0.objs.size ≤ d) :
    Keeps h0 (flushS w m s ps).1.heap ∧ h0.objs.size ≤ (flushS w m s ps).1.heap.objs.size ∧ ∀ d, (flushS w m s ps).2 = some d → h0.objs.size ≤ d := by
  have k1 : Keeps h0 (subS w s ps).heap := fun b o e => subS_keeps w s ps b o (k b o e)
  refine ⟨?_, Nat.le_trans hn (size_flush m ps s), ?_⟩
  · cases m with
    | none => exact k1
    | some d => exact pushAll_keeps (hm d rfl) _ k1
  · cases m with
    | none =>
      intro d e
      cases e
      exact hn
    | some d =>
      intro d' e
      cases e
      exact hm d rfl
theorem disp_keeps {h0 : Heap} : ∀ {cs : List (List Pr)} {m : Option Addr} {s : Shared}, Keeps h0 s.heap → h0.objs.size ≤ s.heap.objs.size → (∀ d, m = some d → h0.objs.size ≤ d) → Keeps h0 (dispC w cs m s).1.heap
  | [], _, _, k, _, _ => k
  | c :: cs, m, s, k, hn, hm => by
    obtain ⟨a, b, d⟩ := flush_keeps (w := w) (ps := c) k hn hm
    show Keeps h0 (dispC w cs (flushS w m s c).2 (flushS w m s c).1).1.heap
    exact disp_keeps a b d
theorem kp_disp {n0 : Nat} {ann : Option Value} {cs : List (List Pr)} {m' : Option Addr} {s s' : SharedT} (h : dispT w cs none s = some (s', m')) : Kp n0 ann s.abs s'.abs := by
  obtain ⟨a, b⟩ := dispT_ok h
  have k := disp_keeps (w := w) (h0 := s.abs.heap) (cs := cs) (m := none) (s := s.abs) (fun _ _ e => e) (Nat.le_refl _) (fun d e => by cases e)
  rw [a] at k
  exact ⟨b.life, b.os, fun i o _ _ _ _ e => k i o e⟩
end
end HT
noncomputable section
namespace HT
open PySem PySem.W PySem.Calls PyProof.Rows HeadRun
/-! ### the statement that stores the display -/
def pairOf : Option PySem.Expr → PySem.Expr → Option Pr
  | some (.Tuple [.Constant (.str x) _ _, .Constant (.int n) _ _] _ _), .Constant (.bool true) _ _ => some (x, n)
  | _, _ => none
def pairsOf : List (Option PySem.Expr) → List PySem.Expr → Option (List Pr)
  | [], [] => some []
  | k :: ks, v :: vs => match pairOf k v, pairsOf ks vs with
    | some p, some ps => some (p :: ps)
    | _, _ => none
  | _, _ => none
section
variable {p : PySem.Program} {w : World}
theorem pairEv_of {k : Option PySem.Expr} {v : PySem.Expr} {x : Pr} {env : PySem.Env} {pos : Pos} (h : pairOf k v = some x) :
    ∃ m, PySem.evalOpt k env = some m ∧ PairEv p w x m (do
      let y ← PySem.eval v env
      standAt pos
      pure y) := by
  unfold pairOf at h
  split at h
  · cases h
    refine ⟨_, rfl, ⟨fun A E s Q h => ?_, fun A E s Q h => ?_⟩⟩
    · refine wpAny_bind (wpAny_standAt ?_)
      refine wpAny_bind ?_
      show wpAny _ _ (spliced [(false, constValue env (.str _)), (false, constValue env (.int _))]) _ _ _
      unfold spliced
      refine wpAny_bind (wpAny_mkText ?_)
      refine wpAny_bind (wpAny_pure ?_)
      refine wpAny_bind (wpAny_holding ?_)
      unfold spliced
      refine wpAny_bind (wpAny_mkInt ?_)
      refine wpAny_bind (wpAny_pure ?_)
      refine wpAny_bind (wpAny_holding ?_)
      unfold spliced
      refine wpAny_pure ?_
      refine wpAny_pure ?_
      refine wpAny_pure ?_
      exact wpAny_newTuple h (by show 2 ≤ sizeLine; decide)
    · refine wpAny_bind (wpAny_pure ?_)
      exact wpAny_bind (wpAny_standAt (wpAny_pure h))
  · cases h
theorem pairsEv_of {env : PySem.Env} {pos : Pos} : ∀ {ks : List (Option PySem.Expr)} {vs : List PySem.Expr} {ps : List Pr}, pairsOf ks vs = some ps →
    ∃ kvs, (PySem.evalEachOpt ks env).zip ((PySem.evalEach vs env).map fun v => (do
      let y ← v
      standAt pos
      pure y : Sem Value)) = kvs.map (fun x => (some x.1, x.2)) ∧ PairsEv p w ps kvs
  | [], [], ps, h => by
    cases h
    exact ⟨[], rfl, .nil⟩
  | k :: ks, v :: vs, ps, h => by
    unfold pairsOf at h
    split at h
    · rename_i a as e1 e2
      cases h
      obtain ⟨m, hm, ev⟩ := pairEv_of (p := p) (w := w) (env := env) (pos := pos) e1
      obtain ⟨kvs, hz, evs⟩ := pairsEv_of (env := env) (pos := pos) e2
      refine ⟨(m, _) :: kvs, ?_, .cons ev evs⟩
      show ((PySem.evalOpt k env) :: PySem.evalEachOpt ks env).zip (_ :: (PySem.evalEach vs env).map _) = _
      rw [List.zip_cons_cons, hz, hm]
      rfl
    · cases h
  | [], _ :: _, _, h => by cases h
  | _ :: _, [], _, h => by cases h
end
end HT
noncomputable section
namespace HT
open PySem PySem.W PySem.Calls PyProof.Rows HeadRun
def asg1 (ts : List PySem.Expr) (value : PySem.Expr) (pos : Pos) (env : PySem.Env) : Sem Flow := do
  standAt pos
  let b ← PySem.swapsWithSole ts value pos.line env
  if b then unsupported "a swap" else pure .next
def asg2 (ts : List PySem.Expr) (value : PySem.Expr) (env : PySem.Env) (v : Value) : Sem Flow := do
  let sw ← PySem.swappedStores ts value env
  PySem.assignStores env v sw ((PySem.assignEach ts env).map (·.2))
section
variable {p : PySem.Program} {w : World}
theorem exec_asg {Γ : Ctx} {ts : List PySem.Expr} {value : PySem.Expr} {pos p0 : Pos} {env : PySem.Env} {Q : Flow → Pos → Shared → Prop} {s s1 : Shared} (h1 : Sem.wp (model p w) Γ (asg1 ts value pos env) (Nx s1) NoE p0 s)
    (h2 : ∀ p1, Sem.wp (model p w) Γ (PySem.eval value env) (fun v p2 s2 => Sem.wp (model p w) Γ (asg2 ts value env v) Q NoE p2 s2) NoE p1 s1) : Sem.wp (model p w) Γ (exec (.Assign ts value pos) env) Q NoE p0 s := by
  unfold asg1 at h1
  rw [Sem.wp_bind'] at h1
  rw [arm_exec_Assign, Sem.wp_bind']
  refine Sem.wp_mono _ _ _ (fun _ p1 s2 g => ?_) (fun _ _ _ x => x) _ _ h1
  rw [Sem.wp_bind'] at g ⊢
  refine Sem.wp_mono _ _ _ (fun b p2 s3 g2 => ?_) (fun _ _ _ x => x) _ _ g
  cases b with
  | true => exact False.elim g2
  | false =>
    have e : s3 = s1 := g2.2
    subst e
    have h3 := h2 p2
    show Sem.wp (model p w) Γ (PySem.eval value env >>= fun v => asg2 ts value env v) Q NoE p2 s3
    rw [Sem.wp_bind']
    exact h3
/-- .. by the library's twins -/
def swapsQ : List PySem.Expr → PySem.Expr → Nat → PySem.Env → Sem Bool := PySem.W.Fast.tw7783108440312521181
theorem swapsQ_eq : @PySem.swapsWithSole = swapsQ := PySem.W.Fast.te7783108440312521181
def swappedQ : List PySem.Expr → PySem.Expr → PySem.Env → Sem (Option (List PySem.Str)) := PySem.W.Fast.tw4016559146275205325
theorem swappedQ_eq : @PySem.swappedStores = swappedQ := PySem.W.Fast.te4016559146275205325
def storesQ : PySem.Env → Value → Option (List PySem.Str) → List (Value → Sem Unit) → Sem Flow := PySem.W.Fast.tw2470068587113613483
theorem storesQ_eq : @PySem.assignStores = storesQ := PySem.W.Fast.te2470068587113613483
def eachQ : List PySem.Expr → PySem.Env → List (Bool × (Value → Sem Unit)) := PySem.W.Fast.tw15628205474173192105
theorem eachQ_eq : @PySem.assignEach = eachQ := PySem.W.Fast.te15628205474173192105
def asg1Q (ts : List PySem.Expr) (value : PySem.Expr) (pos : Pos) (env : PySem.Env) : Sem Flow := do
  standAt pos
  let b ← swapsQ ts value pos.line env
  if b then unsupported "a swap" else pure .next
theorem asg1Q_eq (ts : List PySem.Expr) (value : PySem.Expr) (pos : Pos) (env : PySem.Env) : asg1 ts value pos env = asg1Q ts value pos env := by
  unfold asg1 asg1Q
  rw [swapsQ_eq]
def asg2Q (ts : List PySem.Expr) (value : PySem.Expr) (env : PySem.Env) (v : Value) : Sem Flow := do
  let sw ← swappedQ ts value env
  storesQ env v sw ((eachQ ts env).map (·.2))
theorem asg2Q_eq (ts : List PySem.Expr) (value : PySem.Expr) (env : PySem.Env) (v : Value) : asg2 ts value env v = asg2Q ts value env v := by
  unfold asg2 asg2Q
  rw [swappedQ_eq, storesQ_eq, eachQ_eq]
/-! ### a text with such a display -/
/-- the statement, and what stands around it -/
structure DispSt where
  pre : List Stmt
  ts : List PySem.Expr
  keys : List (Option PySem.Expr)
  vals : List PySem.Expr
  dpos : Pos
  pos : Pos
  post : List Stmt
  cs : List (List Pr)
def DispSt.val (x : DispSt) : PySem.Expr := .Dict x.keys x.vals x.dpos
def piece (p : PySem.Program) (w : World) (n0 : Nat) (ann : Option Value) (M : Nat) (cv : Value) (fv : Addr) (q pC : Pos) (m : Sem Flow) (s : SharedT) : Option SharedT := goQ p w n0 ann M s ⟨nxt m, .body (bdy p) (ev0 p cv fv), pC, [fr q]⟩
def chainD (p : PySem.Program) (w : World) (n0 : Nat) (ann : Option Value) (M : Nat) (cv : Value) (fv : Addr) (x : DispSt) (q pB p1 p2 p3 p4 : Pos) : Option (SharedT × SharedT) := match openQ p w n0 ann M with
  | none => none
  | some s0 => match headA p w n0 ann M cv fv s0 with
    | none => none
    | some sA => match headB p w n0 ann M cv fv q pB sA with
      | none => none
      | some sB => match bodyC p w n0 ann M cv fv q p1 x.pre sB with
        | none => none
        | some s1 => match piece p w n0 ann M cv fv q p2 (asg1Q x.ts x.val x.pos (ev0 p cv fv)) s1 with
          | none => none
          | some s2 => match Nat.blt sysModules s2.n with
            | false => none
            | true => match dispT w x.cs none s2 with
              | some (s3, some d) => (match piece p w n0 ann M cv fv q p3 (asg2Q x.ts x.val (ev0 p cv fv) (.ref d)) s3 with
                | none => none
                | some s4 => match bodyC p w n0 ann M cv fv q p4 x.post s4 with
                  | none => none
                  | some s5 => some (s0, s5))
              | _ => none
structure DispOk (p : PySem.Program) (cv : Value) (fv : Addr) (x : DispSt) : Prop where
  split : bdy p = x.pre ++ (.Assign x.ts x.val x.pos :: x.post)
  pairs : pairsOf x.keys x.vals = some x.cs.flatten
  good : Good x.cs
  nodup : x.cs.flatten.Nodup
  len : x.cs.flatten.length ≤ 1000
  room : ∀ q, (Γb p cv fv q).units + 8 < cLine
structure Parts (p : PySem.Program) (w : World) (n0 : Nat) (ann : Option Value) (M : Nat) (cv : Value) (fv : Addr) (x : DispSt) (q pB p1 p2 p3 p4 : Pos) (s0 sA sB s1 s2 s3 s4 s5 : SharedT) (d : Addr) : Prop where
  e0 : openQ p w n0 ann M = some s0
  eA : headA p w n0 ann M cv fv s0 = some sA
  eB : headB p w n0 ann M cv fv q pB sA = some sB
  e1 : bodyC p w n0 ann M cv fv q p1 x.pre sB = some s1
  e2 : piece p w n0 ann M cv fv q p2 (asg1Q x.ts x.val x.pos (ev0 p cv fv)) s1 = some s2
  el : sysModules < s2.n
  e3 : dispT w x.cs none s2 = some (s3, some d)
  e4 : piece p w n0 ann M cv fv q p3 (asg2Q x.ts x.val (ev0 p cv fv) (.ref d)) s3 = some s4
  e5 : bodyC p w n0 ann M cv fv q p4 x.post s4 = some s5
theorem parts_of {n0 : Nat} {ann : Option Value} {M : Nat} {cv : Value} {fv : Addr} {x : DispSt} {q pB p1 p2 p3 p4 : Pos} {s0 s5 : SharedT} (h : chainD p w n0 ann M cv fv x q pB p1 p2 p3 p4 = some (s0, s5)) :
    ∃ sA sB s1 s2 s3 s4 d, Parts p w n0 ann M cv fv x q pB p1 p2 p3 p4 s0 sA sB s1 s2 s3 s4 s5 d := by
  unfold chainD at h
  split at h
  · cases h
  rename_i y0 e0
  split at h
  · cases h
  rename_i yA eA
  split at h
  · cases h
  rename_i yB eB
  split at h
  · cases h
  rename_i y1 e1
  split at h
  · cases h
  rename_i y2 e2
  split at h
  · cases h
  rename_i el
  split at h
  · rename_i y3 d e3
    split at h
    · cases h
    rename_i y4 e4
    split at h
    · cases h
    rename_i y5 e5
    cases h
    exact ⟨_, _, _, _, _, _, _, e0, eA, eB, e1, e2, Nat.le_of_ble_eq_true el, e3, e4, e5⟩
  · cases h
theorem piece_wp {n0 M : Nat} {ann : Option Value} {s s' : SharedT} {m : Sem Flow} {cv : Value} {fv : Addr} {qp pos : Pos} (h : piece p w n0 ann M cv fv qp pos m s = some s') (g : s'.gens = #[]) : Sem.wp (model p w) (Γb p cv fv qp) m (Nx s'.abs) NoE pos s.abs :=
  wp_of_piece (goQ_ok h) (show s'.abs.gens = #[] from g)
def aroundOf (Γ : Ctx) : Around := { handled := Γ.handled, depth := frameCount Γ.below + Γ.code.weight, frames := none, guards := none, units := Γ.units }
theorem in_around (Γ : Ctx) : Γ.In (aroundOf Γ) := ⟨rfl, Nat.le_refl _, (fun l h => by cases h), (fun g h => by cases h), Nat.le_refl _⟩
theorem disp_runs {q : PySem.Program} {loose : List PySem.Str} {Xt : Shared → Bool} {YP : World → Heap → Prop} {n0 M : Nat} {ann : Option Value} {cv : Value} {fv : Addr} {x : DispSt} (ok : DispOk p cv fv x)
    (h : ∀ qp pB p1 p2 p3 p4, ∃ s0 s5, chainD p w n0 ann M cv fv x qp pB p1 p2 p3 p4 = some (s0, s5) ∧ Shown p q loose Xt YP w s0.abs s5.abs) : ∃ ann S0, Opened p w ann S0 ∧ Runs3 p q loose Xt YP w ann S0 := by
  have parts : ∀ qp pB p1 p2 p3 p4, ∃ s0 sA sB s1 s2 s3 s4 s5 d, Parts p w n0 ann M cv fv x qp pB p1 p2 p3 p4 s0 sA sB s1 s2 s3 s4 s5 d ∧ Shown p q loose Xt YP w s0.abs s5.abs ∧ sA.gens = #[] ∧ sB.gens = #[] ∧ s1.gens = #[] ∧ s2.gens = #[] ∧ s4.gens = #[] := fun qp pB p1 p2 p3 p4 => by
    obtain ⟨s0, s5, e, sh⟩ := h qp pB p1 p2 p3 p4
    obtain ⟨sA, sB, s1, s2, s3, s4, d, P⟩ := parts_of e
    have g4 : s4.gens = #[] := gens_down P.e5 sh.gens
    have g3 : s3.gens = #[] := gens_down P.e4 g4
    have g2 : s2.gens = #[] := by
      have := (dispT_ok P.e3).2.gens
      rw [← this]
      exact g3
    have g1 : s1.gens = #[] := gens_down P.e2 g2
    have gB : sB.gens = #[] := gens_down P.e1 g1
    exact ⟨_, _, _, _, _, _, _, _, _, P, sh, gens_down P.eB gB, gB, g1, g2, g4⟩
  obtain ⟨s0, sA, sB, s1, s2, s3, s4, s5, d, P, _, gA, _⟩ := parts default default default default default default
  obtain ⟨O, hn⟩ := openQ_ok P.e0
  refine ⟨ann, s0.abs, O, runs3_of O P.eA gA (fun qp pB => ?_) (fun qp pB sB' hB k z pC => ?_)⟩
  · obtain ⟨t0, tA, tB, t1, t2, t3, t4, t5, d', P', _, _, gB, _⟩ := parts qp pB default default default default
    have := P.e0.symm.trans P'.e0
    cases this
    have := P.eA.symm.trans P'.eA
    cases this
    exact ⟨_, P'.eB, gB⟩
  · rw [ok.split]
    refine execs_app_wp ?_
    obtain ⟨t0, tA, tB, t1, t2, t3, t4, t5, d', P', _, _, _, g1, _⟩ := parts qp pB pC default default default
    have := P.e0.symm.trans P'.e0
    cases this
    have := P.eA.symm.trans P'.eA
    cases this
    have := hB.symm.trans P'.eB
    cases this
    have k1 := k.trans (kp_top z (goQ_ok P'.e1))
    refine Sem.wp_mono _ _ _ (fun f p2 sx hx => ?_) (fun _ _ _ y => y) _ _ (body_wp P'.e1 g1)
    obtain ⟨rfl, rfl⟩ := hx
    refine ⟨rfl, execs_one_wp ?_⟩
    obtain ⟨u0, uA, uB, u1, u2, u3, u4, u5, d2, P2, _, _, _, _, g2, _⟩ := parts qp pB pC p2 default default
    have := P.e0.symm.trans P2.e0
    cases this
    have := P.eA.symm.trans P2.eA
    cases this
    have := hB.symm.trans P2.eB
    cases this
    have := P'.e1.symm.trans P2.e1
    cases this
    have k2 := k1.trans (kp_top (k1.asleep O.asleep) (goQ_ok P2.e2))
    have w2 := piece_wp P2.e2 g2
    rw [← asg1Q_eq] at w2
    refine exec_asg w2 fun px => ?_
    obtain ⟨dw, _⟩ := dispT_ok P2.e3
    have k3 : Kp n0 ann s0.abs u3.abs := k2.trans (kp_disp P2.e3)
    have hd : wpAny (model p w) (aroundOf (Γb p cv fv qp)) (PySem.eval x.val (ev0 p cv fv)) (fun v s' => v = .ref d2 ∧ s' = u3.abs) (fun _ _ => False) u2.abs := by
      show wpAny _ _ (PySem.eval (.Dict x.keys x.vals x.dpos) (ev0 p cv fv)) _ _ _
      rw [arm_eval_Dict]
      refine wpAny_bind (wpAny_standAt ?_)
      obtain ⟨kvs, hz, ev⟩ := pairsEv_of (p := p) (w := w) (env := ev0 p cv fv) (pos := x.dpos) ok.pairs
      rw [hz]
      refine disp_wp (ok.room qp) ev ok.nodup ok.len ok.good rfl ?_ dw ⟨rfl, rfl⟩
      rw [abs_size]
      exact P2.el
    refine Sem.wp_mono _ _ _ (fun v p3 sy hy => ?_) (fun _ _ _ y => y.elim) _ _ (hd (Γb p cv fv qp) px (in_around _))
    obtain ⟨rfl, rfl⟩ := hy
    obtain ⟨v0, vA, vB, v1, v2, v3, v4, v5, d3, P3, _, _, _, _, _, g4⟩ := parts qp pB pC p2 p3 default
    have := P.e0.symm.trans P3.e0
    cases this
    have := P.eA.symm.trans P3.eA
    cases this
    have := hB.symm.trans P3.eB
    cases this
    have := P'.e1.symm.trans P3.e1
    cases this
    have := P2.e2.symm.trans P3.e2
    cases this
    have := P2.e3.symm.trans P3.e3
    cases this
    have k4 := k3.trans (kp_top (k3.asleep O.asleep) (goQ_ok P3.e4))
    have w4 := piece_wp P3.e4 g4
    rw [← asg2Q_eq] at w4
    refine Sem.wp_mono _ _ _ (fun f p4 sz hz => ?_) (fun _ _ _ y => y) _ _ w4
    obtain ⟨rfl, rfl⟩ := hz
    refine ⟨rfl, ?_⟩
    obtain ⟨x0, xA, xB, x1, x2, x3, x4, x5, d4, P4, sh, _⟩ := parts qp pB pC p2 p3 p4
    have := P.e0.symm.trans P4.e0
    cases this
    have := P.eA.symm.trans P4.eA
    cases this
    have := hB.symm.trans P4.eB
    cases this
    have := P'.e1.symm.trans P4.e1
    cases this
    have := P2.e2.symm.trans P4.e2
    cases this
    have := P2.e3.symm.trans P4.e3
    cases this
    have := P3.e4.symm.trans P4.e4
    cases this
    have k5 := k4.trans (kp_top (k4.asleep O.asleep) (goQ_ok P4.e5))
    exact Sem.wp_mono _ _ _ (fun _ _ s y => ⟨y.1, y.2 ▸ ran_of hn k5 sh⟩) (fun _ _ _ y => y) _ _ (body_wp P4.e5 sh.gens)
end
end HT
noncomputable section
namespace HT
open PySem PySem.W PySem.Calls PyProof.Rows HeadRun Itp
section
variable {l : PySem.W.OpenLaw} {q : PySem.Program} {loose : List PySem.Str} {as : List Addr} {w : World} {T : Tab} {rows : List Itp.Row} {globs : List D} {kds : List (List (PySem.Str × D))} {cs es : List Nat} {subT : List (Nat × Nat × Bool)}
/-- the equation that the kernel reckons, for a text with a display whose keys are tuples -/
def EqD (l : PySem.W.OpenLaw) (q : PySem.Program) (loose : List PySem.Str) (as : List Addr) (T : Tab) (rows : List Itp.Row) (globs : List D) (kds : List (List (PySem.Str × D))) (cs es : List Nat) (subT : List (Nat × Nat × Bool)) (n0 : Nat) (ann : Option Value) (M : Nat) (cv : Value) (fv : Addr) (x : DispSt) (w : World) : Prop :=
  ∀ qp pB p1 p2 p3 p4, ((chainD l.prog w n0 ann M cv fv x qp pB p1 p2 p3 p4).isSome, (chainD l.prog w n0 ann M cv fv x qp pB p1 p2 p3 p4).map (shL l q loose as T rows kds cs es subT)) = (true, (chainD l.prog w n0 ann M cv fv x qp pB p1 p2 p3 p4).map (shR q loose as w T rows globs kds cs es))
theorem behind_disp {n0 : Nat} {ann : Option Value} {M : Nat} {cv : Value} {fv : Addr} {x : DispSt} (ok : DispOk l.prog cv fv x) (hch : chainsOk q = true) (h : ∀ w, EqD l q loose as T rows globs kds cs es subT n0 ann M cv fv x w) :
    Behind l.row.prog q loose (XL q []) (YP0 q T rows globs kds cs es subT) :=
  behind_of (p := l.prog) (Xt := Xt0 l q) (fun s e => xl_of s (Bool.and_eq_true_iff.mp e).1) hch fun w => disp_runs (p := l.prog) ok fun qp pB p1 p2 p3 p4 => by
    obtain ⟨⟨s0, s3⟩, e, sh⟩ := map_eq_of (h w qp pB p1 p2 p3 p4)
    exact ⟨s0, s3, e, shown_of sh⟩
/-- the display of a text's i-th statement behind the imports, its keys by seventeens -/
def chunks : Nat → List Pr → List (List Pr)
  | 0, _ => []
  | n + 1, ps => if ps.length < 17 then (if ps.isEmpty then [] else [ps]) else ps.take 17 :: chunks n (ps.drop 17)
def dispAt (b : List Stmt) (i : Nat) : DispSt := match b[i]? with
  | some (.Assign ts (.Dict keys vals dpos) pos) => ⟨b.take i, ts, keys, vals, dpos, pos, b.drop (i + 1), chunks 20 ((pairsOf keys vals).getD [])⟩
  | _ => ⟨[], [], [], [], default, default, [], []⟩
def goodB : List (List Pr) → Bool
  | [] => false
  | [c] => Nat.blt 0 c.length && Nat.blt c.length 17
  | c :: cs => Nat.beq c.length 17 && goodB cs
theorem good_of : ∀ {cs : List (List Pr)}, goodB cs = true → Good cs
  | [], h => by cases h
  | [c], h => by
    have h1 := Bool.and_eq_true_iff.mp h
    exact ⟨Nat.le_of_ble_eq_true h1.1, Nat.le_of_ble_eq_true h1.2⟩
  | c :: c2 :: cs, h => by
    have h1 := Bool.and_eq_true_iff.mp h
    exact ⟨Nat.eq_of_beq_eq_true h1.1, good_of h1.2⟩
def roomB (p : PySem.Program) (cv : Value) (fv : Addr) : Bool := Nat.ble ((Γb p cv fv default).units + 9) cLine
theorem room_of {p : PySem.Program} {cv : Value} {fv : Addr} (h : roomB p cv fv = true) : ∀ q, (Γb p cv fv q).units + 8 < cLine := fun q => by
  have := Nat.le_of_ble_eq_true h
  exact this
end
end HT
noncomputable section
namespace HT
open PySem PySem.W PySem.Calls PyProof.Rows HeadRun Itp
section
variable {l : PySem.W.OpenLaw} {q : PySem.Program} {loose : List PySem.Str} {as : List Addr} {w : World} {T : Tab} {rows : List Itp.Row} {globs : List D} {kds : List (List (PySem.Str × D))} {cs es : List Nat} {subT : List (Nat × Nat × Bool)}
/-- that equation in two: of what is bound at the top .. -/
def EqD1 (l : PySem.W.OpenLaw) (q : PySem.Program) (as : List Addr) (T : Tab) (rows : List Itp.Row) (globs : List D) (kds : List (List (PySem.Str × D))) (cs es : List Nat) (subT : List (Nat × Nat × Bool)) (n0 : Nat) (ann : Option Value) (M : Nat) (cv : Value) (fv : Addr) (x : DispSt) (w : World) : Prop :=
  ∀ qp pB p1 p2 p3 p4, ((chainD l.prog w n0 ann M cv fv x qp pB p1 p2 p3 p4).isSome, (chainD l.prog w n0 ann M cv fv x qp pB p1 p2 p3 p4).map (fun x => (x.2.gens.size, topsL (Kof as x.2) q T rows kds cs es subT))) = (true, (chainD l.prog w n0 ann M cv fv x qp pB p1 p2 p3 p4).map (fun x => ((0 : Nat), topsR (Kof as x.2) w T rows globs kds cs es)))
/-- .. and of what is looked at once the top has run -/
def EqD2 (l : PySem.W.OpenLaw) (q : PySem.Program) (loose : List PySem.Str) (n0 : Nat) (ann : Option Value) (M : Nat) (cv : Value) (fv : Addr) (x : DispSt) (w : World) : Prop :=
  ∀ qp pB p1 p2 p3 p4, (chainD l.prog w n0 ann M cv fv x qp pB p1 p2 p3 p4).map (fun x => (looks0 l.prog x.1.abs.heap x.2.abs.heap, seenQ q loose (importedModules l.prog.main.body) (Xt0 l q) x.2.abs)) = (chainD l.prog w n0 ann M cv fv x qp pB p1 p2 p3 p4).map (fun _ => (true, openGood q loose))
theorem eqD_of {n0 : Nat} {ann : Option Value} {M : Nat} {cv : Value} {fv : Addr} {x : DispSt} (h1 : EqD1 l q as T rows globs kds cs es subT n0 ann M cv fv x w) (h2 : EqD2 l q loose n0 ann M cv fv x w) : EqD l q loose as T rows globs kds cs es subT n0 ann M cv fv x w := by
  intro qp pB p1 p2 p3 p4
  have a := h1 qp pB p1 p2 p3 p4
  have b := h2 qp pB p1 p2 p3 p4
  generalize chainD l.prog w n0 ann M cv fv x qp pB p1 p2 p3 p4 = c at a b ⊢
  cases c with
  | none => cases a
  | some y =>
    simp only [Option.map_some, Option.isSome_some, Prod.mk.injEq, Option.some.injEq, true_and] at a b ⊢
    unfold shL shR
    rw [a.1, a.2, b.1, b.2]
end
end HT
namespace K12
open Itp L2 PySem.Spec PyProof.Rows PySem
def topS (i : Nat) : Stmt := PySem.Challenge.pw_towerwise_k12_exact_refused.main.body.getD i (.Pass ⟨0, 0, 0, 0⟩)
def b0 : List S := [.ret (.bop true [(.blt .isinst [(.var 0), (.lit (.ty .int))]), (.not (.blt .isinst [(.var 0), (.lit (.ty .bool))]))])]
def r0 : Itp.Row := { x := (Str.ofString "is_whole"), st := topS 23, N := [(Str.ofString "thing")], ps := [(Str.ofString "thing")], top := 0, lam := false }
def f0 : Fn := ⟨1, 1, false, b0⟩
def b1 : List S := [.ret (.bop true [(.call 0 [(.var 0)]), (.chain .le .le (.var 1) (.var 0) (.var 2))])]
def r1 : Itp.Row := { x := (Str.ofString "is_among"), st := topS 24, N := [(Str.ofString "thing"), (Str.ofString "least"), (Str.ofString "most")], ps := [(Str.ofString "thing"), (Str.ofString "least"), (Str.ofString "most")], top := 0, lam := false }
def f1 : Fn := ⟨3, 3, false, b1⟩
def b2 : List S := [.ret (.bop true [(.blt .isinst [(.var 0), (.lit (.ty .str))]), (.cmp .isin (.var 0) (.glob 0))])]
def r2 : Itp.Row := { x := (Str.ofString "is_deed"), st := topS 25, N := [(Str.ofString "thing")], ps := [(Str.ofString "thing")], top := 0, lam := false }
def f2 : Fn := ⟨1, 1, false, b2⟩
def b3 : List S := [.ifs (.not (.blt .isinst [(.var 0), (.lit (.ty .tuple))])) [.ret (.lit (.bl false))] [], .set 1 (.blt .len [(.var 0)]), .ifs (.cmp .eq (.var 1) (.lit (.int 2))) [.setT (.tup [(.name 2), (.name 3)]) (.var 0), .ret (.bop true [(.blt .isinst [(.var 2), (.lit (.ty .str))]), (.bop false [(.tyis false (.var 3)), (.call 0 [(.var 3)])]), (.kinT false (.tup [(.var 2), (.var 3)]) 0)])] [], .ifs (.bop false [(.cmp .eq (.var 1) (.lit (.int 0))), (.not (.blt .isinst [(.ix (.var 0) (.lit (.int 0))), (.lit (.ty .str))]))]) [.ret (.lit (.bl false))] [], .ifs (.cmp .eq (.var 1) (.lit (.int 1))) [.ret (.cmp .isin (.ix (.var 0) (.lit (.int 0))) (.tup [(.lit (.str (Str.ofString "whole"))), (.lit (.str (Str.ofString "share")))]))] [], .ret (.bop true [(.cmp .eq (.var 1) (.lit (.int 3))), (.cmp .eq (.ix (.var 0) (.lit (.int 0))) (.lit (.str (Str.ofString "own")))), (.call 4 [(.ix (.var 0) (.lit (.int 1))), (.ix (.var 0) (.lit (.int 2)))])])]
def r3 : Itp.Row := { x := (Str.ofString "is_kind"), st := topS 30, N := [(Str.ofString "thing"), (Str.ofString "many"), (Str.ofString "word"), (Str.ofString "number")], ps := [(Str.ofString "thing")], top := 0, lam := false }
def f3 : Fn := ⟨1, 4, false, b3⟩
def b4 : List S := [.ifs (.bop false [(.not (.blt .isinst [(.var 0), (.lit (.ty .tuple))])), (.not (.blt .isinst [(.var 1), (.lit (.ty .tuple))]))]) [.ret (.lit (.bl false))] [], .set 2 (.blt .len [(.var 0)]), .ret (.bop true [(.chain .le .le (.lit (.int 2)) (.var 2) (.lit (.int 6))), (.cmp .eq (.blt .len [(.var 1)]) (.var 2)), (.call 5 [(.bin .add (.var 0) (.var 1)), (.var 2)])])]
def r4 : Itp.Row := { x := (Str.ofString "_are_tables"), st := topS 31, N := [(Str.ofString "plus"), (Str.ofString "times"), (Str.ofString "many")], ps := [(Str.ofString "plus"), (Str.ofString "times")], top := 0, lam := false }
def f4 : Fn := ⟨2, 3, false, b4⟩
def b5 : List S := [.set 2 (.ix (.glob 2) (.var 1)), .fors (.name 3) .seq [(.var 0)] [.ifs (.bop false [(.not (.blt .isinst [(.var 3), (.lit (.ty .tuple))])), (.cmp .ne (.blt .len [(.var 3)]) (.var 1))]) [.ret (.lit (.bl false))] [], .setT (.tup [(.name 4), (.name 5), (.name 6), (.name 7), (.name 8), (.name 9)]) (.bin .add (.var 3) (.var 2)), .ifs (.bop true [(.tyis false (.var 4)), (.tyis false (.var 5)), (.tyis false (.var 6)), (.tyis false (.var 7)), (.tyis false (.var 8)), (.tyis false (.var 9))]) [.ifs (.bop false [(.cmp .lt (.var 4) (.lit (.int 0))), (.cmp .ge (.var 4) (.var 1)), (.cmp .lt (.var 5) (.lit (.int 0))), (.cmp .ge (.var 5) (.var 1)), (.cmp .lt (.var 6) (.lit (.int 0))), (.cmp .ge (.var 6) (.var 1)), (.cmp .lt (.var 7) (.lit (.int 0))), (.cmp .ge (.var 7) (.var 1)), (.cmp .lt (.var 8) (.lit (.int 0))), (.cmp .ge (.var 8) (.var 1)), (.cmp .lt (.var 9) (.lit (.int 0))), (.cmp .ge (.var 9) (.var 1))]) [.ret (.lit (.bl false))] []] [.ifs (.not (.call 6 [(.var 3), (.var 1), (.var 1)])) [.ret (.lit (.bl false))] []]], .ret (.lit (.bl true))]
def r5 : Itp.Row := { x := (Str.ofString "_are_rows"), st := topS 32, N := [(Str.ofString "rows"), (Str.ofString "many"), (Str.ofString "filling"), (Str.ofString "row"), (Str.ofString "one"), (Str.ofString "two"), (Str.ofString "three"), (Str.ofString "four"), (Str.ofString "five"), (Str.ofString "six")], ps := [(Str.ofString "rows"), (Str.ofString "many")], top := 0, lam := false }
def f5 : Fn := ⟨2, 10, false, b5⟩
def b6 : List S := [.ifs (.bop false [(.not (.blt .isinst [(.var 0), (.lit (.ty .tuple))])), (.cmp .ne (.blt .len [(.var 0)]) (.var 1))]) [.ret (.lit (.bl false))] [], .fors (.name 3) .seq [(.var 0)] [.ifs (.bop false [(.bop true [(.tyis true (.var 3)), (.not (.call 0 [(.var 3)]))]), (.not (.chain .le .lt (.lit (.int 0)) (.var 3) (.var 2)))]) [.ret (.lit (.bl false))] []], .ret (.lit (.bl true))]
def r6 : Itp.Row := { x := (Str.ofString "is_row"), st := topS 33, N := [(Str.ofString "thing"), (Str.ofString "length"), (Str.ofString "many"), (Str.ofString "number")], ps := [(Str.ofString "thing"), (Str.ofString "length"), (Str.ofString "many")], top := 0, lam := false }
def f6 : Fn := ⟨3, 4, false, b6⟩
def b7 : List S := [.ifs (.not (.call 3 [(.var 0)])) [.raise 1 (Str.ofString "this is no kind")] []]
def r7 : Itp.Row := { x := (Str.ofString "need_kind"), st := topS 34, N := [(Str.ofString "thing")], ps := [(Str.ofString "thing")], top := 0, lam := false }
def f7 : Fn := ⟨1, 1, false, b7⟩
def b8 : List S := [.ex (.call 7 [(.var 0)]), .ifs (.cmp .notin (.ix (.var 0) (.lit (.int 0))) (.var 1)) [.raise 1 (Str.ofString "a kind of another word is wanted here")] []]
def r8 : Itp.Row := { x := (Str.ofString "need_kind_of"), st := topS 35, N := [(Str.ofString "kind"), (Str.ofString "words")], ps := [(Str.ofString "kind"), (Str.ofString "words")], top := 0, lam := false }
def f8 : Fn := ⟨2, 2, false, b8⟩
def b9 : List S := [.ex (.call 7 [(.var 0)]), .ret (.cmp .isin (.ix (.var 0) (.lit (.int 0))) (.glob 1))]
def r9 : Itp.Row := { x := (Str.ofString "is_finite"), st := topS 36, N := [(Str.ofString "kind")], ps := [(Str.ofString "kind")], top := 0, lam := false }
def f9 : Fn := ⟨1, 1, false, b9⟩
def b10 : List S := [.ifs (.not (.call 9 [(.var 0)])) [.raise 5 (Str.ofString "this kind has no last worth")] [], .ret (.call 11 [(.var 0)])]
def r10 : Itp.Row := { x := (Str.ofString "many_worths"), st := topS 37, N := [(Str.ofString "kind")], ps := [(Str.ofString "kind")], top := 0, lam := false }
def f10 : Fn := ⟨1, 1, false, b10⟩
def b11 : List S := [.ret (.ite (.cmp .eq (.ix (.var 0) (.lit (.int 0))) (.lit (.str (Str.ofString "rest")))) (.ix (.var 0) (.lit (.int 1))) (.blt .len [(.ix (.var 0) (.lit (.int 1)))]))]
def r11 : Itp.Row := { x := (Str.ofString "count_worths"), st := topS 38, N := [(Str.ofString "kind")], ps := [(Str.ofString "kind")], top := 0, lam := false }
def f11 : Fn := ⟨1, 1, false, b11⟩
def b12 : List S := [.ifs (.bop false [(.not (.blt .isinst [(.var 0), (.lit (.ty .tuple))])), (.cmp .ne (.blt .len [(.var 0)]) (.lit (.int 2)))]) [.ret (.lit (.bl false))] [], .setT (.tup [(.name 1), (.name 2)]) (.var 0), .ret (.bop true [(.call 0 [(.var 1)]), (.call 0 [(.var 2)]), (.cmp .ge (.var 2) (.lit (.int 1))), (.cmp .eq (.blt .gcd [(.var 1), (.var 2)]) (.lit (.int 1)))])]
def r12 : Itp.Row := { x := (Str.ofString "is_fraction"), st := topS 41, N := [(Str.ofString "thing"), (Str.ofString "above"), (Str.ofString "below")], ps := [(Str.ofString "thing")], top := 0, lam := false }
def f12 : Fn := ⟨1, 3, false, b12⟩
def b13 : List S := [.set 2 (.blt .gcd [(.var 0), (.var 1)]), .ifs (.cmp .lt (.var 1) (.lit (.int 0))) [.set 2 (.neg (.var 2))] [], .ifs (.cmp .eq (.var 2) (.lit (.int 1))) [.ret (.tup [(.var 0), (.var 1)])] [], .ret (.tup [(.bin .fdiv (.var 0) (.var 2)), (.bin .fdiv (.var 1) (.var 2))])]
def r13 : Itp.Row := { x := (Str.ofString "shortest"), st := topS 42, N := [(Str.ofString "above"), (Str.ofString "below"), (Str.ofString "both")], ps := [(Str.ofString "above"), (Str.ofString "below")], top := 0, lam := false }
def f13 : Fn := ⟨2, 3, false, b13⟩
def b14 : List S := [.ret (.call 13 [(.bin .add (.bin .mul (.ix (.var 0) (.lit (.int 0))) (.ix (.var 1) (.lit (.int 1)))) (.bin .mul (.ix (.var 1) (.lit (.int 0))) (.ix (.var 0) (.lit (.int 1))))), (.bin .mul (.ix (.var 0) (.lit (.int 1))) (.ix (.var 1) (.lit (.int 1))))])]
def r14 : Itp.Row := { x := (Str.ofString "sum_of"), st := topS 43, N := [(Str.ofString "one"), (Str.ofString "other")], ps := [(Str.ofString "one"), (Str.ofString "other")], top := 0, lam := false }
def f14 : Fn := ⟨2, 2, false, b14⟩
def b15 : List S := [.ret (.call 13 [(.bin .sub (.bin .mul (.ix (.var 0) (.lit (.int 0))) (.ix (.var 1) (.lit (.int 1)))) (.bin .mul (.ix (.var 1) (.lit (.int 0))) (.ix (.var 0) (.lit (.int 1))))), (.bin .mul (.ix (.var 0) (.lit (.int 1))) (.ix (.var 1) (.lit (.int 1))))])]
def r15 : Itp.Row := { x := (Str.ofString "difference_of"), st := topS 44, N := [(Str.ofString "one"), (Str.ofString "other")], ps := [(Str.ofString "one"), (Str.ofString "other")], top := 0, lam := false }
def f15 : Fn := ⟨2, 2, false, b15⟩
def b16 : List S := [.ret (.call 13 [(.bin .mul (.ix (.var 0) (.lit (.int 0))) (.ix (.var 1) (.lit (.int 0)))), (.bin .mul (.ix (.var 0) (.lit (.int 1))) (.ix (.var 1) (.lit (.int 1))))])]
def r16 : Itp.Row := { x := (Str.ofString "product_of"), st := topS 45, N := [(Str.ofString "one"), (Str.ofString "other")], ps := [(Str.ofString "one"), (Str.ofString "other")], top := 0, lam := false }
def f16 : Fn := ⟨2, 2, false, b16⟩
def b17 : List S := [.ifs (.cmp .eq (.ix (.var 1) (.lit (.int 0))) (.lit (.int 0))) [.raise 16 (Str.ofString "over by nought")] [], .ret (.call 13 [(.bin .mul (.ix (.var 0) (.lit (.int 0))) (.ix (.var 1) (.lit (.int 1)))), (.bin .mul (.ix (.var 0) (.lit (.int 1))) (.ix (.var 1) (.lit (.int 0))))])]
def r17 : Itp.Row := { x := (Str.ofString "quotient_of"), st := topS 46, N := [(Str.ofString "one"), (Str.ofString "other")], ps := [(Str.ofString "one"), (Str.ofString "other")], top := 0, lam := false }
def f17 : Fn := ⟨2, 2, false, b17⟩
def b18 : List S := [.ifs (.cmp .eq (.var 0) (.lit (.str (Str.ofString "plus")))) [.ret (.call 14 [(.var 1), (.var 2)])] [], .ifs (.cmp .eq (.var 0) (.lit (.str (Str.ofString "less")))) [.ret (.call 15 [(.var 1), (.var 2)])] [], .ifs (.cmp .eq (.var 0) (.lit (.str (Str.ofString "times")))) [.ret (.call 16 [(.var 1), (.var 2)])] [], .ret (.call 17 [(.var 1), (.var 2)])]
def r18 : Itp.Row := { x := (Str.ofString "fraction_deed"), st := topS 47, N := [(Str.ofString "deed"), (Str.ofString "one"), (Str.ofString "other")], ps := [(Str.ofString "deed"), (Str.ofString "one"), (Str.ofString "other")], top := 0, lam := false }
def f18 : Fn := ⟨3, 3, false, b18⟩
def b19 : List S := [.ret (.cmp .lt (.bin .mul (.ix (.var 0) (.lit (.int 0))) (.ix (.var 1) (.lit (.int 1)))) (.bin .mul (.ix (.var 1) (.lit (.int 0))) (.ix (.var 0) (.lit (.int 1)))))]
def r19 : Itp.Row := { x := (Str.ofString "is_less"), st := topS 48, N := [(Str.ofString "one"), (Str.ofString "other")], ps := [(Str.ofString "one"), (Str.ofString "other")], top := 0, lam := false }
def f19 : Fn := ⟨2, 2, false, b19⟩
def b20 : List S := [.par [2, 3] [(.bin .mul (.ix (.var 0) (.lit (.int 0))) (.ix (.var 1) (.lit (.int 1)))), (.bin .mul (.ix (.var 1) (.lit (.int 0))) (.ix (.var 0) (.lit (.int 1))))], .ifs (.cmp .lt (.var 2) (.var 3)) [.ret (.neg (.lit (.int 1)))] [], .ret (.ite (.cmp .gt (.var 2) (.var 3)) (.lit (.int 1)) (.lit (.int 0)))]
def r20 : Itp.Row := { x := (Str.ofString "compared"), st := topS 49, N := [(Str.ofString "one"), (Str.ofString "other"), (Str.ofString "left"), (Str.ofString "right")], ps := [(Str.ofString "one"), (Str.ofString "other")], top := 0, lam := false }
def f20 : Fn := ⟨2, 4, false, b20⟩
def b21 : List S := [.ret (.bop false [(.cmp .gt (.blt .abs [(.ix (.var 0) (.lit (.int 0)))]) (.glob 3)), (.cmp .gt (.ix (.var 0) (.lit (.int 1))) (.glob 3))])]
def r21 : Itp.Row := { x := (Str.ofString "is_great"), st := topS 50, N := [(Str.ofString "one")], ps := [(Str.ofString "one")], top := 0, lam := false }
def f21 : Fn := ⟨1, 1, false, b21⟩
def b22 : List S := [.ifs (.cmp .isin (.ix (.var 0) (.lit (.int 0))) (.glob 1)) [.ret (.call 1 [(.var 1), (.lit (.int 0)), (.bin .sub (.call 11 [(.var 0)]) (.lit (.int 1)))])] [], .ifs (.cmp .eq (.ix (.var 0) (.lit (.int 0))) (.lit (.str (Str.ofString "whole")))) [.ret (.call 0 [(.var 1)])] [], .ifs (.cmp .eq (.ix (.var 0) (.lit (.int 0))) (.lit (.str (Str.ofString "share")))) [.ret (.call 12 [(.var 1)])] [], .ifs (.bop false [(.not (.blt .isinst [(.var 1), (.lit (.ty .tuple))])), (.cmp .ne (.blt .len [(.var 1)]) (.lit (.int 2)))]) [.ret (.lit (.bl false))] [], .ifs (.cmp .eq (.ix (.var 0) (.lit (.int 0))) (.lit (.str (Str.ofString "about")))) [.ret (.call 23 [(.ix (.var 0) (.lit (.int 1))), (.ix (.var 1) (.lit (.int 0))), (.ix (.var 1) (.lit (.int 1)))])] [], .ifs (.bop false [(.not (.call 12 [(.ix (.var 1) (.lit (.int 0)))])), (.not (.call 12 [(.ix (.var 1) (.lit (.int 1)))]))]) [.ret (.lit (.bl false))] [], .ret (.bop false [(.cmp .eq (.ix (.var 0) (.lit (.int 0))) (.lit (.str (Str.ofString "root")))), (.not (.call 19 [(.ix (.var 1) (.lit (.int 1))), (.ix (.var 1) (.lit (.int 0)))]))])]
def r22 : Itp.Row := { x := (Str.ofString "has_worth"), st := topS 54, N := [(Str.ofString "kind"), (Str.ofString "thing")], ps := [(Str.ofString "kind"), (Str.ofString "thing")], top := 0, lam := false }
def f22 : Fn := ⟨2, 2, false, b22⟩
def b23 : List S := [.ifs (.bop false [(.not (.call 0 [(.var 1)])), (.not (.call 0 [(.var 2)]))]) [.ret (.lit (.bl false))] [], .ifs (.cmp .eq (.var 1) (.lit (.int 0))) [.ret (.cmp .eq (.var 2) (.lit (.int 0)))] [], .ret (.bop true [(.cmp .ne (.bin .mod (.var 1) (.lit (.int 10))) (.lit (.int 0))), (.cmp .le (.blt .abs [(.var 1)]) (.ix (.glob 5) (.var 0))), (.cmp .le (.blt .abs [(.var 2)]) (.glob 4))])]
def r23 : Itp.Row := { x := (Str.ofString "_is_about"), st := topS 55, N := [(Str.ofString "figures"), (Str.ofString "front"), (Str.ofString "power")], ps := [(Str.ofString "figures"), (Str.ofString "front"), (Str.ofString "power")], top := 0, lam := false }
def f23 : Fn := ⟨3, 3, false, b23⟩
def b24 : List S := [.ex (.call 7 [(.var 0)]), .ex (.call 25 [(.var 0), (.var 1)])]
def r24 : Itp.Row := { x := (Str.ofString "need_worth"), st := topS 56, N := [(Str.ofString "kind"), (Str.ofString "thing")], ps := [(Str.ofString "kind"), (Str.ofString "thing")], top := 0, lam := false }
def f24 : Fn := ⟨2, 2, false, b24⟩
def b25 : List S := [.ifs (.not (.call 22 [(.var 0), (.var 1)])) [.raise 2 (Str.ofString "this is no worth of the kind")] []]
def r25 : Itp.Row := { x := (Str.ofString "need_among_worths"), st := topS 57, N := [(Str.ofString "kind"), (Str.ofString "thing")], ps := [(Str.ofString "kind"), (Str.ofString "thing")], top := 0, lam := false }
def f25 : Fn := ⟨2, 2, false, b25⟩
def b26 : List S := [.ret (.bop true [(.call 1 [(.var 0), (.lit (.int 2)), (.lit (.int 99))]), (.gen true [1] (.name 1) .range [(.lit (.int 2)), (.var 0)] (.cmp .ne (.bin .mod (.var 0) (.var 1)) (.lit (.int 0))))])]
def r26 : Itp.Row := { x := (Str.ofString "is_prime"), st := topS 59, N := [(Str.ofString "number"), (Str.ofString "part")], ps := [(Str.ofString "number")], top := 1, lam := false }
def f26 : Fn := ⟨1, 2, false, b26⟩
def b27 : List S := [.ex (.call 8 [(.var 0), (.tup [(.lit (.str (Str.ofString "rest")))])]), .ex (.call 24 [(.var 0), (.var 1)]), .set 2 (.call 28 [(.call 10 [(.var 0)]), (.var 1)]), .ifs (.not (.var 2)) [.raise 16 (Str.ofString "this rest has no back")] [], .ret (.ix (.var 2) (.lit (.int 0)))]
def r27 : Itp.Row := { x := (Str.ofString "back_of"), st := topS 60, N := [(Str.ofString "kind"), (Str.ofString "worth"), (Str.ofString "backs")], ps := [(Str.ofString "kind"), (Str.ofString "worth")], top := 0, lam := false }
def f27 : Fn := ⟨2, 3, false, b27⟩
def b28 : List S := [.ret (.comp false [2] (.name 2) .range [(.var 0)] [(.cmp .eq (.bin .mod (.bin .mul (.var 1) (.var 2)) (.var 0)) (.lit (.int 1)))] (.var 2))]
def r28 : Itp.Row := { x := (Str.ofString "_backs"), st := topS 61, N := [(Str.ofString "many"), (Str.ofString "worth"), (Str.ofString "back")], ps := [(Str.ofString "many"), (Str.ofString "worth")], top := 0, lam := false }
def f28 : Fn := ⟨2, 3, false, b28⟩
def b29 : List S := [.ex (.call 8 [(.var 0), (.var 1)]), .ex (.call 25 [(.var 0), (.var 2)]), .ex (.call 25 [(.var 0), (.var 3)])]
def r29 : Itp.Row := { x := (Str.ofString "need_worths_of"), st := topS 63, N := [(Str.ofString "kind"), (Str.ofString "words"), (Str.ofString "one"), (Str.ofString "other")], ps := [(Str.ofString "kind"), (Str.ofString "words"), (Str.ofString "one"), (Str.ofString "other")], top := 0, lam := false }
def f29 : Fn := ⟨4, 4, false, b29⟩
def b30 : List S := [.ex (.call 29 [(.var 0), (.var 1), (.var 3), (.var 4)]), .ifs (.not (.call 2 [(.var 2)])) [.raise 12 (Str.ofString "this is no deed")] []]
def r30 : Itp.Row := { x := (Str.ofString "need_deed_of"), st := topS 64, N := [(Str.ofString "kind"), (Str.ofString "words"), (Str.ofString "deed"), (Str.ofString "one"), (Str.ofString "other")], ps := [(Str.ofString "kind"), (Str.ofString "words"), (Str.ofString "deed"), (Str.ofString "one"), (Str.ofString "other")], top := 0, lam := false }
def f30 : Fn := ⟨5, 5, false, b30⟩
def b31 : List S := [.fors (.name 1) .seq [(.var 0)] [.ifs (.call 21 [(.var 1)]) [.raise 18 (Str.ofString "what comes is too great")] []]]
def r31 : Itp.Row := { x := (Str.ofString "need_small"), st := topS 65, N := [(Str.ofString "parts"), (Str.ofString "part")], ps := [(Str.ofString "parts")], top := 0, lam := false }
def f31 : Fn := ⟨1, 2, false, b31⟩
def b32 : List S := [.ex (.call 30 [(.var 0), (.tup [(.lit (.str (Str.ofString "whole"))), (.lit (.str (Str.ofString "share"))), (.lit (.str (Str.ofString "rest")))]), (.var 1), (.var 2), (.var 3)]), .ret (.call 33 [(.var 0), (.var 1), (.var 2), (.var 3)])]
def r32 : Itp.Row := { x := (Str.ofString "exact_deed"), st := topS 67, N := [(Str.ofString "kind"), (Str.ofString "deed"), (Str.ofString "one"), (Str.ofString "other")], ps := [(Str.ofString "kind"), (Str.ofString "deed"), (Str.ofString "one"), (Str.ofString "other")], top := 0, lam := false }
def f32 : Fn := ⟨4, 4, false, b32⟩
def b33 : List S := [.ifs (.bop true [(.cmp .eq (.var 1) (.lit (.str (Str.ofString "over")))), (.not (.call 34 [(.var 0)]))]) [.raise 12 (Str.ofString "this kind has no over")] [], .ifs (.cmp .eq (.ix (.var 0) (.lit (.int 0))) (.lit (.str (Str.ofString "rest")))) [.ret (.call 36 [(.var 0), (.var 1), (.var 2), (.var 3)])] [], .set 4 (.call 18 [(.var 1), (.call 35 [(.var 0), (.var 2)]), (.call 35 [(.var 0), (.var 3)])]), .ex (.call 31 [(.lst false [(.var 4)])]), .ret (.ite (.cmp .eq (.ix (.var 0) (.lit (.int 0))) (.lit (.str (Str.ofString "whole")))) (.ix (.var 4) (.lit (.int 0))) (.var 4))]
def r33 : Itp.Row := { x := (Str.ofString "exact_done"), st := topS 68, N := [(Str.ofString "kind"), (Str.ofString "deed"), (Str.ofString "one"), (Str.ofString "other"), (Str.ofString "told")], ps := [(Str.ofString "kind"), (Str.ofString "deed"), (Str.ofString "one"), (Str.ofString "other")], top := 0, lam := false }
def f33 : Fn := ⟨4, 5, false, b33⟩
def b34 : List S := [.ret (.bop false [(.cmp .eq (.ix (.var 0) (.lit (.int 0))) (.lit (.str (Str.ofString "share")))), (.bop true [(.cmp .eq (.ix (.var 0) (.lit (.int 0))) (.lit (.str (Str.ofString "rest")))), (.call 26 [(.ix (.var 0) (.lit (.int 1)))])])])]
def r34 : Itp.Row := { x := (Str.ofString "_has_over"), st := topS 69, N := [(Str.ofString "kind")], ps := [(Str.ofString "kind")], top := 0, lam := false }
def f34 : Fn := ⟨1, 1, false, b34⟩
def b35 : List S := [.ret (.ite (.cmp .eq (.ix (.var 0) (.lit (.int 0))) (.lit (.str (Str.ofString "whole")))) (.tup [(.var 1), (.lit (.int 1))]) (.var 1))]
def r35 : Itp.Row := { x := (Str.ofString "_as_share"), st := topS 70, N := [(Str.ofString "kind"), (Str.ofString "worth")], ps := [(Str.ofString "kind"), (Str.ofString "worth")], top := 0, lam := false }
def f35 : Fn := ⟨2, 2, false, b35⟩
def b36 : List S := [.ifs (.cmp .eq (.var 1) (.lit (.str (Str.ofString "over")))) [.ret (.bin .mod (.bin .mul (.var 2) (.call 27 [(.var 0), (.var 3)])) (.ix (.var 0) (.lit (.int 1))))] [], .ret (.bin .mod (.ix (.call 18 [(.var 1), (.tup [(.var 2), (.lit (.int 1))]), (.tup [(.var 3), (.lit (.int 1))])]) (.lit (.int 0))) (.ix (.var 0) (.lit (.int 1))))]
def r36 : Itp.Row := { x := (Str.ofString "_rest_deed"), st := topS 71, N := [(Str.ofString "kind"), (Str.ofString "deed"), (Str.ofString "one"), (Str.ofString "other")], ps := [(Str.ofString "kind"), (Str.ofString "deed"), (Str.ofString "one"), (Str.ofString "other")], top := 0, lam := false }
def f36 : Fn := ⟨4, 4, false, b36⟩
def b37 : List S := [.ex (.call 29 [(.var 0), (.tup [(.lit (.str (Str.ofString "whole"))), (.lit (.str (Str.ofString "share")))]), (.var 1), (.var 2)]), .ret (.call 38 [(.var 0), (.var 1), (.var 2)])]
def r37 : Itp.Row := { x := (Str.ofString "exact_order"), st := topS 72, N := [(Str.ofString "kind"), (Str.ofString "one"), (Str.ofString "other")], ps := [(Str.ofString "kind"), (Str.ofString "one"), (Str.ofString "other")], top := 0, lam := false }
def f37 : Fn := ⟨3, 3, false, b37⟩
def b38 : List S := [.ret (.call 20 [(.call 35 [(.var 0), (.var 1)]), (.call 35 [(.var 0), (.var 2)])])]
def r38 : Itp.Row := { x := (Str.ofString "exact_compared"), st := topS 73, N := [(Str.ofString "kind"), (Str.ofString "one"), (Str.ofString "other")], ps := [(Str.ofString "kind"), (Str.ofString "one"), (Str.ofString "other")], top := 0, lam := false }
def f38 : Fn := ⟨3, 3, false, b38⟩
def b39 : List S := [.set 2 (.bin .mod (.bin .pow (.bin .add (.bin .add (.bin .mod (.var 0) (.lit (.int 2147483629))) (.bin .mul (.lit (.int 104729)) (.var 1))) (.lit (.int 17))) (.lit (.int 3))) (.lit (.int 2147483647))), .ret (.bin .fdiv (.bin .mod (.bin .mul (.var 2) (.bin .add (.lit (.int 48271)) (.bin .mul (.lit (.int 2)) (.var 1)))) (.lit (.int 2147483629))) (.lit (.int 7)))]
def r39 : Itp.Row := { x := (Str.ofString "_law_mixed"), st := topS 75, N := [(Str.ofString "cell"), (Str.ofString "k"), (Str.ofString "number")], ps := [(Str.ofString "cell"), (Str.ofString "k")], top := 0, lam := false }
def f39 : Fn := ⟨2, 3, false, b39⟩
def b40 : List S := [.set 2 (.ite (.cmp .lt (.var 1) (.blt .len [(.var 0)])) (.ix (.var 0) (.var 1)) (.lit (.int 5))), .ret (.dct true [.inr (Str.ofString "cell"), .inr (Str.ofString "seed"), .inr (Str.ofString "at")] [(.bin .mul (.var 2) (.blt .int [(.cmp .ge (.var 2) (.bin .pow (.lit (.int 10)) (.lit (.int 18))))])), (.call 39 [(.var 2), (.var 1)]), (.lit (.int 0))])]
def r40 : Itp.Row := { x := (Str.ofString "_law_begun"), st := topS 76, N := [(Str.ofString "script"), (Str.ofString "k"), (Str.ofString "cell")], ps := [(Str.ofString "script"), (Str.ofString "k")], top := 0, lam := false }
def f40 : Fn := ⟨2, 3, true, b40⟩
def b41 : List S := [.setIx (.var 0) (.lit (.str (Str.ofString "at"))) (.bin .add (.ix (.var 0) (.lit (.str (Str.ofString "at")))) (.lit (.int 1))), .ifs (.bop true [(.cmp .gt (.ix (.var 0) (.lit (.str (Str.ofString "cell")))) (.lit (.int 0))), (.cmp .lt (.ix (.var 0) (.lit (.str (Str.ofString "at")))) (.lit (.int 61)))]) [.set 2 (.bin .mod (.ix (.var 0) (.lit (.str (Str.ofString "cell")))) (.var 1)), .setIx (.var 0) (.lit (.str (Str.ofString "cell"))) (.bin .fdiv (.ix (.var 0) (.lit (.str (Str.ofString "cell")))) (.var 1)), .ret (.var 2)] [], .ret (.bin .mod (.call 39 [(.ix (.var 0) (.lit (.str (Str.ofString "seed")))), (.ix (.var 0) (.lit (.str (Str.ofString "at"))))]) (.var 1))]
def r41 : Itp.Row := { x := (Str.ofString "_law_take"), st := topS 77, N := [(Str.ofString "state"), (Str.ofString "many"), (Str.ofString "found")], ps := [(Str.ofString "state"), (Str.ofString "many")], top := 0, lam := false }
def f41 : Fn := ⟨2, 3, false, b41⟩
def b42 : List S := [.setT (.tup [(.name 1), (.name 2)]) (.tup [(.lit .non), (.lit .non)]), .tryx [.set 1 (.blt .repr [(.act 0)])] 0 5 2, .ifs (.cmp .is (.var 2) (.lit .non)) [.ret (.var 1)] [], .set 3 (.lst false [(.tup [(.lit (.str (Str.ofString "kind"))), (.blt .isinst [(.var 2), (.lit (.cls 1))])]), (.tup [(.lit (.str (Str.ofString "worth"))), (.blt .isinst [(.var 2), (.lit (.cls 2))])])]), .set 3 (.bin .add (.var 3) (.lst false [(.tup [(.lit (.str (Str.ofString "deed"))), (.blt .isinst [(.var 2), (.lit (.cls 12))])]), (.tup [(.lit (.str (Str.ofString "nought"))), (.blt .isinst [(.var 2), (.lit (.cls 16))])])])), .set 3 (.bin .add (.var 3) (.lst false [(.tup [(.lit (.str (Str.ofString "great"))), (.blt .isinst [(.var 2), (.lit (.cls 18))])]), (.tup [(.lit (.str (Str.ofString "bare"))), (.not (.blt .isinst [(.var 2), (.lit (.ty .valueError))]))])])), .set 4 (.blt .isinst [(.var 2), (.tup [(.lit (.cls 11)), (.lit (.cls 6)), (.lit (.cls 5)), (.lit (.cls 9)), (.lit (.cls 8)), (.lit (.cls 7)), (.lit (.cls 10)), (.lit (.cls 3)), (.lit (.cls 4))])]), .set 4 (.bop false [(.var 4), (.blt .isinst [(.var 2), (.tup [(.lit (.cls 17)), (.lit (.cls 13)), (.lit (.cls 15)), (.lit (.cls 14))])])]), .ret (.comp false [6, 7] (.tup [(.name 6), (.name 7)]) .seq [(.bin .add (.var 3) (.lst false [(.tup [(.lit (.str (Str.ofString "other"))), (.var 4)])]))] [(.var 7)] (.var 6))]
def r42 : Itp.Row := { x := (Str.ofString "_law_said"), st := topS 78, N := [(Str.ofString "deed"), (Str.ofString "told"), (Str.ofString "caught"), (Str.ofString "listed"), (Str.ofString "others"), (Str.ofString "e"), (Str.ofString "word"), (Str.ofString "is_it")], ps := [(Str.ofString "deed")], top := 0, lam := true }
def f42 : Fn := ⟨1, 8, false, b42⟩
def b43 : List S := [.set 1 (.tup [(.tup [(.lit (.int 0)), (.lit (.int 1))]), (.tup [(.lit (.int 1)), (.lit (.int 0))])]), .set 2 (.lst false [(.lit .non), (.lit (.int 5)), (.lit (.str (Str.ofString "whole"))), (.lit (.str (Str.ofString "share"))), (.lst false [(.lit (.str (Str.ofString "whole")))]), (.tup [(.lit (.str (Str.ofString "whole"))), (.lit (.int 1))]), (.tup [(.lit (.str (Str.ofString "Whole")))]), (.tup [(.lit (.str (Str.ofString "rest")))]), (.tup [(.lit (.str (Str.ofString "rest"))), (.lit (.int 1))]), (.tup [(.lit (.str (Str.ofString "rest"))), (.lit (.int 13))])]), .set 2 (.bin .add (.var 2) (.lst false [(.tup [(.lit (.str (Str.ofString "rest"))), (.lit (.bl true))]), (.tup [(.lit (.str (Str.ofString "rest"))), (.lit (.str (Str.ofString "5")))]), (.lst false [(.lit (.str (Str.ofString "rest"))), (.lit (.int 5))]), (.tup [(.lit (.str (Str.ofString "share"))), (.lit .non)]), (.tup []), (.dct false [] []), (.lit (.bl true)), (.tup [(.tup [(.lit (.str (Str.ofString "whole")))])])])), .set 2 (.bin .add (.var 2) (.lst false [(.tup [(.lit (.str (Str.ofString "root"))), (.lit (.int 4))]), (.tup [(.lit (.str (Str.ofString "root"))), (.lit (.int 2))]), (.tup [(.lit (.str (Str.ofString "root"))), (.lit (.int 59))]), (.tup [(.lit (.str (Str.ofString "about"))), (.lit (.int 1))]), (.tup [(.lit (.str (Str.ofString "about"))), (.lit (.int 3))]), (.tup [(.lit (.str (Str.ofString "sure"))), (.lit (.int 0))]), (.tup [(.lit (.str (Str.ofString "sure"))), (.lit (.int 6))])])), .ret (.ix (.bin .add (.var 2) (.lst false [(.tup [(.lit (.str (Str.ofString "own"))), (.var 1), (.var 1)])])) (.call 41 [(.var 0), (.lit (.int 26))]))]
def r43 : Itp.Row := { x := (Str.ofString "_law_no_kind"), st := topS 79, N := [(Str.ofString "state"), (Str.ofString "rows"), (Str.ofString "some")], ps := [(Str.ofString "state")], top := 0, lam := false }
def f43 : Fn := ⟨1, 3, false, b43⟩
def b44 : List S := [.set 2 (.lst false [(.lit .non), (.lit (.bl true)), (.lit (.bl false)), (.lit (.str (Str.ofString "1"))), (.lst false [(.lit (.int 1))]), (.dct false [] []), (.lit (.str (Str.ofString ""))), (.tup []), (.tup [(.tup [(.lit (.int 1)), (.lit (.int 1))])]), (.tup [(.lit (.int 1)), (.lit (.int 1)), (.lit (.int 1))]), (.lst false [(.lit (.int 1)), (.lit (.int 1))]), (.tup [(.lit (.int 1)), (.lit (.bl true))]), (.tup [(.lit (.bl true)), (.lit (.int 1))]), (.tup [(.lit .non), (.lit (.int 1))])]), .set 2 (.bin .add (.var 2) (.lst false [(.tup [(.lit (.int 1)), (.lit (.int 0))]), (.tup [(.lit (.int 2)), (.lit (.int 4))]), (.tup [(.lit (.int 0)), (.lit (.int 2))]), (.tup [(.lit (.int 1)), (.neg (.lit (.int 1)))]), (.tup [(.bin .sub (.lit (.int 0)) (.lit (.int 3))), (.lit (.int 6))]), (.tup [(.lit (.str (Str.ofString "1"))), (.lit (.int 1))]), (.tup [(.tup [(.lit (.int 0)), (.lit (.int 1))]), (.tup [(.lit (.int 0)), (.lit (.int 1))])])])), .ifs (.cmp .eq (.ix (.var 1) (.lit (.int 0))) (.lit (.str (Str.ofString "whole")))) [.set 2 (.bin .add (.var 2) (.lst false [(.tup [(.lit (.int 0)), (.lit (.int 1))]), (.tup [(.lit (.int 1)), (.lit (.int 1))]), (.tup [(.lit (.int 5)), (.lit (.int 1))])]))] [], .ifs (.cmp .eq (.ix (.var 1) (.lit (.int 0))) (.lit (.str (Str.ofString "share")))) [.set 2 (.bin .add (.var 2) (.lst false [(.lit (.int 0)), (.lit (.int 1)), (.lit (.int 5))]))] [], .ifs (.cmp .eq (.ix (.var 1) (.lit (.int 0))) (.lit (.str (Str.ofString "rest")))) [.set 2 (.bin .add (.var 2) (.lst false [(.ix (.var 1) (.lit (.int 1))), (.neg (.lit (.int 1))), (.bin .pow (.lit (.int 10)) (.lit (.int 30)))]))] [], .ret (.ix (.var 2) (.call 41 [(.var 0), (.blt .len [(.var 2)])]))]
def r44 : Itp.Row := { x := (Str.ofString "_law_no_worth"), st := topS 80, N := [(Str.ofString "state"), (Str.ofString "kind"), (Str.ofString "some")], ps := [(Str.ofString "state"), (Str.ofString "kind")], top := 0, lam := false }
def f44 : Fn := ⟨2, 3, false, b44⟩
def b45 : List S := [.set 2 (.bin .sub (.call 41 [(.var 0), (.lit (.int 2001))]) (.lit (.int 1000))), .set 3 (.call 41 [(.var 0), (.lit (.int 3))]), .ifs (.cmp .eq (.ix (.var 1) (.lit (.int 0))) (.lit (.str (Str.ofString "share")))) [.ret (.ix (.lst false [(.tup [(.var 2), (.lit (.int 1))]), (.tup [(.lit (.int 1)), (.bin .add (.lit (.int 1)) (.blt .abs [(.var 2)]))]), (.tup [(.bin .add (.bin .mul (.lit (.int 2)) (.var 2)) (.lit (.int 1))), (.lit (.int 2))])]) (.var 3))] [], .ret (.ite (.cmp .eq (.ix (.var 1) (.lit (.int 0))) (.lit (.str (Str.ofString "rest")))) (.bin .mod (.var 2) (.ix (.var 1) (.lit (.int 1)))) (.var 2))]
def r45 : Itp.Row := { x := (Str.ofString "_law_worth"), st := topS 81, N := [(Str.ofString "state"), (Str.ofString "kind"), (Str.ofString "number"), (Str.ofString "way")], ps := [(Str.ofString "state"), (Str.ofString "kind")], top := 0, lam := false }
def f45 : Fn := ⟨2, 4, false, b45⟩
def b46 : List S := [.set 2 (.lst false [(.lit .non), (.lit (.int 5)), (.lit (.bl true)), (.lit (.str (Str.ofString ""))), (.lit (.str (Str.ofString "Plus"))), (.lit (.str (Str.ofString "plus "))), (.lit (.str (Str.ofString "minus"))), (.lit (.str (Str.ofString "by"))), (.lst false [(.lit (.str (Str.ofString "plus")))]), (.tup [(.lit (.str (Str.ofString "plus")))]), (.dct false [] []), (.lit (.str (Str.ofString "more"))), (.lit (.int 0)), (.lit (.str (Str.ofString "plusless")))]), .ifs (.bop false [(.cmp .eq (.ix (.var 1) (.lit (.int 0))) (.lit (.str (Str.ofString "whole")))), (.bop true [(.cmp .eq (.ix (.var 1) (.lit (.int 0))) (.lit (.str (Str.ofString "rest")))), (.cmp .notin (.ix (.var 1) (.lit (.int 1))) (.tup [(.lit (.int 2)), (.lit (.int 3)), (.lit (.int 5)), (.lit (.int 7)), (.lit (.int 11))]))])]) [.set 2 (.bin .add (.var 2) (.rept [(.lit (.str (Str.ofString "over")))] (.lit (.int 6))))] [], .ret (.ix (.var 2) (.call 41 [(.var 0), (.blt .len [(.var 2)])]))]
def r46 : Itp.Row := { x := (Str.ofString "_law_no_deed"), st := topS 82, N := [(Str.ofString "state"), (Str.ofString "kind"), (Str.ofString "some")], ps := [(Str.ofString "state"), (Str.ofString "kind")], top := 0, lam := false }
def f46 : Fn := ⟨2, 3, false, b46⟩
def b47 : List S := [.set 2 (.comp false [11] (.name 11) .range [(.lit (.int 5))] [] (.cmp .eq (.call 41 [(.var 0), (.lit (.int 3))]) (.lit (.int 0)))), .par [3, 4] [(.call 43 [(.var 0)]), (.ite (.cmp .eq (.ix (.var 1) (.lit (.int 0))) (.lit (.str (Str.ofString "share")))) (.tup [(.lit (.int 0)), (.lit (.int 1))]) (.lit (.int 0)))], .set 5 (.comp true [12] (.name 12) .seq [(.tup [(.lit (.int 1)), (.lit (.int 2))])] [] (.ite (.ix (.var 2) (.var 12)) (.call 44 [(.var 0), (.var 1)]) (.call 45 [(.var 0), (.var 1)]))), .set 6 (.ite (.ix (.var 2) (.lit (.int 3))) (.call 46 [(.var 0), (.var 1)]) (.ix (.lst false [(.lit (.str (Str.ofString "plus"))), (.lit (.str (Str.ofString "less"))), (.lit (.str (Str.ofString "times")))]) (.call 41 [(.var 0), (.lit (.int 3))]))), .ifs (.bop true [(.ix (.var 2) (.lit (.int 4))), (.not (.ix (.var 2) (.lit (.int 2))))]) [.setIx (.var 5) (.lit (.int 1)) (.var 4), .set 6 (.ite (.ix (.var 2) (.lit (.int 3))) (.var 6) (.lit (.str (Str.ofString "over"))))] [], .set 7 (.ite (.ix (.var 2) (.lit (.int 0))) (.var 3) (.var 1)), .set 8 (.ite (.ix (.var 2) (.lit (.int 0))) (.lst false [(.lit (.str (Str.ofString "kind")))]) (.ite (.bop false [(.ix (.var 2) (.lit (.int 1))), (.ix (.var 2) (.lit (.int 2)))]) (.lst false [(.lit (.str (Str.ofString "worth")))]) (.ite (.ix (.var 2) (.lit (.int 3))) (.lst false [(.lit (.str (Str.ofString "deed")))]) (.lit .non)))), .ifs (.bop true [(.cmp .is (.var 8) (.lit .non)), (.cmp .eq (.var 6) (.lit (.str (Str.ofString "over"))))]) [.set 10 (.bop false [(.cmp .eq (.ix (.var 1) (.lit (.int 0))) (.lit (.str (Str.ofString "share")))), (.bop true [(.cmp .eq (.ix (.var 1) (.lit (.int 0))) (.lit (.str (Str.ofString "rest")))), (.cmp .isin (.ix (.var 1) (.lit (.int 1))) (.tup [(.lit (.int 2)), (.lit (.int 3)), (.lit (.int 5)), (.lit (.int 7)), (.lit (.int 11))]))])]), .set 8 (.ite (.var 10) (.lst false [(.lit (.str (Str.ofString "nought")))]) (.lst false [(.lit (.str (Str.ofString "deed")))]))] [], .set 9 (.callL 42 (.call 32 [(.var 7), (.var 6), (.ix (.var 5) (.lit (.int 0))), (.ix (.var 5) (.lit (.int 1)))])), .ifs (.bop false [(.bop true [(.cmp .is (.var 8) (.lit .non)), (.blt .isinst [(.var 9), (.lit (.ty .list))])]), (.bop true [(.cmp .isnot (.var 8) (.lit .non)), (.cmp .ne (.var 9) (.var 8))])]) [.ret (.lit (.bl false))] [], .set 8 (.ite (.bop false [(.ix (.var 2) (.lit (.int 0))), (.cmp .eq (.ix (.var 1) (.lit (.int 0))) (.lit (.str (Str.ofString "rest"))))]) (.lst false [(.lit (.str (Str.ofString "kind")))]) (.ite (.bop false [(.ix (.var 2) (.lit (.int 1))), (.ix (.var 2) (.lit (.int 2)))]) (.lst false [(.lit (.str (Str.ofString "worth")))]) (.lit .non))), .set 9 (.callL 42 (.call 37 [(.var 7), (.ix (.var 5) (.lit (.int 0))), (.ix (.var 5) (.lit (.int 1)))])), .ret (.ite (.cmp .is (.var 8) (.lit .non)) (.cmp .isin (.var 9) (.tup [(.lit (.str (Str.ofString "-1"))), (.lit (.str (Str.ofString "0"))), (.lit (.str (Str.ofString "1")))])) (.cmp .eq (.var 9) (.var 8)))]
def r47 : Itp.Row := { x := (Str.ofString "_law_right"), st := topS 83, N := [(Str.ofString "state"), (Str.ofString "kind"), (Str.ofString "spoilt"), (Str.ofString "bad"), (Str.ofString "zero"), (Str.ofString "worths"), (Str.ofString "deed"), (Str.ofString "own"), (Str.ofString "due"), (Str.ofString "told"), (Str.ofString "has"), (Str.ofString "k"), (Str.ofString "at")], ps := [(Str.ofString "state"), (Str.ofString "kind")], top := 2, lam := false }
def f47 : Fn := ⟨2, 13, false, b47⟩
def b48 : List S := [.fors (.name 1) .range [(.blt .max [(.lit (.int 1)), (.blt .min [(.lit (.int 21)), (.blt .len [(.var 0)])])])] [.set 2 (.call 40 [(.var 0), (.var 1)]), .fors (.name 3) .range [(.lit (.int 4))] [.set 4 (.ix (.lst false [(.tup [(.lit (.str (Str.ofString "whole")))]), (.tup [(.lit (.str (Str.ofString "share")))]), (.tup [(.lit (.str (Str.ofString "rest"))), (.bin .add (.lit (.int 2)) (.call 41 [(.var 2), (.lit (.int 11))]))])]) (.call 41 [(.var 2), (.lit (.int 3))])), .ifs (.not (.call 47 [(.var 2), (.var 4)])) [.ret (.lit (.bl false))] []]], .ret (.lit (.bl true))]
def r48 : Itp.Row := { x := (Str.ofString "law"), st := topS 84, N := [(Str.ofString "script"), (Str.ofString "k"), (Str.ofString "state"), (Str.ofString "turn"), (Str.ofString "kind")], ps := [(Str.ofString "script")], top := 0, lam := false }
def f48 : Fn := ⟨1, 5, false, b48⟩
def rows : List Itp.Row := [r0, r1, r2, r3, r4, r5, r6, r7, r8, r9, r10, r11, r12, r13, r14, r15, r16, r17, r18, r19, r20, r21, r22, r23, r24, r25, r26, r27, r28, r29, r30, r31, r32, r33, r34, r35, r36, r37, r38, r39, r40, r41, r42, r43, r44, r45, r46, r47, r48]
def fns : List Fn := [f0, f1, f2, f3, f4, f5, f6, f7, f8, f9, f10, f11, f12, f13, f14, f15, f16, f17, f18, f19, f20, f21, f22, f23, f24, f25, f26, f27, f28, f29, f30, f31, f32, f33, f34, f35, f36, f37, f38, f39, f40, f41, f42, f43, f44, f45, f46, f47, f48]
def es : List Nat := [1, 2, 5, 12, 16, 18]
def cs : List Nat := [0, 1, 2, 3, 4, 5, 6, 7, 8, 9, 10, 11, 12, 13, 14, 15, 16, 17, 18]
def tab : Tab := { fns := rows.map (·.x), gls := [(Str.ofString "DEEDS"), (Str.ofString "FINITE"), (Str.ofString "FILLING"), (Str.ofString "GREATEST"), (Str.ofString "MOST_POWER"), (Str.ofString "MOST_FRONT")], cls := [(Str.ofString "TowerError"), (Str.ofString "BadKind"), (Str.ofString "BadWorth"), (Str.ofString "BadTower"), (Str.ofString "BadWay"), (Str.ofString "BadNumber"), (Str.ofString "BadName"), (Str.ofString "BadTerm"), (Str.ofString "BadProgram"), (Str.ofString "BadPaper"), (Str.ofString "BadText"), (Str.ofString "BadLine"), (Str.ofString "NoDeed"), (Str.ofString "NoKind"), (Str.ofString "TwoKinds"), (Str.ofString "NoOrder"), (Str.ofString "ByNought"), (Str.ofString "Lacking"), (Str.ofString "TooGreat")], rcl := es, blt := [(Str.ofString "ValueError"), (Str.ofString "abs"), (Str.ofString "all"), (Str.ofString "bool"), (Str.ofString "int"), (Str.ofString "isinstance"), (Str.ofString "len"), (Str.ofString "list"), (Str.ofString "max"), (Str.ofString "min"), (Str.ofString "range"), (Str.ofString "repr"), (Str.ofString "str"), (Str.ofString "tuple"), (Str.ofString "type")], gcd := true, lam := [42], kds := [], isq := false, kts := [(Str.ofString "NUMBERED")] }
def globs : List D := [(.tup [(.str (Str.ofString "plus")), (.str (Str.ofString "less")), (.str (Str.ofString "times")), (.str (Str.ofString "over"))]), (.tup [(.str (Str.ofString "rest")), (.str (Str.ofString "own"))]), (.tup [(.tup []), (.tup []), (.tup [(.int 0), (.int 0), (.int 0), (.int 0)]), (.tup [(.int 0), (.int 0), (.int 0)]), (.tup [(.int 0), (.int 0)]), (.tup [(.int 0)]), (.tup [])]), (.int (1 * 10 ^ 300)), (.int 400), (.tup [(.int 0), (.int 9), (.int 99), (.int 999)])]
def kds : List (List (Str × D)) := [[((Str.ofString "root"), .int 2), ((Str.ofString "root"), .int 3), ((Str.ofString "root"), .int 5), ((Str.ofString "root"), .int 6), ((Str.ofString "root"), .int 7), ((Str.ofString "root"), .int 10), ((Str.ofString "root"), .int 11), ((Str.ofString "root"), .int 13), ((Str.ofString "root"), .int 14), ((Str.ofString "root"), .int 15), ((Str.ofString "root"), .int 17), ((Str.ofString "root"), .int 19), ((Str.ofString "root"), .int 21), ((Str.ofString "root"), .int 22), ((Str.ofString "root"), .int 23), ((Str.ofString "root"), .int 26), ((Str.ofString "root"), .int 29), ((Str.ofString "root"), .int 30), ((Str.ofString "root"), .int 31), ((Str.ofString "root"), .int 33), ((Str.ofString "root"), .int 34), ((Str.ofString "root"), .int 35), ((Str.ofString "root"), .int 37), ((Str.ofString "root"), .int 38), ((Str.ofString "root"), .int 39), ((Str.ofString "root"), .int 41), ((Str.ofString "root"), .int 42), ((Str.ofString "root"), .int 43), ((Str.ofString "root"), .int 46), ((Str.ofString "root"), .int 47), ((Str.ofString "root"), .int 51), ((Str.ofString "root"), .int 53), ((Str.ofString "root"), .int 55), ((Str.ofString "root"), .int 57), ((Str.ofString "root"), .int 58), ((Str.ofString "root"), .int 59), ((Str.ofString "rest"), .int 2), ((Str.ofString "rest"), .int 3), ((Str.ofString "rest"), .int 4), ((Str.ofString "rest"), .int 5), ((Str.ofString "rest"), .int 6), ((Str.ofString "rest"), .int 7), ((Str.ofString "rest"), .int 8), ((Str.ofString "rest"), .int 9), ((Str.ofString "rest"), .int 10), ((Str.ofString "rest"), .int 11), ((Str.ofString "rest"), .int 12), ((Str.ofString "about"), .int 1), ((Str.ofString "about"), .int 2), ((Str.ofString "about"), .int 3), ((Str.ofString "sure"), .int 0), ((Str.ofString "sure"), .int 1), ((Str.ofString "sure"), .int 2), ((Str.ofString "sure"), .int 3), ((Str.ofString "sure"), .int 4), ((Str.ofString "sure"), .int 5), ((Str.ofString "sure"), .int 6)]]
def subT : List (Nat × Nat × Bool) := [(1, 0, true), (1, 1, true), (1, 2, false), (1, 3, false), (1, 4, false), (1, 5, false), (1, 6, false), (1, 7, false), (1, 8, false), (1, 9, false), (1, 10, false), (1, 11, false), (1, 12, false), (1, 13, false), (1, 14, false), (1, 15, false), (1, 16, false), (1, 17, false), (1, 18, false), (2, 0, true), (2, 1, false), (2, 2, true), (2, 3, false), (2, 4, false), (2, 5, false), (2, 6, false), (2, 7, false), (2, 8, false), (2, 9, false), (2, 10, false), (2, 11, false), (2, 12, false), (2, 13, false), (2, 14, false), (2, 15, false), (2, 16, false), (2, 17, false), (2, 18, false), (5, 0, true), (5, 1, false), (5, 2, false), (5, 3, false), (5, 4, false), (5, 5, true), (5, 6, false), (5, 7, false), (5, 8, false), (5, 9, false), (5, 10, false), (5, 11, false), (5, 12, false), (5, 13, false), (5, 14, false), (5, 15, false), (5, 16, false), (5, 17, false), (5, 18, false), (12, 0, true), (12, 1, false), (12, 2, false), (12, 3, false), (12, 4, false), (12, 5, false), (12, 6, false), (12, 7, false), (12, 8, false), (12, 9, false), (12, 10, false), (12, 11, false), (12, 12, true), (12, 13, false), (12, 14, false), (12, 15, false), (12, 16, false), (12, 17, false), (12, 18, false), (16, 0, true), (16, 1, false), (16, 2, false), (16, 3, false), (16, 4, false), (16, 5, false), (16, 6, false), (16, 7, false), (16, 8, false), (16, 9, false), (16, 10, false), (16, 11, false), (16, 12, false), (16, 13, false), (16, 14, false), (16, 15, false), (16, 16, true), (16, 17, false), (16, 18, false), (18, 0, true), (18, 1, false), (18, 2, false), (18, 3, false), (18, 4, false), (18, 5, false), (18, 6, false), (18, 7, false), (18, 8, false), (18, 9, false), (18, 10, false), (18, 11, false), (18, 12, false), (18, 13, false), (18, 14, false), (18, 15, false), (18, 16, false), (18, 17, false), (18, 18, true)]
def P : Prog := mkP fns globs kds subT 5000
set_option maxHeartbeats 3999999 in
theorem binds : BindsF rows := by
  exact .cons (fun _ _ _ _ _ _ us hl => match us, hl with | [_], _ => rfl) <| .cons (fun _ _ _ _ _ _ us hl => match us, hl with | [_, _, _], _ => rfl) <| .cons (fun _ _ _ _ _ _ us hl => match us, hl with | [_], _ => rfl) <| .cons (fun _ _ _ _ _ _ us hl => match us, hl with | [_], _ => rfl) <| .cons (fun _ _ _ _ _ _ us hl => match us, hl with | [_, _], _ => rfl) <| .cons (fun _ _ _ _ _ _ us hl => match us, hl with | [_, _], _ => rfl) <| .cons (fun _ _ _ _ _ _ us hl => match us, hl with | [_, _, _], _ => rfl) <| .cons (fun _ _ _ _ _ _ us hl => match us, hl with | [_], _ => rfl) <| .cons (fun _ _ _ _ _ _ us hl => match us, hl with | [_, _], _ => rfl) <| .cons (fun _ _ _ _ _ _ us hl => match us, hl with | [_], _ => rfl) <| .cons (fun _ _ _ _ _ _ us hl => match us, hl with | [_], _ => rfl) <| .cons (fun _ _ _ _ _ _ us hl => match us, hl with | [_], _ => rfl) <| .cons (fun _ _ _ _ _ _ us hl => match us, hl with | [_], _ => rfl) <| .cons (fun _ _ _ _ _ _ us hl => match us, hl with | [_, _], _ => rfl) <| .cons (fun _ _ _ _ _ _ us hl => match us, hl with | [_, _], _ => rfl) <| .cons (fun _ _ _ _ _ _ us hl => match us, hl with | [_, _], _ => rfl) <| .cons (fun _ _ _ _ _ _ us hl => match us, hl with | [_, _], _ => rfl) <| .cons (fun _ _ _ _ _ _ us hl => match us, hl with | [_, _], _ => rfl) <| .cons (fun _ _ _ _ _ _ us hl => match us, hl with | [_, _, _], _ => rfl) <| .cons (fun _ _ _ _ _ _ us hl => match us, hl with | [_, _], _ => rfl) <| .cons (fun _ _ _ _ _ _ us hl => match us, hl with | [_, _], _ => rfl) <| .cons (fun _ _ _ _ _ _ us hl => match us, hl with | [_], _ => rfl) <| .cons (fun _ _ _ _ _ _ us hl => match us, hl with | [_, _], _ => rfl) <| .cons (fun _ _ _ _ _ _ us hl => match us, hl with | [_, _, _], _ => rfl) <| .cons (fun _ _ _ _ _ _ us hl => match us, hl with | [_, _], _ => rfl) <| .cons (fun _ _ _ _ _ _ us hl => match us, hl with | [_, _], _ => rfl) <| .cons (fun _ _ _ _ _ _ us hl => match us, hl with | [_], _ => rfl) <| .cons (fun _ _ _ _ _ _ us hl => match us, hl with | [_, _], _ => rfl) <| .cons (fun _ _ _ _ _ _ us hl => match us, hl with | [_, _], _ => rfl) <| .cons (fun _ _ _ _ _ _ us hl => match us, hl with | [_, _, _, _], _ => rfl) <| .cons (fun _ _ _ _ _ _ us hl => match us, hl with | [_, _, _, _, _], _ => rfl) <| .cons (fun _ _ _ _ _ _ us hl => match us, hl with | [_], _ => rfl) <| .cons (fun _ _ _ _ _ _ us hl => match us, hl with | [_, _, _, _], _ => rfl) <| .cons (fun _ _ _ _ _ _ us hl => match us, hl with | [_, _, _, _], _ => rfl) <| .cons (fun _ _ _ _ _ _ us hl => match us, hl with | [_], _ => rfl) <| .cons (fun _ _ _ _ _ _ us hl => match us, hl with | [_, _], _ => rfl) <| .cons (fun _ _ _ _ _ _ us hl => match us, hl with | [_, _, _, _], _ => rfl) <| .cons (fun _ _ _ _ _ _ us hl => match us, hl with | [_, _, _], _ => rfl) <| .cons (fun _ _ _ _ _ _ us hl => match us, hl with | [_, _, _], _ => rfl) <| .cons (fun _ _ _ _ _ _ us hl => match us, hl with | [_, _], _ => rfl) <| .cons (fun _ _ _ _ _ _ us hl => match us, hl with | [_, _], _ => rfl) <| .cons (fun _ _ _ _ _ _ us hl => match us, hl with | [_, _], _ => rfl) <| .cons (fun _ _ _ _ _ _ us hl => match us, hl with | [_], _ => rfl) <| .cons (fun _ _ _ _ _ _ us hl => match us, hl with | [_], _ => rfl) <| .cons (fun _ _ _ _ _ _ us hl => match us, hl with | [_, _], _ => rfl) <| .cons (fun _ _ _ _ _ _ us hl => match us, hl with | [_, _], _ => rfl) <| .cons (fun _ _ _ _ _ _ us hl => match us, hl with | [_, _], _ => rfl) <| .cons (fun _ _ _ _ _ _ us hl => match us, hl with | [_, _], _ => rfl) <| .cons (fun _ _ _ _ _ _ us hl => match us, hl with | [_], _ => rfl) <| .nil
end K12
namespace K12
open Itp L2 PySem.Spec PyProof.Rows PySem
set_option maxHeartbeats 3999999
theorem ck_all : (rows.zip fns).all (fun p => ckFn tab p.2 p.1) = true := by decide +kernel
theorem data : okData tab rows fns cs es subT = true := by decide +kernel
theorem hck : ∀ (i : Nat) r, rows[i]? = some r → ∃ fn, fns[i]? = some fn ∧ ckFn tab fn r = true := hck_of ck_all rfl
end K12
set_option maxHeartbeats 0
namespace K12
open PySem PySem.W
abbrev RR : OpenRow := OpenLaw.row PySem.Challenge.rw_towerwise_k12_exact_refused
def qv : Program := view RR.prog [59, 83, 84]
def loo : List PySem.Str := (["gcd", "TowerError", "BadKind", "BadWorth", "BadTower", "BadWay", "BadNumber", "BadName", "BadTerm", "BadProgram", "BadPaper", "BadText", "BadLine", "NoDeed", "NoKind", "TwoKinds", "NoOrder", "ByNought", "Lacking", "TooGreat", "DEEDS", "is_whole", "is_among", "is_deed", "NUMBERED", "FINITE", "FILLING", "is_kind", "_are_tables", "_are_rows"] : List PySem.Str) ++ (["is_row", "need_kind", "need_kind_of", "is_finite", "many_worths", "count_worths", "GREATEST", "is_fraction", "shortest", "sum_of", "difference_of", "product_of", "quotient_of", "fraction_deed", "is_less", "compared", "is_great", "MOST_POWER", "MOST_FRONT", "has_worth", "_is_about", "need_worth", "need_among_worths", "back_of", "_backs", "need_worths_of", "need_deed_of", "need_small", "exact_deed", "exact_done"] : List PySem.Str) ++ (["_has_over", "_as_share", "_rest_deed", "exact_order", "exact_compared", "_law_mixed", "_law_begun", "_law_take", "_law_said", "_law_no_kind", "_law_no_worth", "_law_worth", "_law_no_deed"] : List PySem.Str)
def adrs : List Addr := [2, 3, 43, 50, 51, 52, 53, 56, 63, 64, 65, 68, 75, 76, 77, 80, 87, 89, 90, 92, 93, 94, 95, 96, 99, 106, 107, 108, 111, 118, 119, 120, 123, 130, 131, 132, 135, 142, 143, 144, 147, 154, 156, 157, 159, 160, 161, 162, 163, 166, 173, 175, 176, 178, 179, 180, 181, 182, 185, 192, 194, 195, 197, 198, 199, 200, 201, 204, 211, 212, 213, 216, 223, 224, 225, 228, 235, 236, 237, 240, 247, 249, 250, 252, 253, 254, 255, 256, 259, 266, 267, 268, 271, 278, 279, 280, 283, 290, 291, 292, 295, 302, 303, 304, 307, 308, 310, 311, 313, 314, 315, 317, 318, 320, 321, 322, 324, 325, 327, 328, 330, 331, 332, 333, 334, 335, 336, 337, 338, 339, 340, 341, 342, 343, 344, 345, 346, 348, 349, 350, 351, 352, 353, 354, 355, 356, 357, 358, 359, 360, 361, 362, 363, 364, 366, 367, 368, 369, 370, 371, 372, 373, 374, 375, 376, 377, 378, 379, 380, 381, 382, 384, 385, 386, 387, 388, 389, 390, 391, 392, 393, 394, 395, 396, 397, 398, 399, 401, 402, 404, 405, 406, 408, 409, 411, 412, 413, 415, 416, 418, 419, 420, 422, 423, 425, 426, 427, 429, 430, 432, 433, 434, 436, 437, 439, 440, 441, 443, 444, 446, 447, 448, 450, 451, 453, 454, 455, 457, 458, 460, 461, 462, 464, 465, 467, 468, 469, 471, 472, 474, 475, 476, 478, 479, 481, 482, 483, 485, 486, 488, 489, 490, 492, 493, 495, 496, 497, 499, 500, 502, 503, 504, 506, 507, 509, 510, 511, 513, 514, 516, 517, 518, 520, 521, 523, 524, 525, 527, 528, 530, 531, 532, 533, 535, 536, 538, 539, 540, 542, 543, 545, 546, 547, 549, 550, 552, 553, 554, 556, 557, 559, 560, 561, 563, 564, 566, 567, 568, 570, 571, 573, 574, 575, 578, 579, 580, 582, 583, 585, 586, 587, 589, 590, 592, 593, 594, 596, 597, 599, 600, 601, 603, 604, 606, 607, 608, 610, 611, 613, 614, 615, 617, 618, 620, 621, 622, 624, 625, 627, 628, 629, 631, 632, 634, 635, 636, 638, 639, 641, 642, 643, 645, 646, 648, 649, 650, 652, 653, 655, 656, 657, 659, 660, 662, 663, 664, 666, 667, 669, 670, 671, 674, 675, 676, 678, 679, 681, 682, 683, 685, 686, 688, 689, 690, 692, 693, 695, 696, 697, 699, 700, 702, 703, 704, 707, 708, 709, 711, 712, 714, 715, 329]
noncomputable def ds : HT.DispSt := HT.dispAt (HT.bdy RR.prog) 26
theorem dsOk : HT.DispOk PySem.Challenge.rw_towerwise_k12_exact_refused.prog (Value.ref 41) 42 ds := ⟨by kernel_rfl, by kernel_rfl, HT.good_of (by kernel_rfl), by decide +kernel, by decide +kernel, HT.room_of (by kernel_rfl)⟩
theorem eqs1 (w : World) : HT.EqD1 PySem.Challenge.rw_towerwise_k12_exact_refused qv adrs tab rows globs kds cs es subT 39 (some (Value.ref 6)) 8417 (Value.ref 41) 42 ds w := by
  intro qp pB p1 p2 p3 p4
  kernel_rfl
theorem eqs2 (w : World) : HT.EqD2 PySem.Challenge.rw_towerwise_k12_exact_refused qv loo 39 (some (Value.ref 6)) 8417 (Value.ref 41) 42 ds w := by
  intro qp pB p1 p2 p3 p4
  kernel_rfl
theorem eqs (w : World) : HT.EqD PySem.Challenge.rw_towerwise_k12_exact_refused qv loo adrs tab rows globs kds cs es subT 39 (some (Value.ref 6)) 8417 (Value.ref 41) 42 ds w := HT.eqD_of (eqs1 w) (eqs2 w)
end K12
namespace Itp
open L2 PySem.Spec PyProof.Rows PySem
/-! ### without cells: the same, no store in sight -/
inductive PO (α : Type) where
  | ok (a : α) | exc (n : Nat) | bad
def PO.bind {α β : Type} (r : PO α) (f : α → PO β) : PO β := match r with
  | .ok a => f a
  | .exc n => .exc n
  | .bad => .bad
def PO.of {α : Type} : Option α → PO α
  | some a => .ok a
  | none => .bad
inductive POS where
  | nx (e : Env) | rt (d : D) | exc (n : Nat) (e : Env) | bk (e : Env) | ct (e : Env) | bad
structure PC where
  call : Nat → List D → PO D
  glob : Nat → Option D
  sub : Nat → Nat → Option Bool
  fuel : Nat
  callL : Nat → PO D → PO D
  act : PO D
  kd : Nat → List (Str × D)
def isO : D → Bool
  | .obj _ => true
  | _ => false
def anyO : List D → Bool
  | [] => false
  | d :: ds => isO d || anyO ds
def pbnd : Tg → D → Env → Option Env
  | .name i, d, env => if i < env.length && !isO d then some (env.set i (some d)) else none
  | .tup ts, .tup ds, env => pbnds ts ds env
  | .tup ts, .lst ds, env => pbnds ts ds env
  | _, _, _ => none
where pbnds : List Tg → List D → Env → Option Env
  | [], [], env => some env
  | t :: ts, d :: ds, env => (pbnd t d env).bind fun env => pbnds ts ds env
  | _, _, _ => none
def pcompD (f : D → PO (Option D)) : List D → PO (List D)
  | [] => .ok []
  | d :: ds => match f d with
    | .ok r => (pcompD f ds).bind fun ys => .ok (match r with | some y => y :: ys | none => ys)
    | _ => .bad
def pgenD (f : D → PO D) (k : Bool) : List D → PO D
  | [] => .ok (.bl k)
  | d :: ds => match f d with
    | .ok (.bl b) => if b = k then pgenD f k ds else .ok (.bl (!k))
    | _ => .bad
def pforD (f : D → Env → POS) : List D → Env → POS
  | [], env => .nx env
  | d :: ds, env => match f d env with
    | .nx e => pforD f ds e
    | .ct e => pforD f ds e
    | .bk e => .nx e
    | r => r
def pwhlD (t : Env → PO Bool) (f : Env → POS) : Nat → Env → POS
  | 0, _ => .bad
  | k + 1, env => match t env with
    | .ok true => match f env with
      | .nx e => pwhlD t f k e
      | .ct e => pwhlD t f k e
      | .bk e => .nx e
      | r => r
    | .ok false => .nx env
    | .exc n => .exc n env
    | .bad => .bad
def pbltop (C : PC) : Blt → List D → Option D
  | .len => bLen
  | .abs => bAbs
  | .repr => bRepr
  | .isinst => bIsi C.sub
  | .gcd => bGcd
  | .tuple => bTuple
  | .list => bList
  | .int => bInt
  | .str => bStr
  | .max => bMax
  | .min => bMin
  | .sum => bSum
  | .all => bAll
  | .any => bAny
  | .isqrt => bIsqrt
  | _ => fun _ => none
mutual
def pv (C : PC) : E → Env → PO D
  | .lit d, _ => .ok d
  | .var i, env => match env[i]? with
    | some (some d) => if isO d then .bad else .ok d
    | _ => .bad
  | .glob n, _ => .of (C.glob n)
  | .bin o a b, env => (pv C a env).bind fun x => (pv C b env).bind fun y => if isO x || isO y then .bad else .of (binop o x y)
  | .neg a, env => (pv C a env).bind fun x => match x with
    | .int i => .ok (.int (-i))
    | _ => .bad
  | .not a, env => (pv C a env).bind fun x => if isO x then .bad else .of ((tru x).map fun b => .bl (!b))
  | .cmp c a b, env => (pv C a env).bind fun x => (pv C b env).bind fun y => if isO x || isO y then .bad else .of ((cmpop c x y).map .bl)
  | .chain c c' a b e, env => (pv C a env).bind fun x => (pv C b env).bind fun y => if isO x || isO y then .bad else match cmpop c x y with
    | some true => (pv C e env).bind fun z => if isO z then .bad else .of ((cmpop c' y z).map .bl)
    | some false => .ok (.bl false)
    | none => .bad
  | .bop k es, env => pvb C k es env
  | .ite c a b, env => (pv C c env).bind fun x => if isO x then .bad else match tru x with
    | some true => pv C a env
    | some false => pv C b env
    | none => .bad
  | .tup es, env => (pvs C es env).bind fun ds => if lim ds.length then .ok (.tup ds) else .bad
  | .lst m es, env => (pvs C es env).bind fun ds => if lim ds.length then (if m then .bad else .ok (.lst ds)) else .bad
  | .ix a b, env => (pv C a env).bind fun x => (pv C b env).bind fun y => if isO x then .bad else .of (idx x y)
  | .slc a lo hi, env => (pv C a env).bind fun x => (pvo C lo env).bind fun l => (pvo C hi env).bind fun h => if isO x then .bad else .of (cut x l h)
  | .addM _ _, _ => .bad
  | .rept es k, env => (pvs C es env).bind fun ds => if lim ds.length then (pv C k env).bind fun y => .of (repop ds y) else .bad
  | .slcK a lo hi k, env => (pv C a env).bind fun x => (pvo C lo env).bind fun l => (pvo C hi env).bind fun h => if isO x then .bad else .of (cutK k x l h)
  | .call f es, env => (pvs C es env).bind fun ds => if anyO ds then .bad else C.call f ds
  | .blt b es, env => (pvs C es env).bind fun ds => if anyO ds then .bad else .of (pbltop C b ds)
  | .mth _ _ _, _ => .bad
  | .comp m own tg ik src cond elt, env => (pvs C src env).bind fun vs => match items ik vs with
    | some xs => (pcompD (fun d => match pbnd tg d (wipeD env own) with
        | some env1 => (pvc C cond env1).bind fun k => if k then (pv C elt env1).bind fun y => .ok (some y) else .ok none
        | none => .bad) xs).bind fun ys => if lim ys.length then (if m then .bad else .ok (.lst ys)) else .bad
    | none => .bad
  | .gen k own tg ik src elt, env => (pvs C src env).bind fun vs => match items ik vs with
    | some xs => pgenD (fun d => match pbnd tg d (wipeD env own) with
        | some env1 => pv C elt env1
        | none => .bad) k xs
    | none => .bad
  | .callL f body, env => C.callL f (pv C body env)
  | .act i, env => match env[i]? with
    | some (some (.obj _)) => C.act
    | _ => .bad
  | .dct m ks es, env => (pvs C es env).bind fun ds => if dctOk ks ds.length then (if m then .bad else .ok (.dct ks ds)) else .bad
  | .kin neg a n, env => (pv C a env).bind fun x => match x with
    | .str z => .ok (.bl (cond neg (!(kdGet (C.kd n) z).isSome) (kdGet (C.kd n) z).isSome))
    | _ => .bad
  | .kinT neg a n, env => (pv C a env).bind fun x => match ktKey x with
    | some z => .ok (.bl (cond neg (!ktMem (C.kd n) z) (ktMem (C.kd n) z)))
    | none => .bad
  | .tyis neg a, env => (pv C a env).bind fun x => match tyInt x with
    | some b => .ok (.bl (cond neg (!b) b))
    | none => .bad
  | .kix n b, env => (pv C b env).bind fun y => match y with
    | .str z => .of (kdGet (C.kd n) z)
    | _ => .bad
  | .dget a k df, env => (pv C a env).bind fun x => if isDct x then (pv C k env).bind fun y => (pvs C df env).bind fun zs => .of (dgetop x y zs) else .bad
def pvs (C : PC) : List E → Env → PO (List D)
  | [], _ => .ok []
  | e :: es, env => (pv C e env).bind fun d => (pvs C es env).bind fun ds => .ok (d :: ds)
def pvb (C : PC) (k : Bool) : List E → Env → PO D
  | [], _ => .bad
  | [e], env => pv C e env
  | e :: e' :: es, env => (pv C e env).bind fun x => if isO x then .bad else match tru x with
    | some b => if b = k then pvb C k (e' :: es) env else .ok x
    | none => .bad
def pvo (C : PC) : List E → Env → PO (Option Int)
  | [], _ => .ok none
  | [e], env => (pv C e env).bind fun x => match x with
    | .int i => .ok (some i)
    | _ => .bad
  | _, _ => .bad
def pvc (C : PC) : List E → Env → PO Bool
  | [], _ => .ok true
  | [e], env => (pv C e env).bind fun x => if isO x then .bad else .of (tru x)
  | _, _ => .bad
end
def PO.thenS {α : Type} (r : PO α) (env : Env) (f : α → POS) : POS := match r with
  | .ok a => f a
  | .exc n => .exc n env
  | .bad => .bad
def POS.of : Option Env → POS
  | some e => .nx e
  | none => .bad
def pput (env : Env) (i : Nat) (d : D) : Option Env := if i < env.length && !isO d then some (env.set i (some d)) else none
def pputs : List Nat → List D → Env → Option Env
  | [], [], env => some env
  | i :: is, d :: ds, env => (pput env i d).bind fun env => pputs is ds env
  | _, _, _ => none
mutual
def pvS (C : PC) : S → Env → POS
  | .set i e, env => (pv C e env).thenS env fun d => .of (pput env i d)
  | .setT tg e, env => (pv C e env).thenS env fun d => .of (pbnd tg d env)
  | .par is es, env => (pvs C es env).thenS env fun ds => .of (pputs is ds env)
  | .setIx _ _ _, _ => .bad
  | .aug i o e, env => match env[i]? with
    | some (some x) => if isO x then .bad else (pv C e env).thenS env fun y => match augop o x y with
      | some z => .of (pput env i z)
      | none => .bad
    | _ => .bad
  | .ex e, env => (pv C e env).thenS env fun _ => .nx env
  | .ret e, env => (pv C e env).thenS env fun d => .rt d
  | .retN, _ => .rt .non
  | .ifs c a b, env => (pv C c env).thenS env fun x => if isO x then .bad else match tru x with
    | some true => pvSs C a env
    | some false => pvSs C b env
    | none => .bad
  | .whl c body, env => pwhlD (fun env => (pv C c env).bind fun x => if isO x then .bad else .of (tru x)) (fun env => pvSs C body env) C.fuel env
  | .fors tg ik src body, env => (pvs C src env).thenS env fun vs => match items ik vs with
    | some xs => pforD (fun d env => match pbnd tg d env with
      | some env1 => pvSs C body env1
      | none => .bad) xs env
    | none => .bad
  | .tryx body c i j, env => match pvSs C body env with
    | .exc n e => match C.sub n c with
      | some true => if i < e.length then (match pput e j (.exc n) with
        | some e1 => .nx (e1.set i none)
        | none => .bad) else .bad
      | some false => .exc n e
      | none => .bad
    | r => r
  | .raise n _, env => .exc n env
  | .brk, env => .bk env
  | .cnt, env => .ct env
  | .pass, env => .nx env
  | .frz _, _ => .bad
def pvSs (C : PC) : List S → Env → POS
  | [], env => .nx env
  | s :: ss, env => match pvS C s env with
    | .nx e => pvSs C ss e
    | r => r
end
mutual
/-- no cell in it, however deep -/
def nob : D → Bool
  | .obj _ => false
  | .tup ds => nobs ds
  | .lst ds => nobs ds
  | .dct _ ds => nobs ds
  | _ => true
def nobs : List D → Bool
  | [] => true
  | d :: ds => nob d && nobs ds
end
def pend : POS → PO D
  | .nx _ => .ok .non
  | .rt d => .ok d
  | .exc n _ => .exc n
  | _ => .bad
def pcfg (P : Prog) (call : Nat → List D → PO D) (callL : Nat → PO D → PO D) (act : PO D) : PC := ⟨call, P.glob, P.sub, P.fuel, callL, act, P.kd⟩
def pcallA (P : Prog) (call : Nat → List D → PO D) (f : Nat) (act : PO D) : PO D := match P.fns[f]? with
  | some fn => if fn.np = 1 && !fn.keep then (match pend (pvSs (pcfg P call (fun _ _ => .bad) act) fn.body (startD fn.n [.obj 0])) with
    | .ok d => if nob d then .ok d else .bad
    | _ => .bad) else .bad
  | none => .bad
def pcall (P : Prog) : Nat → Nat → List D → PO D
  | 0, _, _ => .bad
  | k + 1, f, ds => match P.fns[f]? with
    | some fn => if ds.length = fn.np && !anyO ds then pend (pvSs (pcfg P (pcall P k) (pcallA P (pcall P k)) .bad) fn.body (startD fn.n ds)) else .bad
    | none => .bad
end Itp
namespace Itp
open L2 PySem.Spec PyProof.Rows PySem
/-! ### what runs without cells runs so in any store -/
def Sm {α : Type} (p : PO α) (st : Sto) (r : Out α) : Prop := match p with
  | .ok a => r = .ok a st
  | .exc n => r = .exc n st
  | .bad => True
/-- the marker of the lambda in hand -/
def ER1 (l : Nat) (a b : Option D) : Prop := (a = b ∧ ∀ c, a ≠ some (.obj c)) ∨ (a = some (.obj 0) ∧ b = some (.obj l)) ∨ a = none
def ER (l : Nat) (e e' : Env) : Prop := e.length = e'.length ∧ ∀ i : Nat, i < e.length → ER1 l (e.getD i none) (e'.getD i none)
def SmS (l : Nat) (p : POS) (st : Sto) (r : OutS) : Prop := match p with
  | .nx e => ∃ e', ER l e e' ∧ r = .nx e' st
  | .rt d => r = .rt d st
  | .exc n e => ∃ e', ER l e e' ∧ r = .exc n e' st
  | .bk e => ∃ e', ER l e e' ∧ r = .bk e' st
  | .ct e => ∃ e', ER l e e' ∧ r = .ct e' st
  | .bad => True
structure CR (C : PC) (C' : Cfg) : Prop where
  call : ∀ i ds st, anyO ds = false → Sm (C.call i ds) st (C'.call i ds st)
  glob : C.glob = C'.glob
  sub : C.sub = C'.sub
  fuel : C.fuel = C'.fuel
  kd : C.kd = C'.kd
  callL : ∀ f p act, (∀ st, Sm p st (act st)) → ∀ st, Sm (C.callL f p) st (C'.callL f act st)
  act : ∀ st, Sm C.act st (C'.act st)
theorem view_no {st : Sto} {d : D} (h : isO d = false) : view st d = d := by
  cases d <;> first | rfl | (simp [isO] at h)
theorem allv_no {st : Sto} : ∀ {ds : List D}, anyO ds = false → allv st ds = ds
  | [], _ => rfl
  | d :: ds, h => by
    simp only [anyO, Bool.or_eq_false_iff] at h
    show view st d :: allv st ds = _
    rw [view_no h.1, allv_no h.2]
section
variable {α β : Type} {p : PO α} {r : Out α} {st : Sto}
theorem Sm.bind {f : α → PO β} {F : α → Sto → Out β} (h : Sm p st r) (k : ∀ a, Sm (f a) st (F a st)) : Sm (p.bind f) st (r.bind F) := by
  cases p with
  | ok a =>
    rw [show r = .ok a st from h]
    exact k a
  | exc n =>
    rw [show r = .exc n st from h]
    rfl
  | bad => trivial
theorem Sm.of {o : Option α} {r' : Out α} (h : ∀ a, o = some a → r' = .ok a st) : Sm (PO.of o) st r' := by
  cases o with
  | none => trivial
  | some a => exact h a rfl
theorem Sm.ite {c : Prop} [Decidable c] {p q : PO α} (h : ¬ c → Sm q st r) (h2 : c → Sm p st r) : Sm (if c then p else q) st r := by
  split
  · rename_i hc
    exact h2 hc
  · rename_i hc
    exact h hc
end
theorem ER.set {l : Nat} {e e' : Env} (h : ER l e e') (i : Nat) {d : D} (hd : isO d = false) : ER l (e.set i (some d)) (e'.set i (some d)) := by
  refine ⟨by simp [h.1], fun j hj => ?_⟩
  have hj : j < e.length := by simpa using hj
  by_cases e1 : i = j
  · subst e1
    rw [List.getD_eq_getElem?_getD, List.getD_eq_getElem?_getD, List.getElem?_set_self hj, List.getElem?_set_self (by rw [← h.1]; exact hj)]
    refine .inl ⟨rfl, fun c z => ?_⟩
    cases z
    cases hd
  · rw [List.getD_eq_getElem?_getD, List.getD_eq_getElem?_getD, List.getElem?_set_ne e1, List.getElem?_set_ne e1]
    rw [← List.getD_eq_getElem?_getD, ← List.getD_eq_getElem?_getD]
    exact h.2 j hj
theorem ER.clr {l : Nat} {e e' : Env} (h : ER l e e') (i : Nat) : ER l (e.set i none) (e'.set i none) := by
  refine ⟨by simp [h.1], fun j hj => ?_⟩
  have hj : j < e.length := by simpa using hj
  by_cases e1 : i = j
  · subst e1
    rw [List.getD_eq_getElem?_getD, List.getD_eq_getElem?_getD, List.getElem?_set_self hj, List.getElem?_set_self (by rw [← h.1]; exact hj)]
    exact .inl ⟨rfl, fun c z => by cases z⟩
  · rw [List.getD_eq_getElem?_getD, List.getD_eq_getElem?_getD, List.getElem?_set_ne e1, List.getElem?_set_ne e1]
    rw [← List.getD_eq_getElem?_getD, ← List.getD_eq_getElem?_getD]
    exact h.2 j hj
theorem ER.wipe {l : Nat} {e e' : Env} (h : ER l e e') : ∀ own : List Nat, ER l (wipeD e own) (wipeD e' own)
  | [] => h
  | v :: vs => (h.wipe vs).clr v
theorem ER.put {l : Nat} {e e' e1 : Env} {i : Nat} {d : D} (h : ER l e e') (q : pput e i d = some e1) : ∃ e1', put e' i d = some e1' ∧ ER l e1 e1' := by
  unfold pput at q
  split at q
  · rename_i hc
    simp only [Bool.and_eq_true, decide_eq_true_eq, Bool.not_eq_true'] at hc
    cases q
    refine ⟨_, ?_, h.set i hc.2⟩
    unfold Itp.put
    rw [if_pos (by rw [← h.1]; exact hc.1)]
  · cases q
theorem ER.puts {l : Nat} : ∀ {is : List Nat} {ds : List D} {e e' e1 : Env}, ER l e e' → pputs is ds e = some e1 → ∃ e1', puts is ds e' = some e1' ∧ ER l e1 e1'
  | [], [], e, e', e1, h, q => by
    simp only [pputs, Option.some.injEq] at q
    subst q
    exact ⟨e', rfl, h⟩
  | i :: is, d :: ds, e, e', e1, h, q => by
    simp only [pputs, Option.bind_eq_some_iff] at q
    obtain ⟨e2, q1, q2⟩ := q
    obtain ⟨e2', p1, h2⟩ := h.put q1
    obtain ⟨e1', p2, h3⟩ := h2.puts q2
    exact ⟨e1', by simp only [Itp.puts, p1]; exact p2, h3⟩
  | [], _ :: _, _, _, _, _, q => by simp [pputs] at q
  | _ :: _, [], _, _, _, _, q => by simp [pputs] at q
mutual
theorem ER.bnd {l : Nat} : ∀ (tg : Tg) (d : D) {e e' e1 : Env}, ER l e e' → pbnd tg d e = some e1 → ∃ e1', bnd tg d e' = some e1' ∧ ER l e1 e1'
  | .name i, d, e, e', e1, h, q => by
    simp only [pbnd] at q
    split at q
    · rename_i hc
      simp only [Bool.and_eq_true, decide_eq_true_eq, Bool.not_eq_true'] at hc
      cases q
      refine ⟨_, ?_, h.set i hc.2⟩
      simp only [Itp.bnd]
      rw [if_pos (by rw [← h.1]; exact hc.1)]
    · cases q
  | .tup ts, d, e, e', e1, h, q => by
    cases d <;> simp only [pbnd, reduceCtorEq] at q
    · obtain ⟨e1', p, h2⟩ := ER.bnds ts _ h q
      exact ⟨e1', by simp only [Itp.bnd]; exact p, h2⟩
    · obtain ⟨e1', p, h2⟩ := ER.bnds ts _ h q
      exact ⟨e1', by simp only [Itp.bnd]; exact p, h2⟩
theorem ER.bnds {l : Nat} : ∀ (ts : List Tg) (ds : List D) {e e' e1 : Env}, ER l e e' → pbnd.pbnds ts ds e = some e1 → ∃ e1', bnd.bnds ts ds e' = some e1' ∧ ER l e1 e1'
  | [], [], e, e', e1, h, q => by
    simp only [pbnd.pbnds, Option.some.injEq] at q
    subst q
    exact ⟨e', by simp [Itp.bnd.bnds], h⟩
  | t :: ts, d :: ds, e, e', e1, h, q => by
    simp only [pbnd.pbnds, Option.bind_eq_some_iff] at q
    obtain ⟨e2, q1, q2⟩ := q
    obtain ⟨e2', p1, h2⟩ := ER.bnd t d h q1
    obtain ⟨e1', p2, h3⟩ := ER.bnds ts ds h2 q2
    exact ⟨e1', by simp only [Itp.bnd.bnds, p1]; exact p2, h3⟩
  | [], _ :: _, _, _, _, _, q => by simp [pbnd.pbnds] at q
  | _ :: _, [], _, _, _, _, q => by simp [pbnd.pbnds] at q
end
theorem Sm.comp {f : D → PO (Option D)} {F : D → Sto → Out (Option D)} {st : Sto} (h : ∀ d, Sm (f d) st (F d st)) : ∀ xs, Sm (pcompD f xs) st (compD F xs st)
  | [] => rfl
  | d :: ds => by
    rw [pcompD, compD]
    have h1 := h d
    cases e : f d with
    | ok r =>
      rw [e] at h1
      rw [show F d st = .ok r st from h1]
      exact (Sm.comp h ds).bind fun ys => rfl
    | exc n => trivial
    | bad => trivial
theorem Sm.gen {f : D → PO D} {F : D → Sto → Out D} {st : Sto} (k : Bool) (h : ∀ d, Sm (f d) st (F d st)) : ∀ xs, Sm (pgenD f k xs) st (genD F k xs st)
  | [] => rfl
  | d :: ds => by
    rw [pgenD, genD]
    have h1 := h d
    cases e : f d with
    | ok r =>
      rw [e] at h1
      rw [show F d st = .ok r st from h1]
      cases r <;> try trivial
      simp only
      split
      · exact Sm.gen k h ds
      · rfl
    | exc n => trivial
    | bad => trivial
section
variable {l : Nat} {st : Sto}
theorem SmS.of {o : Option Env} {o' : Option Env} (h : ∀ e, o = some e → ∃ e', o' = some e' ∧ ER l e e') : SmS l (POS.of o) st (OutS.of st o') := by
  cases o with
  | none => trivial
  | some e =>
    obtain ⟨e', h1, h2⟩ := h e rfl
    rw [h1]
    exact ⟨e', h2, rfl⟩
theorem Sm.thenS {α : Type} {p : PO α} {r : Out α} {e e' : Env} {f : α → POS} {F : α → Sto → OutS} (h : Sm p st r) (he : ER l e e') (k : ∀ a, SmS l (f a) st (F a st)) : SmS l (p.thenS e f) st (r.thenS e' F) := by
  cases p with
  | ok a =>
    rw [show r = .ok a st from h]
    exact k a
  | exc n =>
    rw [show r = .exc n st from h]
    exact ⟨e', he, rfl⟩
  | bad => trivial
theorem SmS.for {f : D → Env → POS} {F : D → Env → Sto → OutS} (h : ∀ d e e', ER l e e' → SmS l (f d e) st (F d e' st)) : ∀ xs e e', ER l e e' → SmS l (pforD f xs e) st (forD F xs e' st)
  | [], e, e', he => ⟨e', he, rfl⟩
  | d :: ds, e, e', he => by
    rw [pforD, forD]
    have h1 := h d e e' he
    cases q : f d e with
    | nx e1 =>
      rw [q] at h1
      obtain ⟨e2, h2, h3⟩ := h1
      rw [h3]
      exact SmS.for h ds e1 e2 h2
    | ct e1 =>
      rw [q] at h1
      obtain ⟨e2, h2, h3⟩ := h1
      rw [h3]
      exact SmS.for h ds e1 e2 h2
    | bk e1 =>
      rw [q] at h1
      obtain ⟨e2, h2, h3⟩ := h1
      rw [h3]
      exact ⟨e2, h2, rfl⟩
    | rt d1 =>
      rw [q] at h1
      rw [show F d e' st = .rt d1 st from h1]
      rfl
    | exc n e1 =>
      rw [q] at h1
      obtain ⟨e2, h2, h3⟩ := h1
      rw [h3]
      exact ⟨e2, h2, rfl⟩
    | bad => trivial
theorem SmS.whl {t : Env → PO Bool} {T : Env → Sto → Out Bool} {f : Env → POS} {F : Env → Sto → OutS} (ht : ∀ e e', ER l e e' → Sm (t e) st (T e' st)) (h : ∀ e e', ER l e e' → SmS l (f e) st (F e' st)) : ∀ k e e', ER l e e' → SmS l (pwhlD t f k e) st (whlD T F k e' st)
  | 0, e, e', he => trivial
  | k + 1, e, e', he => by
    rw [pwhlD, whlD]
    have h1 := ht e e' he
    cases q : t e with
    | ok b =>
      rw [q] at h1
      rw [show T e' st = .ok b st from h1]
      cases b with
      | false => exact ⟨e', he, rfl⟩
      | true =>
        simp only
        have h1 := h e e' he
        cases q : f e with
        | nx e1 =>
          rw [q] at h1
          obtain ⟨e2, h2, h3⟩ := h1
          rw [h3]
          exact SmS.whl ht h k e1 e2 h2
        | ct e1 =>
          rw [q] at h1
          obtain ⟨e2, h2, h3⟩ := h1
          rw [h3]
          exact SmS.whl ht h k e1 e2 h2
        | bk e1 =>
          rw [q] at h1
          obtain ⟨e2, h2, h3⟩ := h1
          rw [h3]
          exact ⟨e2, h2, rfl⟩
        | rt d1 =>
          rw [q] at h1
          rw [show F e' st = .rt d1 st from h1]
          rfl
        | exc n e1 =>
          rw [q] at h1
          obtain ⟨e2, h2, h3⟩ := h1
          rw [h3]
          exact ⟨e2, h2, rfl⟩
        | bad => trivial
    | exc n =>
      rw [q] at h1
      rw [show T e' st = .exc n st from h1]
      exact ⟨e', he, rfl⟩
    | bad => trivial
end
theorem bltop_eq {C : PC} {C' : Cfg} (h : C.sub = C'.sub) (b : Blt) : pbltop C b = bltop C' b := by
  cases b <;> first | rfl | (unfold pbltop bltop; rw [h])
theorem ER.get {l : Nat} {e e' : Env} (h : ER l e e') {i : Nat} {d : D} (q : e[i]? = some (some d)) (hd : isO d = false) : e'[i]? = some (some d) := by
  have hi := (List.getElem?_eq_some_iff.mp q).1
  have h1 := h.2 i hi
  rw [List.getD_eq_getElem?_getD, List.getD_eq_getElem?_getD, q, List.getElem?_eq_getElem (by rw [← h.1]; exact hi)] at h1
  rw [List.getElem?_eq_getElem (by rw [← h.1]; exact hi)]
  rcases h1 with ⟨h1, _⟩ | ⟨h1, _⟩ | h1
  · simp at h1
    rw [h1]
  · simp at h1
    subst h1
    cases hd
  · simp at h1
theorem ER.mark {l : Nat} {e e' : Env} (h : ER l e e') {i c : Nat} (q : e[i]? = some (some (.obj c))) : e'[i]? = some (some (.obj l)) := by
  have hi := (List.getElem?_eq_some_iff.mp q).1
  have h1 := h.2 i hi
  rw [List.getD_eq_getElem?_getD, List.getD_eq_getElem?_getD, q, List.getElem?_eq_getElem (by rw [← h.1]; exact hi)] at h1
  rw [List.getElem?_eq_getElem (by rw [← h.1]; exact hi)]
  rcases h1 with ⟨_, h1⟩ | ⟨_, h1⟩ | h1
  · exact absurd rfl (h1 c)
  · simp at h1
    rw [h1]
  · simp at h1
end Itp
namespace Itp
open L2 PySem.Spec PyProof.Rows PySem
section
variable {C : PC} {C' : Cfg} {l : Nat}
theorem no2 {x y : D} (h : ¬ (isO x || isO y) = true) : isO x = false ∧ isO y = false := by
  cases hx : isO x <;> cases hy : isO y <;> simp [hx, hy] at h ⊢
theorem no1 {x : D} (h : ¬ isO x = true) : isO x = false := by
  cases hx : isO x <;> simp [hx] at h ⊢
mutual
theorem evP (h : CR C C') (hl : C'.lamc = l) : ∀ (e : E) (env env' : Env) (st : Sto), ER l env env' → Sm (pv C e env) st (ev C' e env' st)
  | .lit d, env, env', st, he => by
    simp only [pv, ev]
    rfl
  | .var i, env, env', st, he => by
    simp only [pv, ev]
    split
    · rename_i d q
      refine Sm.ite (fun hc => ?_) fun _ => trivial
      rw [he.get q (no1 hc)]
      rfl
    · trivial
  | .glob n, env, env', st, he => by
    simp only [pv, ev]
    rw [h.glob]
    exact Sm.of fun a q => by rw [q]; rfl
  | .bin o a b, env, env', st, he => by
    simp only [pv, ev]
    refine (evP h hl a env env' st he).bind fun x => (evP h hl b env env' st he).bind fun y => Sm.ite (fun hc => ?_) fun _ => trivial
    obtain ⟨h1, h2⟩ := no2 hc
    rw [view_no h1, view_no h2]
    exact Sm.of fun a q => by rw [q]; rfl
  | .neg a, env, env', st, he => by
    simp only [pv, ev]
    refine (evP h hl a env env' st he).bind fun x => ?_
    cases x <;> first | trivial | rfl
  | .not a, env, env', st, he => by
    simp only [pv, ev]
    refine (evP h hl a env env' st he).bind fun x => Sm.ite (fun hc => ?_) fun _ => trivial
    rw [view_no (no1 hc)]
    exact Sm.of fun a q => by rw [q]; rfl
  | .cmp c a b, env, env', st, he => by
    simp only [pv, ev]
    refine (evP h hl a env env' st he).bind fun x => (evP h hl b env env' st he).bind fun y => Sm.ite (fun hc => ?_) fun _ => trivial
    obtain ⟨h1, h2⟩ := no2 hc
    rw [view_no h1, view_no h2]
    exact Sm.of fun a q => by rw [q]; rfl
  | .chain c c' a b e, env, env', st, he => by
    simp only [pv, ev]
    refine (evP h hl a env env' st he).bind fun x => (evP h hl b env env' st he).bind fun y => Sm.ite (fun hc => ?_) fun _ => trivial
    obtain ⟨h1, h2⟩ := no2 hc
    rw [view_no h1, view_no h2]
    cases q : cmpop c x y with
    | none => trivial
    | some t =>
      cases t with
      | false => rfl
      | true =>
        refine (evP h hl e env env' st he).bind fun z => Sm.ite (fun hc => ?_) fun _ => trivial
        rw [view_no h2, view_no (no1 hc)]
        exact Sm.of fun a q => by rw [q]; rfl
  | .bop k es, env, env', st, he => by
    simp only [pv, ev]
    exact evbP h hl k es env env' st he
  | .ite c a b, env, env', st, he => by
    simp only [pv, ev]
    refine (evP h hl c env env' st he).bind fun x => Sm.ite (fun hc => ?_) fun _ => trivial
    rw [view_no (no1 hc)]
    cases q : tru x with
    | none => trivial
    | some t =>
      cases t with
      | false => exact evP h hl b env env' st he
      | true => exact evP h hl a env env' st he
  | .tup es, env, env', st, he => by
    simp only [pv, ev]
    refine (evsP h hl es env env' st he).bind fun ds => Sm.ite (fun hc => trivial) fun hc => ?_
    rw [if_pos hc]
    rfl
  | .lst m es, env, env', st, he => by
    simp only [pv, ev]
    refine (evsP h hl es env env' st he).bind fun ds => Sm.ite (fun hc => trivial) fun hc => Sm.ite (fun hm => ?_) fun hm => trivial
    rw [if_pos hc, if_neg hm]
    rfl
  | .ix a b, env, env', st, he => by
    simp only [pv, ev]
    refine (evP h hl a env env' st he).bind fun x => (evP h hl b env env' st he).bind fun y => Sm.ite (fun hc => ?_) fun _ => trivial
    rw [view_no (no1 hc)]
    exact Sm.of fun a q => by rw [q]; rfl
  | .slc a lo hi, env, env', st, he => by
    simp only [pv, ev]
    refine (evP h hl a env env' st he).bind fun x => (evoP h hl lo env env' st he).bind fun lo => (evoP h hl hi env env' st he).bind fun hi => Sm.ite (fun hc => ?_) fun _ => trivial
    rw [view_no (no1 hc)]
    exact Sm.of fun a q => by rw [q]; rfl
  | .addM _ _, env, env', st, he => by
    simp only [pv]
    trivial
  | .rept es k, env, env', st, he => by
    simp only [pv, ev]
    refine (evsP h hl es env env' st he).bind fun ds => Sm.ite (fun hc => trivial) fun hc => ?_
    rw [if_pos hc]
    refine (evP h hl k env env' st he).bind fun y => ?_
    exact Sm.of fun a q => by rw [q]; rfl
  | .slcK a lo hi k, env, env', st, he => by
    simp only [pv, ev]
    refine (evP h hl a env env' st he).bind fun x => (evoP h hl lo env env' st he).bind fun lo => (evoP h hl hi env env' st he).bind fun hi => Sm.ite (fun hc => ?_) fun _ => trivial
    rw [view_no (no1 hc)]
    exact Sm.of fun a q => by rw [q]; rfl
  | .call f es, env, env', st, he => by
    simp only [pv, ev]
    refine (evsP h hl es env env' st he).bind fun ds => Sm.ite (fun hc => ?_) fun _ => trivial
    exact h.call f ds st (by simpa using hc)
  | .blt b es, env, env', st, he => by
    simp only [pv, ev]
    refine (evsP h hl es env env' st he).bind fun ds => Sm.ite (fun hc => ?_) fun _ => trivial
    rw [allv_no (by simpa using hc), ← bltop_eq h.sub]
    exact Sm.of fun a q => by rw [q]; rfl
  | .mth m o es, env, env', st, he => by
    simp only [pv]
    trivial
  | .comp m own tg ik src cond elt, env, env', st, he => by
    simp only [pv, ev]
    refine (evsP h hl src env env' st he).bind fun vs => ?_
    cases q : items ik vs with
    | none => trivial
    | some xs =>
      refine Sm.bind (Sm.comp (fun d => ?_) xs) fun ys => Sm.ite (fun hc => trivial) fun hc => Sm.ite (fun hm => ?_) fun hm => trivial
      · cases q : pbnd tg d (wipeD env own) with
        | none => trivial
        | some e1 =>
          obtain ⟨e1', p, h2⟩ := ER.bnd tg d (he.wipe own) q
          rw [p]
          refine (evcP h hl cond e1 e1' st h2).bind fun k => ?_
          cases k with
          | false => rfl
          | true => exact (evP h hl elt e1 e1' st h2).bind fun y => rfl
      · rw [if_pos hc, if_neg hm]
        rfl
  | .gen k own tg ik src elt, env, env', st, he => by
    simp only [pv, ev]
    refine (evsP h hl src env env' st he).bind fun vs => ?_
    cases q : items ik vs with
    | none => trivial
    | some xs =>
      refine Sm.gen k (fun d => ?_) xs
      cases q : pbnd tg d (wipeD env own) with
      | none => trivial
      | some e1 =>
        obtain ⟨e1', p, h2⟩ := ER.bnd tg d (he.wipe own) q
        rw [p]
        exact evP h hl elt e1 e1' st h2
  | .callL f body, env, env', st, he => by
    simp only [pv, ev]
    exact h.callL f _ _ (fun st => evP h hl body env env' st he) st
  | .act i, env, env', st, he => by
    simp only [pv, ev]
    split
    · rename_i c q
      rw [he.mark q]
      simp only
      rw [if_pos hl.symm]
      exact h.act st
    · trivial
  | .dct m ks es, env, env', st, he => by
    simp only [pv, ev]
    refine (evsP h hl es env env' st he).bind fun ds => Sm.ite (fun hc => trivial) fun hc => Sm.ite (fun hm => ?_) fun hm => trivial
    rw [if_pos hc, if_neg hm]
    rfl
  | .kin neg a n, env, env', st, he => by
    simp only [pv, ev]
    rw [h.kd]
    refine (evP h hl a env env' st he).bind fun x => ?_
    cases x <;> first | trivial | rfl
  | .kinT neg a n, env, env', st, he => by
    simp only [pv, ev]
    rw [h.kd]
    refine (evP h hl a env env' st he).bind fun x => ?_
    cases ktKey x <;> first | trivial | rfl
  | .tyis neg a, env, env', st, he => by
    simp only [pv, ev]
    refine (evP h hl a env env' st he).bind fun x => ?_
    cases x <;> first | trivial | rfl
  | .kix n b, env, env', st, he => by
    simp only [pv, ev]
    rw [h.kd]
    refine (evP h hl b env env' st he).bind fun x => ?_
    cases x <;> try trivial
    exact Sm.of fun a q => by
      show Out.of st _ = _
      rw [q]
      rfl
  | .dget a k df, env, env', st, he => by
    simp only [pv, ev]
    refine (evP h hl a env env' st he).bind fun x => Sm.ite (fun _ => trivial) fun hx => ?_
    have hv : view st x = x := view_no (by cases x <;> first | rfl | (simp [isDct] at hx))
    rw [hv, if_pos hx]
    refine (evP h hl k env env' st he).bind fun y => (evsP h hl df env env' st he).bind fun zs => ?_
    rw [hv]
    exact Sm.of fun a q => by rw [q]; rfl
theorem evsP (h : CR C C') (hl : C'.lamc = l) : ∀ (es : List E) (env env' : Env) (st : Sto), ER l env env' → Sm (pvs C es env) st (evs C' es env' st)
  | [], env, env', st, he => by
    simp only [pvs, evs]
    rfl
  | e :: es, env, env', st, he => by
    simp only [pvs, evs]
    exact (evP h hl e env env' st he).bind fun d => (evsP h hl es env env' st he).bind fun ds => rfl
theorem evbP (h : CR C C') (hl : C'.lamc = l) (k : Bool) : ∀ (es : List E) (env env' : Env) (st : Sto), ER l env env' → Sm (pvb C k es env) st (evb C' k es env' st)
  | [], env, env', st, he => by
    simp only [pvb]
    trivial
  | [e], env, env', st, he => by
    simp only [pvb, evb]
    exact evP h hl e env env' st he
  | e :: e' :: es, env, env', st, he => by
    simp only [pvb, evb]
    refine (evP h hl e env env' st he).bind fun x => Sm.ite (fun hc => ?_) fun _ => trivial
    rw [view_no (no1 hc)]
    cases q : tru x with
    | none => trivial
    | some t =>
      simp only
      split
      · exact evbP h hl k (e' :: es) env env' st he
      · rfl
theorem evoP (h : CR C C') (hl : C'.lamc = l) : ∀ (es : List E) (env env' : Env) (st : Sto), ER l env env' → Sm (pvo C es env) st (evo C' es env' st)
  | [], env, env', st, he => by
    simp only [pvo, evo]
    rfl
  | [e], env, env', st, he => by
    simp only [pvo, evo]
    refine (evP h hl e env env' st he).bind fun x => ?_
    cases x <;> first | trivial | rfl
  | _ :: _ :: _, env, env', st, he => by
    simp only [pvo]
    trivial
theorem evcP (h : CR C C') (hl : C'.lamc = l) : ∀ (es : List E) (env env' : Env) (st : Sto), ER l env env' → Sm (pvc C es env) st (evc C' es env' st)
  | [], env, env', st, he => by
    simp only [pvc, evc]
    rfl
  | [e], env, env', st, he => by
    simp only [pvc, evc]
    refine (evP h hl e env env' st he).bind fun x => Sm.ite (fun hc => ?_) fun _ => trivial
    rw [view_no (no1 hc)]
    exact Sm.of fun a q => by rw [q]; rfl
  | _ :: _ :: _, env, env', st, he => by
    simp only [pvc]
    trivial
end
theorem tstP (h : CR C C') (hl : C'.lamc = l) (c : E) {env env' : Env} (st : Sto) (he : ER l env env') : Sm ((pv C c env).bind fun x => if isO x then .bad else .of (tru x)) st ((ev C' c env' st).bind fun x st => .of st (tru (view st x))) :=
  (evP h hl c env env' st he).bind fun x => Sm.ite (fun hc => by rw [view_no (no1 hc)]; exact Sm.of fun a q => by rw [q]; rfl) fun _ => trivial
mutual
theorem evSP (h : CR C C') (hl : C'.lamc = l) : ∀ (s : S) (env env' : Env) (st : Sto), ER l env env' → SmS l (pvS C s env) st (evS C' s env' st)
  | .set i e, env, env', st, he => by
    simp only [pvS, evS]
    exact Sm.thenS (evP h hl e env env' st he) he fun d => SmS.of fun e q => he.put q
  | .setT tg e, env, env', st, he => by
    simp only [pvS, evS]
    exact Sm.thenS (evP h hl e env env' st he) he fun d => SmS.of fun e q => ER.bnd tg d he q
  | .par is es, env, env', st, he => by
    simp only [pvS, evS]
    exact Sm.thenS (evsP h hl es env env' st he) he fun d => SmS.of fun e q => he.puts q
  | .setIx _ _ _, env, env', st, he => by
    simp only [pvS]
    trivial
  | .aug i o e, env, env', st, he => by
    simp only [pvS, evS]
    split
    · rename_i x q
      split
      · trivial
      · rename_i hc
        rw [he.get q (no1 hc)]
        simp only
        refine Sm.thenS (evP h hl e env env' st he) he fun y => ?_
        cases q : augop o x y with
        | none => trivial
        | some z => exact SmS.of fun e q => he.put q
    · trivial
  | .ex e, env, env', st, he => by
    simp only [pvS, evS]
    exact Sm.thenS (evP h hl e env env' st he) he fun d => ⟨env', he, rfl⟩
  | .ret e, env, env', st, he => by
    simp only [pvS, evS]
    exact Sm.thenS (evP h hl e env env' st he) he fun d => rfl
  | .retN, env, env', st, he => by
    simp only [pvS, evS]
    rfl
  | .ifs c a b, env, env', st, he => by
    simp only [pvS, evS]
    refine Sm.thenS (evP h hl c env env' st he) he fun x => ?_
    split
    · trivial
    · rename_i hc
      rw [view_no (no1 hc)]
      cases q : tru x with
      | none => trivial
      | some t =>
        cases t with
        | false => exact evSsP h hl b env env' st he
        | true => exact evSsP h hl a env env' st he
  | .whl c body, env, env', st, he => by
    simp only [pvS, evS]
    rw [h.fuel]
    exact SmS.whl (fun e e' he => tstP h hl c st he) (fun e e' he => evSsP h hl body e e' st he) _ env env' he
  | .fors tg ik src body, env, env', st, he => by
    simp only [pvS, evS]
    refine Sm.thenS (evsP h hl src env env' st he) he fun vs => ?_
    cases q : items ik vs with
    | none => trivial
    | some xs =>
      refine SmS.for (fun d e e' he => ?_) xs env env' he
      cases q : pbnd tg d e with
      | none => trivial
      | some e1 =>
        obtain ⟨e1', p, h2⟩ := ER.bnd tg d he q
        rw [p]
        exact evSsP h hl body e1 e1' st h2
  | .tryx body c i j, env, env', st, he => by
    simp only [pvS, evS]
    have h1 := evSsP h hl body env env' st he
    cases q : pvSs C body env with
    | nx e =>
      rw [q] at h1
      obtain ⟨e', h2, h3⟩ := h1
      rw [h3]
      exact ⟨e', h2, rfl⟩
    | bk e =>
      rw [q] at h1
      obtain ⟨e', h2, h3⟩ := h1
      rw [h3]
      exact ⟨e', h2, rfl⟩
    | ct e =>
      rw [q] at h1
      obtain ⟨e', h2, h3⟩ := h1
      rw [h3]
      exact ⟨e', h2, rfl⟩
    | rt d =>
      rw [q] at h1
      rw [show evSs C' body env' st = .rt d st from h1]
      rfl
    | bad => trivial
    | exc n e =>
      rw [q] at h1
      obtain ⟨e', h2, h3⟩ := h1
      rw [h3]
      simp only
      rw [h.sub]
      cases q : C'.sub n c with
      | none => trivial
      | some t =>
        cases t with
        | false => exact ⟨e', h2, rfl⟩
        | true =>
          simp only
          split
          · rename_i hi
            rw [if_pos (by rw [← h2.1]; exact hi)]
            cases q : pput e j (.exc n) with
            | none => trivial
            | some e1 =>
              obtain ⟨e1', p, h3⟩ := h2.put q
              rw [p]
              exact ⟨_, h3.clr i, rfl⟩
          · trivial
  | .raise n _, env, env', st, he => by
    simp only [pvS, evS]
    exact ⟨env', he, rfl⟩
  | .brk, env, env', st, he => by
    simp only [pvS, evS]
    exact ⟨env', he, rfl⟩
  | .cnt, env, env', st, he => by
    simp only [pvS, evS]
    exact ⟨env', he, rfl⟩
  | .pass, env, env', st, he => by
    simp only [pvS, evS]
    exact ⟨env', he, rfl⟩
  | .frz _, env, env', st, he => by
    simp only [pvS]
    trivial
theorem evSsP (h : CR C C') (hl : C'.lamc = l) : ∀ (ss : List S) (env env' : Env) (st : Sto), ER l env env' → SmS l (pvSs C ss env) st (evSs C' ss env' st)
  | [], env, env', st, he => by
    simp only [pvSs, evSs]
    exact ⟨env', he, rfl⟩
  | s :: ss, env, env', st, he => by
    simp only [pvSs, evSs]
    have h1 := evSP h hl s env env' st he
    cases q : pvS C s env with
    | nx e =>
      rw [q] at h1
      obtain ⟨e', h2, h3⟩ := h1
      rw [h3]
      exact evSsP h hl ss e e' st h2
    | bk e =>
      rw [q] at h1
      obtain ⟨e', h2, h3⟩ := h1
      rw [h3]
      exact ⟨e', h2, rfl⟩
    | ct e =>
      rw [q] at h1
      obtain ⟨e', h2, h3⟩ := h1
      rw [h3]
      exact ⟨e', h2, rfl⟩
    | rt d =>
      rw [q] at h1
      rw [show evS C' s env' st = .rt d st from h1]
      rfl
    | exc n e =>
      rw [q] at h1
      obtain ⟨e', h2, h3⟩ := h1
      rw [h3]
      exact ⟨e', h2, rfl⟩
    | bad => trivial
end
end
end Itp
namespace Itp
open L2 PySem.Spec PyProof.Rows PySem
theorem ER.refl {l : Nat} : ∀ {ds : List D} {n : Nat}, anyO ds = false → ER l (startD n ds) (startD n ds) := by
  intro ds n h
  refine ⟨rfl, fun i _ => .inl ⟨rfl, fun c q => ?_⟩⟩
  unfold startD at q
  rw [List.getD_eq_getElem?_getD] at q
  by_cases hi : i < ds.length
  · rw [List.getElem?_append_left (by simpa using hi), List.getElem?_map, List.getElem?_eq_getElem hi] at q
    simp at q
    have : ∀ (ds : List D) (i : Nat) (hi : i < ds.length), anyO ds = false → ds[i] ≠ .obj c := by
      intro ds
      induction ds with
      | nil => intro i hi; simp at hi
      | cons d ds ih =>
        intro i hi h
        simp only [anyO, Bool.or_eq_false_iff] at h
        cases i with
        | zero =>
          intro z
          simp at z
          rw [z] at h
          simp [isO] at h
        | succ i => exact ih i (by simpa using hi) h.2
    exact this ds i hi h q
  · rw [List.getElem?_append_right (by simpa using hi), List.getElem?_replicate] at q
    split at q <;> simp at q
mutual
theorem frz_nob {g : Nat → Option D} : ∀ {d : D}, nob d = true → frz0 g d = some d
  | .non, _ => by simp [frz0]
  | .bl b, _ => by simp [frz0]
  | .int i, _ => by simp [frz0]
  | .str x, _ => by simp [frz0]
  | .rep d, _ => by simp [frz0]
  | .cls n, _ => by simp [frz0]
  | .ty t, _ => by simp [frz0]
  | .exc n, _ => by simp [frz0]
  | .obj c, h => by simp [nob] at h
  | .tup ds, h => by
    simp only [nob] at h
    simp only [frz0, frzs_nob h, Option.map_some]
  | .lst ds, h => by
    simp only [nob] at h
    simp only [frz0, frzs_nob h, Option.map_some]
  | .dct ks ds, h => by
    simp only [nob] at h
    simp only [frz0, frzs_nob h, Option.map_some]
theorem frzs_nob {g : Nat → Option D} : ∀ {ds : List D}, nobs ds = true → frz0s g ds = some ds
  | [], _ => by simp [frz0s]
  | d :: ds, h => by
    simp only [nobs, Bool.and_eq_true] at h
    simp only [frz0s, frz_nob h.1, frzs_nob h.2]
end
theorem fin_same {keep : Bool} {st : Sto} {d : D} : fin keep st.length d st = .ok d st := by
  unfold fin
  rw [if_pos (by simp)]
theorem fin_dead {keep : Bool} {st : Sto} {d : D} {o : O} (hk : keep = false) (hd : nob d = true) : fin keep st.length d (st ++ [o]) = .ok d st := by
  unfold fin
  rw [if_neg (by simp [hk]), frz_nob hd]
  simp
theorem callA_pure {P : Prog} {pc : Nat → List D → PO D} {c : Nat → List D → Sto → Out D} (hc : ∀ i ds st, anyO ds = false → Sm (pc i ds) st (c i ds st)) (f : Nat) (p : PO D) (act : Sto → Out D) (ha : ∀ st, Sm p st (act st)) (st : Sto) : Sm (pcallA P pc f p) st (callA P c f act st) := by
  unfold pcallA callA
  cases q : P.fns[f]? with
  | none => trivial
  | some fn =>
    simp only
    split
    · rename_i hn
      simp only [Bool.and_eq_true, decide_eq_true_eq, Bool.not_eq_true'] at hn
      rw [if_pos hn.1]
      have R : CR (pcfg P pc (fun _ _ => .bad) p) (cfgA P c act st.length) := ⟨hc, rfl, rfl, rfl, rfl, fun _ _ _ _ _ => trivial, ha⟩
      have E0 : ER st.length (startD fn.n [.obj 0]) (startD fn.n [.obj st.length]) := by
        refine ⟨by simp [startD], fun i hi => ?_⟩
        cases i with
        | zero => exact .inr (.inl ⟨rfl, rfl⟩)
        | succ i =>
          left
          refine ⟨rfl, fun c z => ?_⟩
          unfold startD at z
          simp only [List.map_cons, List.map_nil, List.cons_append, List.nil_append, List.getD_cons_succ] at z
          rw [List.getD_eq_getElem?_getD, List.getElem?_replicate] at z
          split at z <;> simp at z
      have h1 := evSsP R (l := st.length) rfl fn.body _ _ (st ++ [.dead]) E0
      cases q : pvSs (pcfg P pc (fun _ _ => .bad) p) fn.body (startD fn.n [.obj 0]) with
      | nx e =>
        rw [q] at h1
        obtain ⟨e', h2, h3⟩ := h1
        rw [h3]
        simp only [pend]
        rw [if_pos (by rfl)]
        show (fin fn.keep st.length .non (st ++ [.dead])).calm = _
        rw [fin_dead hn.2 rfl]
        rfl
      | rt d =>
        rw [q] at h1
        rw [show evSs _ _ _ _ = .rt d (st ++ [.dead]) from h1]
        simp only [pend]
        refine Sm.ite (fun _ => trivial) fun hd => ?_
        show (fin fn.keep st.length d (st ++ [.dead])).calm = _
        rw [fin_dead hn.2 hd]
        rfl
      | exc n e => trivial
      | bk e => trivial
      | ct e => trivial
      | bad => trivial
    · trivial
theorem callF_pure (P : Prog) : ∀ (k i : Nat) (ds : List D) (st : Sto), anyO ds = false → Sm (pcall P k i ds) st (callF P k i ds st)
  | 0, i, ds, st, _ => by
    rw [pcall]
    trivial
  | k + 1, i, ds, st, ho => by
    rw [pcall, callF]
    cases q : P.fns[i]? with
    | none => trivial
    | some fn =>
      simp only
      split
      · rename_i hn
        simp only [Bool.and_eq_true, decide_eq_true_eq, Bool.not_eq_true'] at hn
        rw [if_pos hn.1]
        have R : CR (pcfg P (pcall P k) (pcallA P (pcall P k)) .bad) (cfg P (callF P k) st.length) := ⟨callF_pure P k, rfl, rfl, rfl, rfl, fun f p act ha st => callA_pure (callF_pure P k) f p act ha st, fun _ => trivial⟩
        have h1 := evSsP R (l := 0) rfl fn.body _ _ st (ER.refl (n := fn.n) ho)
        cases q : pvSs (pcfg P (pcall P k) (pcallA P (pcall P k)) .bad) fn.body (startD fn.n ds) with
        | nx e =>
          rw [q] at h1
          obtain ⟨e', h2, h3⟩ := h1
          rw [h3]
          exact fin_same
        | rt d =>
          rw [q] at h1
          rw [show evSs _ _ _ _ = .rt d st from h1]
          exact fin_same
        | exc n e =>
          rw [q] at h1
          obtain ⟨e', h2, h3⟩ := h1
          rw [h3]
          show Out.exc n (st.take st.length) = _
          rw [List.take_length]
        | bk e => trivial
        | ct e => trivial
        | bad => trivial
      · trivial
theorem callF_ok {P : Prog} {k i : Nat} {ds : List D} {d : D} (h : pcall P k i ds = .ok d) (ho : anyO ds = false) (st : Sto) : callF P k i ds st = .ok d st := by
  have := callF_pure P k i ds st ho
  rw [h] at this
  exact this
theorem callF_exc {P : Prog} {k i : Nat} {ds : List D} {n : Nat} (h : pcall P k i ds = .exc n) (ho : anyO ds = false) (st : Sto) : callF P k i ds st = .exc n st := by
  have := callF_pure P k i ds st ho
  rw [h] at this
  exact this
end Itp
namespace Itp
open PySem
/-! ### running the small interpreter by rewriting -/
theorem endF_rt {d : D} {st : Sto} : endF false st.length (.rt d st) = .ok d st := by
  simp [endF, fin]
theorem endF_exc {n : Nat} {e : Itp.Env} {st : Sto} : endF false st.length (.exc n e st) = .exc n st := by
  simp [endF]
theorem endF_same {keep : Bool} {n : Nat} {d : D} {st : Sto} (h : st.length = n) : endF keep n (.rt d st) = .ok d st := by
  subst h
  simp [endF, fin]
theorem endF_keep {n : Nat} {d : D} {st : Sto} : endF true n (.rt d st) = .ok d st := by
  simp [endF, fin]
theorem log_of {j : Int} {n : Nat} (h : j.natAbs < 2 ^ n) : j.natAbs.log2 < n + 1 := by
  by_cases e : j.natAbs = 0
  · rw [e]
    simp
  · exact Nat.lt_succ_of_lt ((Nat.log2_lt e).mpr h)
theorem divOk_of {j : Int} {k : Nat} (h : j ≠ 0) (h2 : j.natAbs < 2 ^ k) (hk : k < 9000 - 1) : divOk j = true := by
  have h3 := log_of h2
  have : j.natAbs.log2 < 9000 := by omega
  simp [divOk, bits, h, this]
theorem mulOk_r {i j : Int} (h : -(2 ^ 64) < j) (h2 : j < 2 ^ 64) : mulOk i j = true := by
  simp only [mulOk, Bool.or_eq_true, Bool.and_eq_true, decide_eq_true_eq]
  exact .inl (.inr ⟨h, h2⟩)
theorem mulOk_l {i j : Int} (h : -(2 ^ 64) < i) (h2 : i < 2 ^ 64) : mulOk i j = true := by
  simp only [mulOk, Bool.or_eq_true, Bool.and_eq_true, decide_eq_true_eq]
  exact .inl (.inl ⟨h, h2⟩)
theorem fmod_nn (x : Int) {m : Int} (h : 0 < m) : 0 ≤ x.fmod m := by
  rw [Int.fmod_eq_emod_of_nonneg _ (by omega)]
  exact Int.emod_nonneg _ (by omega)
theorem fmod_lt (x : Int) {m : Int} (h : 0 < m) : x.fmod m < m := Int.fmod_lt_of_pos _ h
theorem limN {n : Nat} (h : n ≤ 16777216) : lim n = true := by
  unfold lim
  rw [sizeLine_eq]
  exact decide_eq_true h
theorem lim0 : lim 0 = true := limN (by decide)
theorem lim1 : lim 1 = true := limN (by decide)
theorem lim2 : lim 2 = true := limN (by decide)
theorem lim3 : lim 3 = true := limN (by decide)
theorem lim4 : lim 4 = true := limN (by decide)
theorem lim5 : lim 5 = true := limN (by decide)
theorem lim6 : lim 6 = true := limN (by decide)
theorem lim7 : lim 7 = true := limN (by decide)
theorem lim8 : lim 8 = true := limN (by decide)
theorem lim9 : lim 9 = true := limN (by decide)
theorem lim10 : lim 10 = true := limN (by decide)
theorem lim11 : lim 11 = true := limN (by decide)
theorem nx_cons {C : Cfg} {s : S} {ss : List S} {env e : Env} {st t : Sto} (h : evS C s env st = .nx e t) : evSs C (s :: ss) env st = evSs C ss e t := by
  simp only [evSs, h]
theorem evSs_app {C : Cfg} {ss : List S} : ∀ {pre : List S} {env e : Env} {st t : Sto}, evSs C pre env st = .nx e t → evSs C (pre ++ ss) env st = evSs C ss e t
  | [], env, e, st, t, h => by
    simp only [evSs, OutS.nx.injEq] at h
    obtain ⟨rfl, rfl⟩ := h
    rfl
  | s :: pre, env, e, st, t, h => by
    rw [List.cons_append]
    simp only [evSs] at h ⊢
    split at h
    · exact evSs_app h
    · rename_i hn
      exact absurd h fun z => hn _ _ z
theorem rt_cons {C : Cfg} {s : S} {ss : List S} {env : Env} {st t : Sto} {d : D} (h : evS C s env st = .rt d t) : evSs C (s :: ss) env st = .rt d t := by
  simp only [evSs, h]
theorem fors_eq (C : Cfg) (tg : Tg) (ik : IK) (src : List E) (body : List S) (env : Env) (st : Sto) : evS C (.fors tg ik src body) env st = (evs C src env st).thenS env fun vs st => match items ik vs with
    | some xs => forD (fun d env st => match bnd tg d env with
      | some env1 => evSs C body env1 st
      | none => .bad) xs env st
    | none => .bad := by
  simp only [evS] <;> rfl
theorem forD_inv {f : D → Env → Sto → OutS} {Inv : Env → Sto → Prop} : ∀ {xs : List D}, (∀ d ∈ xs, ∀ env st, Inv env st → ∃ e s, f d env st = .nx e s ∧ Inv e s) → ∀ {env : Env} {st : Sto}, Inv env st → ∃ e s, forD f xs env st = .nx e s ∧ Inv e s
  | [], _, env, st, h => ⟨env, st, rfl, h⟩
  | d :: ds, k, env, st, h => by
    obtain ⟨e, s, h1, h2⟩ := k d List.mem_cons_self env st h
    obtain ⟨e', s', h3, h4⟩ := forD_inv (fun d hd => k d (List.mem_cons_of_mem _ hd)) h2
    refine ⟨e', s', ?_, h4⟩
    rw [forD, h1]
    exact h3
/-- .. counted -/
theorem forD_cnt {f : D → Env → Sto → OutS} {Inv : Nat → Env → Sto → Prop} : ∀ {xs : List D} (n : Nat), (∀ i d, xs[i]? = some d → ∀ env st, Inv (n + i) env st → ∃ e s, f d env st = .nx e s ∧ Inv (n + i + 1) e s) → ∀ {env : Env} {st : Sto}, Inv n env st → ∃ e s, forD f xs env st = .nx e s ∧ Inv (n + xs.length) e s
  | [], n, _, env, st, h => ⟨env, st, rfl, h⟩
  | d :: ds, n, k, env, st, h => by
    obtain ⟨e, s, h1, h2⟩ := k 0 d rfl env st h
    obtain ⟨e', s', h3, h4⟩ := forD_cnt (xs := ds) (n + 1) (fun i d hd env st hI => by
      have := k (i + 1) d (by simpa using hd) env st (by rw [← Nat.add_assoc, Nat.add_right_comm]; exact hI)
      rw [show n + (i + 1) + 1 = n + 1 + i + 1 by omega] at this
      exact this) h2
    refine ⟨e', s', ?_, ?_⟩
    · rw [forD, h1]
      exact h3
    · rw [List.length_cons, show n + (ds.length + 1) = n + 1 + ds.length by omega]
      exact h4
theorem unInts_map : ∀ l : List Int, unInts (l.map D.int) = some l
  | [] => rfl
  | i :: l => by simp [unInts, unInts_map l]
theorem pickA_map {α β : Type} (f : α → β) (xs : List α) (lo hi st : Option Int) : pickA (xs.map f) lo hi st = (pickA xs lo hi st).map f := by
  unfold pickA
  rw [List.length_map, List.map_filterMap]
  congr 1
  funext i
  simp
/-- a comprehension that leaves the store alone -/
theorem compD_all {f : D → Sto → Out (Option D)} {g : D → Option D} {st : Sto} : ∀ {xs : List D}, (∀ d ∈ xs, f d st = .ok (g d) st) → compD f xs st = .ok (xs.filterMap g) st
  | [], _ => rfl
  | d :: ds, h => by
    rw [compD, h d List.mem_cons_self]
    simp only
    rw [compD_all fun d hd => h d (List.mem_cons_of_mem _ hd)]
    cases e : g d <;> simp [Out.bind, List.filterMap_cons, e]
end Itp
namespace LT
open Itp PySem
structure Ix where
  is_whole : Nat := 999
  is_among : Nat := 999
  is_deed : Nat := 999
  is_kind : Nat := 999
  _are_tables : Nat := 999
  _are_rows : Nat := 999
  is_row : Nat := 999
  need_kind : Nat := 999
  need_kind_of : Nat := 999
  is_finite : Nat := 999
  many_worths : Nat := 999
  count_worths : Nat := 999
  is_fraction : Nat := 999
  shortest : Nat := 999
  sum_of : Nat := 999
  difference_of : Nat := 999
  product_of : Nat := 999
  quotient_of : Nat := 999
  fraction_deed : Nat := 999
  is_less : Nat := 999
  compared : Nat := 999
  is_great : Nat := 999
  has_worth : Nat := 999
  _is_about : Nat := 999
  need_worth : Nat := 999
  need_among_worths : Nat := 999
  is_prime : Nat := 999
  back_of : Nat := 999
  _backs : Nat := 999
  need_worths_of : Nat := 999
  need_deed_of : Nat := 999
  need_small : Nat := 999
  exact_deed : Nat := 999
  exact_done : Nat := 999
  _has_over : Nat := 999
  _as_share : Nat := 999
  _rest_deed : Nat := 999
  exact_order : Nat := 999
  exact_compared : Nat := 999
  _law_mixed : Nat := 999
  _law_begun : Nat := 999
  _law_take : Nat := 999
  _law_said : Nat := 999
  _law_number : Nat := 999
  _law_beside : Nat := 999
  _law_due : Nat := 999
  _law_right : Nat := 999
  _law_truths_right : Nat := 999
  _law_shortest : Nat := 999
  _law_share : Nat := 999
  _law_left : Nat := 999
  _law_size_right : Nat := 999
  _law_beside_right : Nat := 999
  _law_no_kind : Nat := 999
  _law_no_worth : Nat := 999
  _law_worth : Nat := 999
  _law_no_deed : Nat := 999
  root_deed : Nat := 999
  root_done : Nat := 999
  _product : Nat := 999
  _quotient : Nat := 999
  _turned : Nat := 999
  _norm : Nat := 999
  _law_squareless : Nat := 999
  _law_whole : Nat := 999
  _sign : Nat := 999
  _signed_square : Nat := 999
  root_sign : Nat := 999
  root_order : Nat := 999
  root_compared : Nat := 999
  turned_root : Nat := 999
  root_norm : Nat := 999
  _need_one : Nat := 999
  _law_deeds_right : Nat := 999
  _law_great_right : Nat := 999
  DEEDS : Nat := 999
  FINITE : Nat := 999
  FILLING : Nat := 999
  GREATEST : Nat := 999
  MOST_POWER : Nat := 999
  MOST_FRONT : Nat := 999
  NOUGHT : Nat := 999
  NUMBERED : Nat := 999
def b_is_whole (x : Ix) : List S := [.ret (.bop true [(.blt .isinst [(.var 0), (.lit (.ty .int))]), (.not (.blt .isinst [(.var 0), (.lit (.ty .bool))]))])]
def f_is_whole (x : Ix) : Fn := ⟨1, 1, false, b_is_whole x⟩
def b_is_among (x : Ix) : List S := [.ret (.bop true [(.call x.is_whole [(.var 0)]), (.chain .le .le (.var 1) (.var 0) (.var 2))])]
def f_is_among (x : Ix) : Fn := ⟨3, 3, false, b_is_among x⟩
def b_is_deed (x : Ix) : List S := [.ret (.bop true [(.blt .isinst [(.var 0), (.lit (.ty .str))]), (.cmp .isin (.var 0) (.glob x.DEEDS))])]
def f_is_deed (x : Ix) : Fn := ⟨1, 1, false, b_is_deed x⟩
def b_is_kind (x : Ix) : List S := [.ifs (.not (.blt .isinst [(.var 0), (.lit (.ty .tuple))])) [.ret (.lit (.bl false))] [], .set 1 (.blt .len [(.var 0)]), .ifs (.cmp .eq (.var 1) (.lit (.int 2))) [.setT (.tup [(.name 2), (.name 3)]) (.var 0), .ret (.bop true [(.blt .isinst [(.var 2), (.lit (.ty .str))]), (.bop false [(.tyis false (.var 3)), (.call x.is_whole [(.var 3)])]), (.kinT false (.tup [(.var 2), (.var 3)]) x.NUMBERED)])] [], .ifs (.bop false [(.cmp .eq (.var 1) (.lit (.int 0))), (.not (.blt .isinst [(.ix (.var 0) (.lit (.int 0))), (.lit (.ty .str))]))]) [.ret (.lit (.bl false))] [], .ifs (.cmp .eq (.var 1) (.lit (.int 1))) [.ret (.cmp .isin (.ix (.var 0) (.lit (.int 0))) (.tup [(.lit (.str (Str.ofString "whole"))), (.lit (.str (Str.ofString "share")))]))] [], .ret (.bop true [(.cmp .eq (.var 1) (.lit (.int 3))), (.cmp .eq (.ix (.var 0) (.lit (.int 0))) (.lit (.str (Str.ofString "own")))), (.call x._are_tables [(.ix (.var 0) (.lit (.int 1))), (.ix (.var 0) (.lit (.int 2)))])])]
def f_is_kind (x : Ix) : Fn := ⟨1, 4, false, b_is_kind x⟩
def b__are_tables (x : Ix) : List S := [.ifs (.bop false [(.not (.blt .isinst [(.var 0), (.lit (.ty .tuple))])), (.not (.blt .isinst [(.var 1), (.lit (.ty .tuple))]))]) [.ret (.lit (.bl false))] [], .set 2 (.blt .len [(.var 0)]), .ret (.bop true [(.chain .le .le (.lit (.int 2)) (.var 2) (.lit (.int 6))), (.cmp .eq (.blt .len [(.var 1)]) (.var 2)), (.call x._are_rows [(.bin .add (.var 0) (.var 1)), (.var 2)])])]
def f__are_tables (x : Ix) : Fn := ⟨2, 3, false, b__are_tables x⟩
def b__are_rows (x : Ix) : List S := [.set 2 (.ix (.glob x.FILLING) (.var 1)), .fors (.name 3) .seq [(.var 0)] [.ifs (.bop false [(.not (.blt .isinst [(.var 3), (.lit (.ty .tuple))])), (.cmp .ne (.blt .len [(.var 3)]) (.var 1))]) [.ret (.lit (.bl false))] [], .setT (.tup [(.name 4), (.name 5), (.name 6), (.name 7), (.name 8), (.name 9)]) (.bin .add (.var 3) (.var 2)), .ifs (.bop true [(.tyis false (.var 4)), (.tyis false (.var 5)), (.tyis false (.var 6)), (.tyis false (.var 7)), (.tyis false (.var 8)), (.tyis false (.var 9))]) [.ifs (.bop false [(.cmp .lt (.var 4) (.lit (.int 0))), (.cmp .ge (.var 4) (.var 1)), (.cmp .lt (.var 5) (.lit (.int 0))), (.cmp .ge (.var 5) (.var 1)), (.cmp .lt (.var 6) (.lit (.int 0))), (.cmp .ge (.var 6) (.var 1)), (.cmp .lt (.var 7) (.lit (.int 0))), (.cmp .ge (.var 7) (.var 1)), (.cmp .lt (.var 8) (.lit (.int 0))), (.cmp .ge (.var 8) (.var 1)), (.cmp .lt (.var 9) (.lit (.int 0))), (.cmp .ge (.var 9) (.var 1))]) [.ret (.lit (.bl false))] []] [.ifs (.not (.call x.is_row [(.var 3), (.var 1), (.var 1)])) [.ret (.lit (.bl false))] []]], .ret (.lit (.bl true))]
def f__are_rows (x : Ix) : Fn := ⟨2, 10, false, b__are_rows x⟩
def b_is_row (x : Ix) : List S := [.ifs (.bop false [(.not (.blt .isinst [(.var 0), (.lit (.ty .tuple))])), (.cmp .ne (.blt .len [(.var 0)]) (.var 1))]) [.ret (.lit (.bl false))] [], .fors (.name 3) .seq [(.var 0)] [.ifs (.bop false [(.bop true [(.tyis true (.var 3)), (.not (.call x.is_whole [(.var 3)]))]), (.not (.chain .le .lt (.lit (.int 0)) (.var 3) (.var 2)))]) [.ret (.lit (.bl false))] []], .ret (.lit (.bl true))]
def f_is_row (x : Ix) : Fn := ⟨3, 4, false, b_is_row x⟩
def b_need_kind (x : Ix) : List S := [.ifs (.not (.call x.is_kind [(.var 0)])) [.raise 1 (Str.ofString "this is no kind")] []]
def f_need_kind (x : Ix) : Fn := ⟨1, 1, false, b_need_kind x⟩
def b_need_kind_of (x : Ix) : List S := [.ex (.call x.need_kind [(.var 0)]), .ifs (.cmp .notin (.ix (.var 0) (.lit (.int 0))) (.var 1)) [.raise 1 (Str.ofString "a kind of another word is wanted here")] []]
def f_need_kind_of (x : Ix) : Fn := ⟨2, 2, false, b_need_kind_of x⟩
def b_is_finite (x : Ix) : List S := [.ex (.call x.need_kind [(.var 0)]), .ret (.cmp .isin (.ix (.var 0) (.lit (.int 0))) (.glob x.FINITE))]
def f_is_finite (x : Ix) : Fn := ⟨1, 1, false, b_is_finite x⟩
def b_many_worths (x : Ix) : List S := [.ifs (.not (.call x.is_finite [(.var 0)])) [.raise 5 (Str.ofString "this kind has no last worth")] [], .ret (.call x.count_worths [(.var 0)])]
def f_many_worths (x : Ix) : Fn := ⟨1, 1, false, b_many_worths x⟩
def b_count_worths (x : Ix) : List S := [.ret (.ite (.cmp .eq (.ix (.var 0) (.lit (.int 0))) (.lit (.str (Str.ofString "rest")))) (.ix (.var 0) (.lit (.int 1))) (.blt .len [(.ix (.var 0) (.lit (.int 1)))]))]
def f_count_worths (x : Ix) : Fn := ⟨1, 1, false, b_count_worths x⟩
def b_is_fraction (x : Ix) : List S := [.ifs (.bop false [(.not (.blt .isinst [(.var 0), (.lit (.ty .tuple))])), (.cmp .ne (.blt .len [(.var 0)]) (.lit (.int 2)))]) [.ret (.lit (.bl false))] [], .setT (.tup [(.name 1), (.name 2)]) (.var 0), .ret (.bop true [(.call x.is_whole [(.var 1)]), (.call x.is_whole [(.var 2)]), (.cmp .ge (.var 2) (.lit (.int 1))), (.cmp .eq (.blt .gcd [(.var 1), (.var 2)]) (.lit (.int 1)))])]
def f_is_fraction (x : Ix) : Fn := ⟨1, 3, false, b_is_fraction x⟩
def b_shortest (x : Ix) : List S := [.set 2 (.blt .gcd [(.var 0), (.var 1)]), .ifs (.cmp .lt (.var 1) (.lit (.int 0))) [.set 2 (.neg (.var 2))] [], .ifs (.cmp .eq (.var 2) (.lit (.int 1))) [.ret (.tup [(.var 0), (.var 1)])] [], .ret (.tup [(.bin .fdiv (.var 0) (.var 2)), (.bin .fdiv (.var 1) (.var 2))])]
def f_shortest (x : Ix) : Fn := ⟨2, 3, false, b_shortest x⟩
def b_sum_of (x : Ix) : List S := [.ret (.call x.shortest [(.bin .add (.bin .mul (.ix (.var 0) (.lit (.int 0))) (.ix (.var 1) (.lit (.int 1)))) (.bin .mul (.ix (.var 1) (.lit (.int 0))) (.ix (.var 0) (.lit (.int 1))))), (.bin .mul (.ix (.var 0) (.lit (.int 1))) (.ix (.var 1) (.lit (.int 1))))])]
def f_sum_of (x : Ix) : Fn := ⟨2, 2, false, b_sum_of x⟩
def b_difference_of (x : Ix) : List S := [.ret (.call x.shortest [(.bin .sub (.bin .mul (.ix (.var 0) (.lit (.int 0))) (.ix (.var 1) (.lit (.int 1)))) (.bin .mul (.ix (.var 1) (.lit (.int 0))) (.ix (.var 0) (.lit (.int 1))))), (.bin .mul (.ix (.var 0) (.lit (.int 1))) (.ix (.var 1) (.lit (.int 1))))])]
def f_difference_of (x : Ix) : Fn := ⟨2, 2, false, b_difference_of x⟩
def b_product_of (x : Ix) : List S := [.ret (.call x.shortest [(.bin .mul (.ix (.var 0) (.lit (.int 0))) (.ix (.var 1) (.lit (.int 0)))), (.bin .mul (.ix (.var 0) (.lit (.int 1))) (.ix (.var 1) (.lit (.int 1))))])]
def f_product_of (x : Ix) : Fn := ⟨2, 2, false, b_product_of x⟩
def b_quotient_of (x : Ix) : List S := [.ifs (.cmp .eq (.ix (.var 1) (.lit (.int 0))) (.lit (.int 0))) [.raise 16 (Str.ofString "over by nought")] [], .ret (.call x.shortest [(.bin .mul (.ix (.var 0) (.lit (.int 0))) (.ix (.var 1) (.lit (.int 1)))), (.bin .mul (.ix (.var 0) (.lit (.int 1))) (.ix (.var 1) (.lit (.int 0))))])]
def f_quotient_of (x : Ix) : Fn := ⟨2, 2, false, b_quotient_of x⟩
def b_fraction_deed (x : Ix) : List S := [.ifs (.cmp .eq (.var 0) (.lit (.str (Str.ofString "plus")))) [.ret (.call x.sum_of [(.var 1), (.var 2)])] [], .ifs (.cmp .eq (.var 0) (.lit (.str (Str.ofString "less")))) [.ret (.call x.difference_of [(.var 1), (.var 2)])] [], .ifs (.cmp .eq (.var 0) (.lit (.str (Str.ofString "times")))) [.ret (.call x.product_of [(.var 1), (.var 2)])] [], .ret (.call x.quotient_of [(.var 1), (.var 2)])]
def f_fraction_deed (x : Ix) : Fn := ⟨3, 3, false, b_fraction_deed x⟩
def b_is_less (x : Ix) : List S := [.ret (.cmp .lt (.bin .mul (.ix (.var 0) (.lit (.int 0))) (.ix (.var 1) (.lit (.int 1)))) (.bin .mul (.ix (.var 1) (.lit (.int 0))) (.ix (.var 0) (.lit (.int 1)))))]
def f_is_less (x : Ix) : Fn := ⟨2, 2, false, b_is_less x⟩
def b_compared (x : Ix) : List S := [.par [2, 3] [(.bin .mul (.ix (.var 0) (.lit (.int 0))) (.ix (.var 1) (.lit (.int 1)))), (.bin .mul (.ix (.var 1) (.lit (.int 0))) (.ix (.var 0) (.lit (.int 1))))], .ifs (.cmp .lt (.var 2) (.var 3)) [.ret (.neg (.lit (.int 1)))] [], .ret (.ite (.cmp .gt (.var 2) (.var 3)) (.lit (.int 1)) (.lit (.int 0)))]
def f_compared (x : Ix) : Fn := ⟨2, 4, false, b_compared x⟩
def b_is_great (x : Ix) : List S := [.ret (.bop false [(.cmp .gt (.blt .abs [(.ix (.var 0) (.lit (.int 0)))]) (.glob x.GREATEST)), (.cmp .gt (.ix (.var 0) (.lit (.int 1))) (.glob x.GREATEST))])]
def f_is_great (x : Ix) : Fn := ⟨1, 1, false, b_is_great x⟩
def b_has_worth (x : Ix) : List S := [.ifs (.cmp .isin (.ix (.var 0) (.lit (.int 0))) (.glob x.FINITE)) [.ret (.call x.is_among [(.var 1), (.lit (.int 0)), (.bin .sub (.call x.count_worths [(.var 0)]) (.lit (.int 1)))])] [], .ifs (.cmp .eq (.ix (.var 0) (.lit (.int 0))) (.lit (.str (Str.ofString "whole")))) [.ret (.call x.is_whole [(.var 1)])] [], .ifs (.cmp .eq (.ix (.var 0) (.lit (.int 0))) (.lit (.str (Str.ofString "share")))) [.ret (.call x.is_fraction [(.var 1)])] [], .ifs (.bop false [(.not (.blt .isinst [(.var 1), (.lit (.ty .tuple))])), (.cmp .ne (.blt .len [(.var 1)]) (.lit (.int 2)))]) [.ret (.lit (.bl false))] [], .ifs (.cmp .eq (.ix (.var 0) (.lit (.int 0))) (.lit (.str (Str.ofString "about")))) [.ret (.call x._is_about [(.ix (.var 0) (.lit (.int 1))), (.ix (.var 1) (.lit (.int 0))), (.ix (.var 1) (.lit (.int 1)))])] [], .ifs (.bop false [(.not (.call x.is_fraction [(.ix (.var 1) (.lit (.int 0)))])), (.not (.call x.is_fraction [(.ix (.var 1) (.lit (.int 1)))]))]) [.ret (.lit (.bl false))] [], .ret (.bop false [(.cmp .eq (.ix (.var 0) (.lit (.int 0))) (.lit (.str (Str.ofString "root")))), (.not (.call x.is_less [(.ix (.var 1) (.lit (.int 1))), (.ix (.var 1) (.lit (.int 0)))]))])]
def f_has_worth (x : Ix) : Fn := ⟨2, 2, false, b_has_worth x⟩
def b__is_about (x : Ix) : List S := [.ifs (.bop false [(.not (.call x.is_whole [(.var 1)])), (.not (.call x.is_whole [(.var 2)]))]) [.ret (.lit (.bl false))] [], .ifs (.cmp .eq (.var 1) (.lit (.int 0))) [.ret (.cmp .eq (.var 2) (.lit (.int 0)))] [], .ret (.bop true [(.cmp .ne (.bin .mod (.var 1) (.lit (.int 10))) (.lit (.int 0))), (.cmp .le (.blt .abs [(.var 1)]) (.ix (.glob x.MOST_FRONT) (.var 0))), (.cmp .le (.blt .abs [(.var 2)]) (.glob x.MOST_POWER))])]
def f__is_about (x : Ix) : Fn := ⟨3, 3, false, b__is_about x⟩
def b_need_worth (x : Ix) : List S := [.ex (.call x.need_kind [(.var 0)]), .ex (.call x.need_among_worths [(.var 0), (.var 1)])]
def f_need_worth (x : Ix) : Fn := ⟨2, 2, false, b_need_worth x⟩
def b_need_among_worths (x : Ix) : List S := [.ifs (.not (.call x.has_worth [(.var 0), (.var 1)])) [.raise 2 (Str.ofString "this is no worth of the kind")] []]
def f_need_among_worths (x : Ix) : Fn := ⟨2, 2, false, b_need_among_worths x⟩
def b_is_prime (x : Ix) : List S := [.ret (.bop true [(.call x.is_among [(.var 0), (.lit (.int 2)), (.lit (.int 99))]), (.gen true [1] (.name 1) .range [(.lit (.int 2)), (.var 0)] (.cmp .ne (.bin .mod (.var 0) (.var 1)) (.lit (.int 0))))])]
def f_is_prime (x : Ix) : Fn := ⟨1, 2, false, b_is_prime x⟩
def b_back_of (x : Ix) : List S := [.ex (.call x.need_kind_of [(.var 0), (.tup [(.lit (.str (Str.ofString "rest")))])]), .ex (.call x.need_worth [(.var 0), (.var 1)]), .set 2 (.call x._backs [(.call x.many_worths [(.var 0)]), (.var 1)]), .ifs (.not (.var 2)) [.raise 16 (Str.ofString "this rest has no back")] [], .ret (.ix (.var 2) (.lit (.int 0)))]
def f_back_of (x : Ix) : Fn := ⟨2, 3, false, b_back_of x⟩
def b__backs (x : Ix) : List S := [.ret (.comp false [2] (.name 2) .range [(.var 0)] [(.cmp .eq (.bin .mod (.bin .mul (.var 1) (.var 2)) (.var 0)) (.lit (.int 1)))] (.var 2))]
def f__backs (x : Ix) : Fn := ⟨2, 3, false, b__backs x⟩
def b_need_worths_of (x : Ix) : List S := [.ex (.call x.need_kind_of [(.var 0), (.var 1)]), .ex (.call x.need_among_worths [(.var 0), (.var 2)]), .ex (.call x.need_among_worths [(.var 0), (.var 3)])]
def f_need_worths_of (x : Ix) : Fn := ⟨4, 4, false, b_need_worths_of x⟩
def b_need_deed_of (x : Ix) : List S := [.ex (.call x.need_worths_of [(.var 0), (.var 1), (.var 3), (.var 4)]), .ifs (.not (.call x.is_deed [(.var 2)])) [.raise 12 (Str.ofString "this is no deed")] []]
def f_need_deed_of (x : Ix) : Fn := ⟨5, 5, false, b_need_deed_of x⟩
def b_need_small (x : Ix) : List S := [.fors (.name 1) .seq [(.var 0)] [.ifs (.call x.is_great [(.var 1)]) [.raise 18 (Str.ofString "what comes is too great")] []]]
def f_need_small (x : Ix) : Fn := ⟨1, 2, false, b_need_small x⟩
def b_exact_deed (x : Ix) : List S := [.ex (.call x.need_deed_of [(.var 0), (.tup [(.lit (.str (Str.ofString "whole"))), (.lit (.str (Str.ofString "share"))), (.lit (.str (Str.ofString "rest")))]), (.var 1), (.var 2), (.var 3)]), .ret (.call x.exact_done [(.var 0), (.var 1), (.var 2), (.var 3)])]
def f_exact_deed (x : Ix) : Fn := ⟨4, 4, false, b_exact_deed x⟩
def b_exact_done (x : Ix) : List S := [.ifs (.bop true [(.cmp .eq (.var 1) (.lit (.str (Str.ofString "over")))), (.not (.call x._has_over [(.var 0)]))]) [.raise 12 (Str.ofString "this kind has no over")] [], .ifs (.cmp .eq (.ix (.var 0) (.lit (.int 0))) (.lit (.str (Str.ofString "rest")))) [.ret (.call x._rest_deed [(.var 0), (.var 1), (.var 2), (.var 3)])] [], .set 4 (.call x.fraction_deed [(.var 1), (.call x._as_share [(.var 0), (.var 2)]), (.call x._as_share [(.var 0), (.var 3)])]), .ex (.call x.need_small [(.lst false [(.var 4)])]), .ret (.ite (.cmp .eq (.ix (.var 0) (.lit (.int 0))) (.lit (.str (Str.ofString "whole")))) (.ix (.var 4) (.lit (.int 0))) (.var 4))]
def f_exact_done (x : Ix) : Fn := ⟨4, 5, false, b_exact_done x⟩
def b__has_over (x : Ix) : List S := [.ret (.bop false [(.cmp .eq (.ix (.var 0) (.lit (.int 0))) (.lit (.str (Str.ofString "share")))), (.bop true [(.cmp .eq (.ix (.var 0) (.lit (.int 0))) (.lit (.str (Str.ofString "rest")))), (.call x.is_prime [(.ix (.var 0) (.lit (.int 1)))])])])]
def f__has_over (x : Ix) : Fn := ⟨1, 1, false, b__has_over x⟩
def b__as_share (x : Ix) : List S := [.ret (.ite (.cmp .eq (.ix (.var 0) (.lit (.int 0))) (.lit (.str (Str.ofString "whole")))) (.tup [(.var 1), (.lit (.int 1))]) (.var 1))]
def f__as_share (x : Ix) : Fn := ⟨2, 2, false, b__as_share x⟩
def b__rest_deed (x : Ix) : List S := [.ifs (.cmp .eq (.var 1) (.lit (.str (Str.ofString "over")))) [.ret (.bin .mod (.bin .mul (.var 2) (.call x.back_of [(.var 0), (.var 3)])) (.ix (.var 0) (.lit (.int 1))))] [], .ret (.bin .mod (.ix (.call x.fraction_deed [(.var 1), (.tup [(.var 2), (.lit (.int 1))]), (.tup [(.var 3), (.lit (.int 1))])]) (.lit (.int 0))) (.ix (.var 0) (.lit (.int 1))))]
def f__rest_deed (x : Ix) : Fn := ⟨4, 4, false, b__rest_deed x⟩
def b_exact_order (x : Ix) : List S := [.ex (.call x.need_worths_of [(.var 0), (.tup [(.lit (.str (Str.ofString "whole"))), (.lit (.str (Str.ofString "share")))]), (.var 1), (.var 2)]), .ret (.call x.exact_compared [(.var 0), (.var 1), (.var 2)])]
def f_exact_order (x : Ix) : Fn := ⟨3, 3, false, b_exact_order x⟩
def b_exact_compared (x : Ix) : List S := [.ret (.call x.compared [(.call x._as_share [(.var 0), (.var 1)]), (.call x._as_share [(.var 0), (.var 2)])])]
def f_exact_compared (x : Ix) : Fn := ⟨3, 3, false, b_exact_compared x⟩
def b__law_mixed (x : Ix) : List S := [.set 2 (.bin .mod (.bin .pow (.bin .add (.bin .add (.bin .mod (.var 0) (.lit (.int 2147483629))) (.bin .mul (.lit (.int 104729)) (.var 1))) (.lit (.int 17))) (.lit (.int 3))) (.lit (.int 2147483647))), .ret (.bin .fdiv (.bin .mod (.bin .mul (.var 2) (.bin .add (.lit (.int 48271)) (.bin .mul (.lit (.int 2)) (.var 1)))) (.lit (.int 2147483629))) (.lit (.int 7)))]
def f__law_mixed (x : Ix) : Fn := ⟨2, 3, false, b__law_mixed x⟩
def b__law_begun (x : Ix) : List S := [.set 2 (.ite (.cmp .lt (.var 1) (.blt .len [(.var 0)])) (.ix (.var 0) (.var 1)) (.lit (.int 5))), .ret (.dct true [.inr (Str.ofString "cell"), .inr (Str.ofString "seed"), .inr (Str.ofString "at")] [(.bin .mul (.var 2) (.blt .int [(.cmp .ge (.var 2) (.bin .pow (.lit (.int 10)) (.lit (.int 18))))])), (.call x._law_mixed [(.var 2), (.var 1)]), (.lit (.int 0))])]
def f__law_begun (x : Ix) : Fn := ⟨2, 3, true, b__law_begun x⟩
def b__law_take (x : Ix) : List S := [.setIx (.var 0) (.lit (.str (Str.ofString "at"))) (.bin .add (.ix (.var 0) (.lit (.str (Str.ofString "at")))) (.lit (.int 1))), .ifs (.bop true [(.cmp .gt (.ix (.var 0) (.lit (.str (Str.ofString "cell")))) (.lit (.int 0))), (.cmp .lt (.ix (.var 0) (.lit (.str (Str.ofString "at")))) (.lit (.int 61)))]) [.set 2 (.bin .mod (.ix (.var 0) (.lit (.str (Str.ofString "cell")))) (.var 1)), .setIx (.var 0) (.lit (.str (Str.ofString "cell"))) (.bin .fdiv (.ix (.var 0) (.lit (.str (Str.ofString "cell")))) (.var 1)), .ret (.var 2)] [], .ret (.bin .mod (.call x._law_mixed [(.ix (.var 0) (.lit (.str (Str.ofString "seed")))), (.ix (.var 0) (.lit (.str (Str.ofString "at"))))]) (.var 1))]
def f__law_take (x : Ix) : Fn := ⟨2, 3, false, b__law_take x⟩
def b__law_said (x : Ix) : List S := [.setT (.tup [(.name 1), (.name 2)]) (.tup [(.lit .non), (.lit .non)]), .tryx [.set 1 (.blt .repr [(.act 0)])] 0 5 2, .ifs (.cmp .is (.var 2) (.lit .non)) [.ret (.var 1)] [], .set 3 (.lst false [(.tup [(.lit (.str (Str.ofString "kind"))), (.blt .isinst [(.var 2), (.lit (.cls 1))])]), (.tup [(.lit (.str (Str.ofString "worth"))), (.blt .isinst [(.var 2), (.lit (.cls 2))])])]), .set 3 (.bin .add (.var 3) (.lst false [(.tup [(.lit (.str (Str.ofString "deed"))), (.blt .isinst [(.var 2), (.lit (.cls 12))])]), (.tup [(.lit (.str (Str.ofString "nought"))), (.blt .isinst [(.var 2), (.lit (.cls 16))])])])), .set 3 (.bin .add (.var 3) (.lst false [(.tup [(.lit (.str (Str.ofString "great"))), (.blt .isinst [(.var 2), (.lit (.cls 18))])]), (.tup [(.lit (.str (Str.ofString "bare"))), (.not (.blt .isinst [(.var 2), (.lit (.ty .valueError))]))])])), .set 4 (.blt .isinst [(.var 2), (.tup [(.lit (.cls 11)), (.lit (.cls 6)), (.lit (.cls 5)), (.lit (.cls 9)), (.lit (.cls 8)), (.lit (.cls 7)), (.lit (.cls 10)), (.lit (.cls 3)), (.lit (.cls 4))])]), .set 4 (.bop false [(.var 4), (.blt .isinst [(.var 2), (.tup [(.lit (.cls 17)), (.lit (.cls 13)), (.lit (.cls 15)), (.lit (.cls 14))])])]), .ret (.comp false [6, 7] (.tup [(.name 6), (.name 7)]) .seq [(.bin .add (.var 3) (.lst false [(.tup [(.lit (.str (Str.ofString "other"))), (.var 4)])]))] [(.var 7)] (.var 6))]
def f__law_said (x : Ix) : Fn := ⟨1, 8, false, b__law_said x⟩
def b__law_number (x : Ix) : List S := [.par [1, 2, 3] [(.call x._law_take [(.var 0), (.lit (.int 7))]), (.call x._law_take [(.var 0), (.bin .pow (.lit (.int 10)) (.lit (.int 9)))]), (.bin .sub (.lit (.int 1)) (.bin .mul (.lit (.int 2)) (.call x._law_take [(.var 0), (.lit (.int 2))])))], .set 4 (.bin .pow (.lit (.int 10)) (.lit (.int 60))), .set 5 (.lst false [(.bin .mod (.var 2) (.lit (.int 5))), (.bin .mod (.var 2) (.lit (.int 60))), (.var 2), (.bin .mul (.bin .mul (.var 2) (.var 2)) (.var 2)), (.bin .sub (.var 4) (.bin .mod (.var 2) (.lit (.int 3)))), (.bin .fdiv (.var 4) (.bin .add (.lit (.int 1)) (.var 2))), (.bin .sub (.bin .pow (.var 4) (.lit (.int 5))) (.bin .mod (.var 2) (.lit (.int 3))))]), .ret (.bin .mul (.var 3) (.ix (.var 5) (.var 1)))]
def f__law_number (x : Ix) : Fn := ⟨1, 6, false, b__law_number x⟩
def b__law_beside (x : Ix) : List S := [.par [2, 3] [(.call x._law_take [(.var 0), (.lit (.int 6))]), (.call x._law_take [(.var 0), (.lit (.int 3))])], .ifs (.cmp .lt (.var 2) (.lit (.int 3))) [.ret (.call x._law_number [(.var 0)])] [], .ret (.ix (.lst false [(.bin .add (.var 1) (.ix (.lst false [(.var 3), (.bin .sub (.lit (.int 0)) (.var 3))]) (.blt .int [(.cmp .gt (.var 1) (.lit (.int 0)))]))), (.bin .sub (.lit (.int 0)) (.var 1)), (.bin .add (.bin .fdiv (.var 1) (.lit (.int 2))) (.var 3))]) (.bin .sub (.var 2) (.lit (.int 3))))]
def f__law_beside (x : Ix) : Fn := ⟨2, 4, false, b__law_beside x⟩
def b__law_due (x : Ix) : List S := [.set 3 (.dget (.dct false [.inr (Str.ofString "plus"), .inr (Str.ofString "less"), .inr (Str.ofString "times")] [(.bin .add (.var 1) (.var 2)), (.bin .sub (.var 1) (.var 2)), (.bin .mul (.var 1) (.var 2))]) (.var 0) [(.lit .non)]), .ifs (.cmp .is (.var 3) (.lit .non)) [.ret (.lst false [(.lit (.str (Str.ofString "deed")))])] [], .ret (.ite (.cmp .le (.blt .abs [(.var 3)]) (.bin .pow (.bin .pow (.lit (.int 10)) (.lit (.int 60))) (.lit (.int 5)))) (.blt .repr [(.var 3)]) (.lst false [(.lit (.str (Str.ofString "great")))]))]
def f__law_due (x : Ix) : Fn := ⟨3, 4, false, b__law_due x⟩
def b__law_right (x : Ix) : List S := [.set 3 (.lst false [(.lit (.str (Str.ofString "plus"))), (.lit (.str (Str.ofString "less"))), (.lit (.str (Str.ofString "times"))), (.lit (.str (Str.ofString "over")))]), .set 4 (.call x._law_take [(.var 0), (.lit (.int 4))]), .fors (.name 5) .seq [(.bin .add (.bin .add (.slc (.var 3) [(.var 4)] []) (.slc (.var 3) [] [(.var 4)])) (.lst false [(.ix (.var 3) (.var 4))]))] [.ifs (.cmp .ne (.callL x._law_said (.call x.exact_deed [(.tup [(.lit (.str (Str.ofString "whole")))]), (.var 5), (.var 1), (.var 2)])) (.call x._law_due [(.var 5), (.var 1), (.var 2)])) [.ret (.lit (.bl false))] []], .set 6 (.ite (.cmp .eq (.var 1) (.var 2)) (.lit (.int 0)) (.bin .sub (.lit (.int 1)) (.bin .mul (.lit (.int 2)) (.blt .int [(.cmp .lt (.var 1) (.var 2))])))), .set 7 (.lst false [(.call x.exact_order [(.tup [(.lit (.str (Str.ofString "whole")))]), (.var 1), (.var 2)]), (.call x.exact_order [(.tup [(.lit (.str (Str.ofString "whole")))]), (.var 2), (.var 1)])]), .ret (.cmp .eq (.blt .repr [(.var 7)]) (.blt .repr [(.lst false [(.var 6), (.bin .sub (.lit (.int 0)) (.var 6))])]))]
def f__law_right (x : Ix) : Fn := ⟨3, 8, false, b__law_right x⟩
def b__law_truths_right (x : Ix) : List S := [.fors (.tup [(.name 0), (.name 1)]) .seq [(.tup [(.tup [(.lit (.int 1)), (.lit (.int 1))]), (.tup [(.lit (.int 0)), (.lit (.int 1))]), (.tup [(.lit (.int 1)), (.lit (.int 0))]), (.tup [(.lit (.int 0)), (.lit (.int 0))])])] [.set 2 (.lst false [(.tup [(.var 0), (.var 1)]), (.tup [(.cmp .eq (.var 0) (.lit (.int 1))), (.var 1)]), (.tup [(.var 0), (.cmp .eq (.var 1) (.lit (.int 1)))]), (.tup [(.var 0), (.var 1)])]), .fors (.name 3) .seq [(.tup [(.lit (.str (Str.ofString "plus"))), (.lit (.str (Str.ofString "less"))), (.lit (.str (Str.ofString "times")))])] [.set 5 (.blt .repr [(.dget (.dct false [.inr (Str.ofString "plus"), .inr (Str.ofString "less")] [(.bin .add (.var 0) (.var 1)), (.bin .sub (.var 0) (.var 1))]) (.var 3) [(.bin .mul (.var 0) (.var 1))])]), .set 4 (.comp false [6] (.name 6) .seq [(.var 2)] [] (.callL x._law_said (.call x.exact_deed [(.tup [(.lit (.str (Str.ofString "whole")))]), (.var 3), (.ix (.var 6) (.lit (.int 0))), (.ix (.var 6) (.lit (.int 1)))]))), .ifs (.cmp .ne (.var 4) (.lst false [(.var 5), (.lst false [(.lit (.str (Str.ofString "worth")))]), (.lst false [(.lit (.str (Str.ofString "worth")))]), (.var 5)])) [.ret (.lit (.bl false))] []], .set 4 (.comp false [6] (.name 6) .seq [(.var 2)] [] (.callL x._law_said (.call x.exact_order [(.tup [(.lit (.str (Str.ofString "whole")))]), (.ix (.var 6) (.lit (.int 0))), (.ix (.var 6) (.lit (.int 1)))]))), .ifs (.cmp .ne (.var 4) (.lst false [(.blt .repr [(.bin .sub (.var 0) (.var 1))]), (.lst false [(.lit (.str (Str.ofString "worth")))]), (.lst false [(.lit (.str (Str.ofString "worth")))]), (.blt .repr [(.bin .sub (.var 0) (.var 1))])])) [.ret (.lit (.bl false))] []], .ret (.lit (.bl true))]
def f__law_truths_right (x : Ix) : Fn := ⟨0, 7, false, b__law_truths_right x⟩
def b__law_shortest (x : Ix) : List S := [.par [2, 3] [(.blt .abs [(.var 0)]), (.blt .abs [(.var 1)])], .whl (.cmp .gt (.var 3) (.lit (.int 0))) [.par [2, 3] [(.var 3), (.bin .mod (.var 2) (.var 3))]], .set 4 (.ite (.cmp .gt (.var 1) (.lit (.int 0))) (.lit (.int 1)) (.neg (.lit (.int 1)))), .ret (.tup [(.bin .fdiv (.bin .mul (.var 4) (.var 0)) (.var 2)), (.bin .fdiv (.bin .mul (.var 4) (.var 1)) (.var 2))])]
def f__law_shortest (x : Ix) : Fn := ⟨2, 5, false, b__law_shortest x⟩
def b__law_share (x : Ix) : List S := [.set 1 (.call x._law_take [(.var 0), (.lit (.int 5))]), .par [2, 3] [(.call x._law_number [(.var 0)]), (.blt .abs [(.call x._law_number [(.var 0)])])], .ifs (.cmp .eq (.var 1) (.lit (.int 0))) [.ret (.call x._law_shortest [(.var 2), (.bin .add (.lit (.int 1)) (.bin .mod (.var 3) (.lit (.int 12))))])] [], .ifs (.cmp .eq (.var 1) (.lit (.int 1))) [.ret (.call x._law_shortest [(.bin .sub (.bin .mod (.var 2) (.lit (.int 40))) (.lit (.int 20))), (.bin .add (.lit (.int 1)) (.bin .mod (.var 3) (.lit (.int 12))))])] [], .set 3 (.blt .max [(.lit (.int 1)), (.var 3)]), .ret (.ix (.lst false [(.tup [(.lit (.int 0)), (.lit (.int 1))]), (.call x._law_shortest [(.bin .sub (.var 3) (.lit (.int 1))), (.var 3)]), (.call x._law_shortest [(.var 2), (.var 3)])]) (.bin .sub (.var 1) (.lit (.int 2))))]
def f__law_share (x : Ix) : Fn := ⟨1, 4, false, b__law_share x⟩
def b__law_left (x : Ix) : List S := [.set 2 (.var 0), .whl (.cmp .lt (.var 2) (.lit (.int 0))) [.set 2 (.bin .add (.var 2) (.var 1))], .whl (.cmp .ge (.var 2) (.var 1)) [.set 2 (.bin .sub (.var 2) (.var 1))], .ret (.var 2)]
def f__law_left (x : Ix) : Fn := ⟨2, 3, false, b__law_left x⟩
def b__law_size_right (x : Ix) : List S := [.fors (.name 3) .range [(.bin .mul (.var 0) (.var 0))] [.setT (.tup [(.name 4), (.name 5)]) (.tup [(.bin .mod (.bin .add (.var 3) (.var 1)) (.var 0)), (.bin .mod (.bin .add (.bin .fdiv (.var 3) (.var 0)) (.var 1)) (.var 0))]), .fors (.name 6) .seq [(.var 2)] [.ifs (.cmp .ne (.callL x._law_said (.call x.exact_deed [(.tup [(.lit (.str (Str.ofString "rest"))), (.var 0)]), (.var 6), (.var 4), (.var 5)])) (.call x._law_due [(.var 0), (.var 6), (.var 4), (.var 5)])) [.ret (.lit (.bl false))] []]], .ret (.lit (.bl true))]
def f__law_size_right (x : Ix) : Fn := ⟨3, 7, false, b__law_size_right x⟩
def b__law_beside_right (x : Ix) : List S := [.set 2 (.bin .add (.lit (.int 2)) (.bin .mod (.bin .add (.bin .sub (.var 1) (.lit (.int 1))) (.call x._law_take [(.var 0), (.lit (.int 10))])) (.lit (.int 11)))), .setT (.tup [(.name 3), (.name 4)]) (.tup [(.call x._law_take [(.var 0), (.blt .min [(.var 1), (.var 2)])]), (.call x._law_take [(.var 0), (.blt .min [(.var 1), (.var 2)])])]), .fors (.name 5) .seq [(.tup [(.lit (.str (Str.ofString "plus"))), (.lit (.str (Str.ofString "less"))), (.lit (.str (Str.ofString "times"))), (.lit (.str (Str.ofString "over")))])] [.set 8 (.dct false [.inr (Str.ofString "plus"), .inr (Str.ofString "less"), .inr (Str.ofString "times")] [(.bin .add (.var 3) (.var 4)), (.bin .sub (.var 3) (.var 4)), (.bin .mul (.var 3) (.var 4))]), .set 9 (.lst false [(.call x._law_due [(.var 1), (.var 5), (.var 3), (.var 4)]), (.ite (.cmp .isin (.var 5) (.var 8)) (.blt .repr [(.ix (.var 8) (.var 5))]) (.lst false [(.lit (.str (Str.ofString "deed")))]))]), .set 9 (.bin .add (.var 9) (.lst false [(.call x._law_due [(.var 2), (.var 5), (.var 3), (.var 4)]), (.ix (.var 9) (.lit (.int 0)))])), .set 10 (.lst false [(.tup [(.lit (.str (Str.ofString "rest"))), (.var 1)]), (.tup [(.lit (.str (Str.ofString "whole")))]), (.tup [(.lit (.str (Str.ofString "rest"))), (.var 2)]), (.tup [(.lit (.str (Str.ofString "rest"))), (.var 1)])]), .ifs (.cmp .ne (.comp false [12] (.name 12) .seq [(.var 10)] [] (.callL x._law_said (.call x.exact_deed [(.var 12), (.var 5), (.var 3), (.var 4)]))) (.var 9)) [.ret (.lit (.bl false))] []], .set 6 (.lst false [(.tup [(.lit (.int 1)), (.lit (.int 0))]), (.tup [(.lit (.bl true)), (.lit (.int 0))]), (.tup [(.lit (.int 1)), (.lit (.bl false))]), (.tup [(.lit (.int 0)), (.lit (.int 1))]), (.tup [(.lit (.bl false)), (.lit (.int 1))]), (.tup [(.lit (.int 0)), (.lit (.bl true))]), (.tup [(.lit (.int 1)), (.lit (.int 0))])]), .set 7 (.comp false [11] (.name 11) .seq [(.var 6)] [] (.callL x._law_said (.call x.exact_deed [(.tup [(.lit (.str (Str.ofString "rest"))), (.var 1)]), (.lit (.str (Str.ofString "plus"))), (.ix (.var 11) (.lit (.int 0))), (.ix (.var 11) (.lit (.int 1)))]))), .ret (.cmp .eq (.var 7) (.lst false [(.lit (.str (Str.ofString "1"))), (.lst false [(.lit (.str (Str.ofString "worth")))]), (.lst false [(.lit (.str (Str.ofString "worth")))]), (.lit (.str (Str.ofString "1"))), (.lst false [(.lit (.str (Str.ofString "worth")))]), (.lst false [(.lit (.str (Str.ofString "worth")))]), (.lit (.str (Str.ofString "1")))]))]
def f__law_beside_right (x : Ix) : Fn := ⟨2, 13, false, b__law_beside_right x⟩
def b__law_no_kind (x : Ix) : List S := [.set 1 (.tup [(.tup [(.lit (.int 0)), (.lit (.int 1))]), (.tup [(.lit (.int 1)), (.lit (.int 0))])]), .set 2 (.lst false [(.lit .non), (.lit (.int 5)), (.lit (.str (Str.ofString "whole"))), (.lit (.str (Str.ofString "share"))), (.lst false [(.lit (.str (Str.ofString "whole")))]), (.tup [(.lit (.str (Str.ofString "whole"))), (.lit (.int 1))]), (.tup [(.lit (.str (Str.ofString "Whole")))]), (.tup [(.lit (.str (Str.ofString "rest")))]), (.tup [(.lit (.str (Str.ofString "rest"))), (.lit (.int 1))]), (.tup [(.lit (.str (Str.ofString "rest"))), (.lit (.int 13))])]), .set 2 (.bin .add (.var 2) (.lst false [(.tup [(.lit (.str (Str.ofString "rest"))), (.lit (.bl true))]), (.tup [(.lit (.str (Str.ofString "rest"))), (.lit (.str (Str.ofString "5")))]), (.lst false [(.lit (.str (Str.ofString "rest"))), (.lit (.int 5))]), (.tup [(.lit (.str (Str.ofString "share"))), (.lit .non)]), (.tup []), (.dct false [] []), (.lit (.bl true)), (.tup [(.tup [(.lit (.str (Str.ofString "whole")))])])])), .set 2 (.bin .add (.var 2) (.lst false [(.tup [(.lit (.str (Str.ofString "root"))), (.lit (.int 4))]), (.tup [(.lit (.str (Str.ofString "root"))), (.lit (.int 2))]), (.tup [(.lit (.str (Str.ofString "root"))), (.lit (.int 59))]), (.tup [(.lit (.str (Str.ofString "about"))), (.lit (.int 1))]), (.tup [(.lit (.str (Str.ofString "about"))), (.lit (.int 3))]), (.tup [(.lit (.str (Str.ofString "sure"))), (.lit (.int 0))]), (.tup [(.lit (.str (Str.ofString "sure"))), (.lit (.int 6))])])), .ret (.ix (.bin .add (.var 2) (.lst false [(.tup [(.lit (.str (Str.ofString "own"))), (.var 1), (.var 1)])])) (.call x._law_take [(.var 0), (.lit (.int 26))]))]
def f__law_no_kind (x : Ix) : Fn := ⟨1, 3, false, b__law_no_kind x⟩
def b__law_no_worth (x : Ix) : List S := [.set 2 (.lst false [(.lit .non), (.lit (.bl true)), (.lit (.bl false)), (.lit (.str (Str.ofString "1"))), (.lst false [(.lit (.int 1))]), (.dct false [] []), (.lit (.str (Str.ofString ""))), (.tup []), (.tup [(.tup [(.lit (.int 1)), (.lit (.int 1))])]), (.tup [(.lit (.int 1)), (.lit (.int 1)), (.lit (.int 1))]), (.lst false [(.lit (.int 1)), (.lit (.int 1))]), (.tup [(.lit (.int 1)), (.lit (.bl true))]), (.tup [(.lit (.bl true)), (.lit (.int 1))]), (.tup [(.lit .non), (.lit (.int 1))])]), .set 2 (.bin .add (.var 2) (.lst false [(.tup [(.lit (.int 1)), (.lit (.int 0))]), (.tup [(.lit (.int 2)), (.lit (.int 4))]), (.tup [(.lit (.int 0)), (.lit (.int 2))]), (.tup [(.lit (.int 1)), (.neg (.lit (.int 1)))]), (.tup [(.bin .sub (.lit (.int 0)) (.lit (.int 3))), (.lit (.int 6))]), (.tup [(.lit (.str (Str.ofString "1"))), (.lit (.int 1))]), (.tup [(.tup [(.lit (.int 0)), (.lit (.int 1))]), (.tup [(.lit (.int 0)), (.lit (.int 1))])])])), .ifs (.cmp .eq (.ix (.var 1) (.lit (.int 0))) (.lit (.str (Str.ofString "whole")))) [.set 2 (.bin .add (.var 2) (.lst false [(.tup [(.lit (.int 0)), (.lit (.int 1))]), (.tup [(.lit (.int 1)), (.lit (.int 1))]), (.tup [(.lit (.int 5)), (.lit (.int 1))])]))] [], .ifs (.cmp .eq (.ix (.var 1) (.lit (.int 0))) (.lit (.str (Str.ofString "share")))) [.set 2 (.bin .add (.var 2) (.lst false [(.lit (.int 0)), (.lit (.int 1)), (.lit (.int 5))]))] [], .ifs (.cmp .eq (.ix (.var 1) (.lit (.int 0))) (.lit (.str (Str.ofString "rest")))) [.set 2 (.bin .add (.var 2) (.lst false [(.ix (.var 1) (.lit (.int 1))), (.neg (.lit (.int 1))), (.bin .pow (.lit (.int 10)) (.lit (.int 30)))]))] [], .ret (.ix (.var 2) (.call x._law_take [(.var 0), (.blt .len [(.var 2)])]))]
def f__law_no_worth (x : Ix) : Fn := ⟨2, 3, false, b__law_no_worth x⟩
def b__law_worth (x : Ix) : List S := [.set 2 (.bin .sub (.call x._law_take [(.var 0), (.lit (.int 2001))]) (.lit (.int 1000))), .set 3 (.call x._law_take [(.var 0), (.lit (.int 3))]), .ifs (.cmp .eq (.ix (.var 1) (.lit (.int 0))) (.lit (.str (Str.ofString "share")))) [.ret (.ix (.lst false [(.tup [(.var 2), (.lit (.int 1))]), (.tup [(.lit (.int 1)), (.bin .add (.lit (.int 1)) (.blt .abs [(.var 2)]))]), (.tup [(.bin .add (.bin .mul (.lit (.int 2)) (.var 2)) (.lit (.int 1))), (.lit (.int 2))])]) (.var 3))] [], .ret (.ite (.cmp .eq (.ix (.var 1) (.lit (.int 0))) (.lit (.str (Str.ofString "rest")))) (.bin .mod (.var 2) (.ix (.var 1) (.lit (.int 1)))) (.var 2))]
def f__law_worth (x : Ix) : Fn := ⟨2, 4, false, b__law_worth x⟩
def b__law_no_deed (x : Ix) : List S := [.set 2 (.lst false [(.lit .non), (.lit (.int 5)), (.lit (.bl true)), (.lit (.str (Str.ofString ""))), (.lit (.str (Str.ofString "Plus"))), (.lit (.str (Str.ofString "plus "))), (.lit (.str (Str.ofString "minus"))), (.lit (.str (Str.ofString "by"))), (.lst false [(.lit (.str (Str.ofString "plus")))]), (.tup [(.lit (.str (Str.ofString "plus")))]), (.dct false [] []), (.lit (.str (Str.ofString "more"))), (.lit (.int 0)), (.lit (.str (Str.ofString "plusless")))]), .ifs (.bop false [(.cmp .eq (.ix (.var 1) (.lit (.int 0))) (.lit (.str (Str.ofString "whole")))), (.bop true [(.cmp .eq (.ix (.var 1) (.lit (.int 0))) (.lit (.str (Str.ofString "rest")))), (.cmp .notin (.ix (.var 1) (.lit (.int 1))) (.tup [(.lit (.int 2)), (.lit (.int 3)), (.lit (.int 5)), (.lit (.int 7)), (.lit (.int 11))]))])]) [.set 2 (.bin .add (.var 2) (.rept [(.lit (.str (Str.ofString "over")))] (.lit (.int 6))))] [], .ret (.ix (.var 2) (.call x._law_take [(.var 0), (.blt .len [(.var 2)])]))]
def f__law_no_deed (x : Ix) : Fn := ⟨2, 3, false, b__law_no_deed x⟩
def b_root_deed (x : Ix) : List S := [.ex (.call x.need_deed_of [(.var 0), (.tup [(.lit (.str (Str.ofString "root")))]), (.var 1), (.var 2), (.var 3)]), .ret (.call x.root_done [(.var 0), (.var 1), (.var 2), (.var 3)])]
def f_root_deed (x : Ix) : Fn := ⟨4, 4, false, b_root_deed x⟩
def b_root_done (x : Ix) : List S := [.ifs (.cmp .eq (.var 1) (.lit (.str (Str.ofString "times")))) [.set 4 (.call x._product [(.ix (.var 0) (.lit (.int 1))), (.var 2), (.var 3)])] [.ifs (.cmp .eq (.var 1) (.lit (.str (Str.ofString "over")))) [.set 4 (.call x._quotient [(.ix (.var 0) (.lit (.int 1))), (.var 2), (.var 3)])] [.set 4 (.tup [(.call x.fraction_deed [(.var 1), (.ix (.var 2) (.lit (.int 0))), (.ix (.var 3) (.lit (.int 0)))]), (.call x.fraction_deed [(.var 1), (.ix (.var 2) (.lit (.int 1))), (.ix (.var 3) (.lit (.int 1)))])])]], .ex (.call x.need_small [(.var 4)]), .ret (.var 4)]
def f_root_done (x : Ix) : Fn := ⟨4, 5, false, b_root_done x⟩
def b__product (x : Ix) : List S := [.set 3 (.call x.sum_of [(.call x.product_of [(.ix (.var 1) (.lit (.int 0))), (.ix (.var 2) (.lit (.int 0)))]), (.call x.product_of [(.tup [(.var 0), (.lit (.int 1))]), (.call x.product_of [(.ix (.var 1) (.lit (.int 1))), (.ix (.var 2) (.lit (.int 1)))])])]), .ret (.tup [(.var 3), (.call x.sum_of [(.call x.product_of [(.ix (.var 1) (.lit (.int 0))), (.ix (.var 2) (.lit (.int 1)))]), (.call x.product_of [(.ix (.var 1) (.lit (.int 1))), (.ix (.var 2) (.lit (.int 0)))])])])]
def f__product (x : Ix) : Fn := ⟨3, 4, false, b__product x⟩
def b__quotient (x : Ix) : List S := [.setT (.tup [(.name 3), (.name 4)]) (.call x._product [(.var 0), (.var 1), (.call x._turned [(.var 2)])]), .set 5 (.call x._norm [(.var 0), (.var 2)]), .ret (.tup [(.call x.quotient_of [(.var 3), (.var 5)]), (.call x.quotient_of [(.var 4), (.var 5)])])]
def f__quotient (x : Ix) : Fn := ⟨3, 6, false, b__quotient x⟩
def b__turned (x : Ix) : List S := [.ret (.tup [(.ix (.var 0) (.lit (.int 0))), (.call x.difference_of [(.glob x.NOUGHT), (.ix (.var 0) (.lit (.int 1)))])])]
def f__turned (x : Ix) : Fn := ⟨1, 1, false, b__turned x⟩
def b__norm (x : Ix) : List S := [.ret (.ix (.call x._product [(.var 0), (.var 1), (.call x._turned [(.var 1)])]) (.lit (.int 0)))]
def f__norm (x : Ix) : Fn := ⟨2, 2, false, b__norm x⟩
def b__law_squareless (x : Ix) : List S := [.set 1 (.comp false [2] (.name 2) .range [(.lit (.int 2)), (.lit (.int 61))] [(.cmp .eq (.comp false [3] (.name 3) .range [(.lit (.int 2)), (.lit (.int 8))] [(.cmp .eq (.bin .mod (.var 2) (.bin .mul (.var 3) (.var 3))) (.lit (.int 0)))] (.lit (.int 1))) (.lst false []))] (.var 2)), .ret (.ix (.var 1) (.bin .mod (.var 0) (.blt .len [(.var 1)])))]
def f__law_squareless (x : Ix) : Fn := ⟨1, 4, false, b__law_squareless x⟩
def b__law_whole (x : Ix) : List S := [.setT (.tup [(.name 1), (.name 2)]) (.ix (.var 0) (.lit (.int 0))), .setT (.tup [(.name 3), (.name 4)]) (.ix (.var 0) (.lit (.int 1))), .ret (.tup [(.bin .mul (.var 1) (.var 4)), (.bin .mul (.var 3) (.var 2)), (.bin .mul (.var 2) (.var 4))])]
def f__law_whole (x : Ix) : Fn := ⟨1, 5, false, b__law_whole x⟩
def b__sign (x : Ix) : List S := [.set 2 (.call x._signed_square [(.ix (.var 1) (.lit (.int 0)))]), .set 3 (.call x.product_of [(.tup [(.var 0), (.lit (.int 1))]), (.call x._signed_square [(.ix (.var 1) (.lit (.int 1)))])]), .ret (.call x.compared [(.call x.sum_of [(.var 2), (.var 3)]), (.glob x.NOUGHT)])]
def f__sign (x : Ix) : Fn := ⟨2, 4, false, b__sign x⟩
def b__signed_square (x : Ix) : List S := [.ret (.tup [(.bin .mul (.ix (.var 0) (.lit (.int 0))) (.blt .abs [(.ix (.var 0) (.lit (.int 0)))])), (.bin .mul (.ix (.var 0) (.lit (.int 1))) (.ix (.var 0) (.lit (.int 1))))])]
def f__signed_square (x : Ix) : Fn := ⟨1, 1, false, b__signed_square x⟩
def b_root_sign (x : Ix) : List S := [.ex (.call x._need_one [(.var 0), (.var 1)]), .ret (.call x._sign [(.ix (.var 0) (.lit (.int 1))), (.var 1)])]
def f_root_sign (x : Ix) : Fn := ⟨2, 2, false, b_root_sign x⟩
def b_root_order (x : Ix) : List S := [.ex (.call x.need_worths_of [(.var 0), (.tup [(.lit (.str (Str.ofString "root")))]), (.var 1), (.var 2)]), .ret (.call x.root_compared [(.var 0), (.var 1), (.var 2)])]
def f_root_order (x : Ix) : Fn := ⟨3, 3, false, b_root_order x⟩
def b_root_compared (x : Ix) : List S := [.ret (.call x._sign [(.ix (.var 0) (.lit (.int 1))), (.tup [(.call x.difference_of [(.ix (.var 1) (.lit (.int 0))), (.ix (.var 2) (.lit (.int 0)))]), (.call x.difference_of [(.ix (.var 1) (.lit (.int 1))), (.ix (.var 2) (.lit (.int 1)))])])])]
def f_root_compared (x : Ix) : Fn := ⟨3, 3, false, b_root_compared x⟩
def b_turned_root (x : Ix) : List S := [.ex (.call x._need_one [(.var 0), (.var 1)]), .ret (.call x._turned [(.var 1)])]
def f_turned_root (x : Ix) : Fn := ⟨2, 2, false, b_turned_root x⟩
def b_root_norm (x : Ix) : List S := [.ex (.call x._need_one [(.var 0), (.var 1)]), .ret (.call x._norm [(.ix (.var 0) (.lit (.int 1))), (.var 1)])]
def f_root_norm (x : Ix) : Fn := ⟨2, 2, false, b_root_norm x⟩
def b__need_one (x : Ix) : List S := [.ex (.call x.need_kind_of [(.var 0), (.tup [(.lit (.str (Str.ofString "root")))])]), .ex (.call x.need_worth [(.var 0), (.var 1)])]
def f__need_one (x : Ix) : Fn := ⟨2, 2, false, b__need_one x⟩
def b__law_deeds_right (x : Ix) : List S := [.set 5 (.ix (.lst false [(.lit .non), (.lit (.int 5)), (.lit (.bl true)), (.lit (.str (Str.ofString ""))), (.lit (.str (Str.ofString "Over"))), (.lit (.str (Str.ofString " over"))), (.lit (.str (Str.ofString "minus"))), (.lst false [(.lit (.str (Str.ofString "times")))]), (.tup [(.lit (.str (Str.ofString "times")))]), (.dct false [] []), (.lit (.str (Str.ofString "by"))), (.lit (.int 0))]) (.call x._law_take [(.var 0), (.lit (.int 12))])), .set 6 (.ite (.ix (.var 4) (.lit (.int 3))) (.var 5) (.ix (.lst false [(.lit (.str (Str.ofString "plus"))), (.lit (.str (Str.ofString "less"))), (.lit (.str (Str.ofString "times"))), (.lit (.str (Str.ofString "over")))]) (.call x._law_take [(.var 0), (.lit (.int 4))]))), .ifs (.bop true [(.ix (.var 4) (.lit (.int 4))), (.not (.ix (.var 4) (.lit (.int 2))))]) [.set 3 (.tup [(.tup [(.lit (.int 0)), (.lit (.int 1))]), (.tup [(.lit (.int 0)), (.lit (.int 1))])])] [], .set 7 (.ite (.ix (.var 4) (.lit (.int 0))) (.lst false [(.lit (.str (Str.ofString "kind")))]) (.ite (.bop false [(.ix (.var 4) (.lit (.int 1))), (.ix (.var 4) (.lit (.int 2)))]) (.lst false [(.lit (.str (Str.ofString "worth")))]) (.ite (.ix (.var 4) (.lit (.int 3))) (.lst false [(.lit (.str (Str.ofString "deed")))]) (.lit .non)))), .ifs (.bop true [(.cmp .is (.var 7) (.lit .non)), (.cmp .eq (.var 6) (.lit (.str (Str.ofString "over")))), (.cmp .eq (.var 3) (.tup [(.tup [(.lit (.int 0)), (.lit (.int 1))]), (.tup [(.lit (.int 0)), (.lit (.int 1))])]))]) [.set 7 (.lst false [(.lit (.str (Str.ofString "nought")))])] [], .set 8 (.callL x._law_said (.call x.root_deed [(.var 1), (.var 6), (.var 2), (.var 3)])), .ret (.ite (.cmp .is (.var 7) (.lit .non)) (.not (.blt .isinst [(.var 8), (.lit (.ty .list))])) (.cmp .eq (.var 8) (.var 7)))]
def f__law_deeds_right (x : Ix) : Fn := ⟨5, 9, false, b__law_deeds_right x⟩
def b__law_great_right (x : Ix) : List S := [.setT (.tup [(.name 1), (.name 2), (.name 3)]) (.tup [(.bin .pow (.bin .pow (.lit (.int 10)) (.lit (.int 60))) (.lit (.int 5))), (.tup [(.lit (.str (Str.ofString "root"))), (.var 0)]), (.tup [(.tup [(.lit (.int 1)), (.lit (.int 1))]), (.tup [(.lit (.int 0)), (.lit (.int 1))])])]), .set 4 (.lst false [(.tup [(.lit (.str (Str.ofString "plus"))), (.tup [(.tup [(.bin .sub (.var 1) (.lit (.int 1))), (.lit (.int 1))]), (.tup [(.lit (.int 0)), (.lit (.int 1))])]), (.lit (.bl false))]), (.tup [(.lit (.str (Str.ofString "plus"))), (.tup [(.tup [(.var 1), (.lit (.int 1))]), (.tup [(.lit (.int 0)), (.lit (.int 1))])]), (.lit (.bl true))])]), .set 4 (.bin .add (.var 4) (.lst false [(.tup [(.lit (.str (Str.ofString "less"))), (.tup [(.tup [(.bin .sub (.lit (.int 0)) (.var 1)), (.lit (.int 1))]), (.tup [(.lit (.int 0)), (.lit (.int 1))])]), (.lit (.bl true))]), (.tup [(.lit (.str (Str.ofString "times"))), (.tup [(.tup [(.var 1), (.lit (.int 1))]), (.tup [(.var 1), (.lit (.int 1))])]), (.lit (.bl false))])])), .fors (.tup [(.name 5), (.name 6), (.name 7)]) .seq [(.bin .add (.var 4) (.lst false [(.tup [(.lit (.str (Str.ofString "plus"))), (.tup [(.tup [(.lit (.int 0)), (.lit (.int 1))]), (.tup [(.lit (.int 1)), (.var 1)])]), (.lit (.bl false))]), (.tup [(.lit (.str (Str.ofString "plus"))), (.tup [(.tup [(.lit (.int 1)), (.var 1)]), (.tup [(.lit (.int 0)), (.lit (.int 1))])]), (.lit (.bl true))])]))] [.set 10 (.callL x._law_said (.call x.root_deed [(.var 2), (.var 5), (.var 6), (.var 3)])), .ifs (.bop false [(.cmp .ne (.blt .isinst [(.var 10), (.lit (.ty .list))]) (.var 7)), (.bop true [(.var 7), (.cmp .ne (.var 10) (.lst false [(.lit (.str (Str.ofString "great")))]))])]) [.ret (.lit (.bl false))] []], .set 8 (.lst false [(.tup [(.lit (.str (Str.ofString "times"))), (.tup [(.tup [(.lit (.int 0)), (.lit (.int 1))]), (.tup [(.var 1), (.lit (.int 1))])]), (.tup [(.tup [(.lit (.int 0)), (.lit (.int 1))]), (.tup [(.lit (.int 1)), (.lit (.int 1))])])]), (.tup [(.lit (.str (Str.ofString "plus"))), (.tup [(.tup [(.lit (.int 0)), (.lit (.int 1))]), (.tup [(.var 1), (.lit (.int 1))])]), (.tup [(.tup [(.lit (.int 0)), (.lit (.int 1))]), (.tup [(.lit (.int 1)), (.lit (.int 1))])])])]), .set 8 (.bin .add (.var 8) (.lst false [(.tup [(.lit (.str (Str.ofString "less"))), (.tup [(.tup [(.lit (.int 0)), (.lit (.int 1))]), (.tup [(.bin .sub (.lit (.int 0)) (.var 1)), (.lit (.int 1))])]), (.tup [(.tup [(.lit (.int 5)), (.lit (.int 1))]), (.tup [(.lit (.int 1)), (.lit (.int 1))])])])])), .set 8 (.bin .add (.var 8) (.lst false [(.tup [(.lit (.str (Str.ofString "times"))), (.tup [(.tup [(.lit (.int 0)), (.lit (.int 1))]), (.tup [(.lit (.int 1)), (.var 1)])]), (.tup [(.tup [(.lit (.int 1)), (.lit (.int 2))]), (.tup [(.lit (.int 0)), (.lit (.int 1))])])]), (.tup [(.lit (.str (Str.ofString "over"))), (.tup [(.tup [(.lit (.int 1)), (.lit (.int 1))]), (.tup [(.lit (.int 1)), (.var 1)])]), (.tup [(.tup [(.lit (.int 2)), (.lit (.int 1))]), (.tup [(.lit (.int 0)), (.lit (.int 1))])])])])), .fors (.tup [(.name 5), (.name 6), (.name 9)]) .seq [(.var 8)] [.ifs (.cmp .ne (.callL x._law_said (.call x.root_deed [(.var 2), (.var 5), (.var 6), (.var 9)])) (.lst false [(.lit (.str (Str.ofString "great")))])) [.ret (.lit (.bl false))] []], .ret (.cmp .eq (.blt .repr [(.call x.root_norm [(.var 2), (.tup [(.tup [(.var 1), (.lit (.int 1))]), (.tup [(.lit (.int 1)), (.lit (.int 1))])])])]) (.blt .repr [(.tup [(.bin .sub (.bin .mul (.var 1) (.var 1)) (.var 0)), (.lit (.int 1))])]))]
def f__law_great_right (x : Ix) : Fn := ⟨1, 11, false, b__law_great_right x⟩
/-- the defs that a text has -/
structure C_is_whole (P : Prog) (x : Ix) : Prop where
  self : P.fns[x.is_whole]? = some (f_is_whole x)
structure C_is_among (P : Prog) (x : Ix) : Prop where
  self : P.fns[x.is_among]? = some (f_is_among x)
  is_whole : C_is_whole P x
structure C_is_deed (P : Prog) (x : Ix) : Prop where
  self : P.fns[x.is_deed]? = some (f_is_deed x)
  g_DEEDS : P.glob x.DEEDS = some (.tup [(.str (Str.ofString "plus")), (.str (Str.ofString "less")), (.str (Str.ofString "times")), (.str (Str.ofString "over"))])
structure C_is_row (P : Prog) (x : Ix) : Prop where
  self : P.fns[x.is_row]? = some (f_is_row x)
  is_whole : C_is_whole P x
structure C__are_rows (P : Prog) (x : Ix) : Prop where
  self : P.fns[x._are_rows]? = some (f__are_rows x)
  is_row : C_is_row P x
  g_FILLING : P.glob x.FILLING = some (.tup [(.tup []), (.tup []), (.tup [(.int 0), (.int 0), (.int 0), (.int 0)]), (.tup [(.int 0), (.int 0), (.int 0)]), (.tup [(.int 0), (.int 0)]), (.tup [(.int 0)]), (.tup [])])
structure C__are_tables (P : Prog) (x : Ix) : Prop where
  self : P.fns[x._are_tables]? = some (f__are_tables x)
  _are_rows : C__are_rows P x
structure C_is_kind (P : Prog) (x : Ix) : Prop where
  self : P.fns[x.is_kind]? = some (f_is_kind x)
  _are_tables : C__are_tables P x
  is_whole : C_is_whole P x
  k_NUMBERED : P.kd x.NUMBERED = [((Str.ofString "root"), .int 2), ((Str.ofString "root"), .int 3), ((Str.ofString "root"), .int 5), ((Str.ofString "root"), .int 6), ((Str.ofString "root"), .int 7), ((Str.ofString "root"), .int 10), ((Str.ofString "root"), .int 11), ((Str.ofString "root"), .int 13), ((Str.ofString "root"), .int 14), ((Str.ofString "root"), .int 15), ((Str.ofString "root"), .int 17), ((Str.ofString "root"), .int 19), ((Str.ofString "root"), .int 21), ((Str.ofString "root"), .int 22), ((Str.ofString "root"), .int 23), ((Str.ofString "root"), .int 26), ((Str.ofString "root"), .int 29), ((Str.ofString "root"), .int 30), ((Str.ofString "root"), .int 31), ((Str.ofString "root"), .int 33), ((Str.ofString "root"), .int 34), ((Str.ofString "root"), .int 35), ((Str.ofString "root"), .int 37), ((Str.ofString "root"), .int 38), ((Str.ofString "root"), .int 39), ((Str.ofString "root"), .int 41), ((Str.ofString "root"), .int 42), ((Str.ofString "root"), .int 43), ((Str.ofString "root"), .int 46), ((Str.ofString "root"), .int 47), ((Str.ofString "root"), .int 51), ((Str.ofString "root"), .int 53), ((Str.ofString "root"), .int 55), ((Str.ofString "root"), .int 57), ((Str.ofString "root"), .int 58), ((Str.ofString "root"), .int 59), ((Str.ofString "rest"), .int 2), ((Str.ofString "rest"), .int 3), ((Str.ofString "rest"), .int 4), ((Str.ofString "rest"), .int 5), ((Str.ofString "rest"), .int 6), ((Str.ofString "rest"), .int 7), ((Str.ofString "rest"), .int 8), ((Str.ofString "rest"), .int 9), ((Str.ofString "rest"), .int 10), ((Str.ofString "rest"), .int 11), ((Str.ofString "rest"), .int 12), ((Str.ofString "about"), .int 1), ((Str.ofString "about"), .int 2), ((Str.ofString "about"), .int 3), ((Str.ofString "sure"), .int 0), ((Str.ofString "sure"), .int 1), ((Str.ofString "sure"), .int 2), ((Str.ofString "sure"), .int 3), ((Str.ofString "sure"), .int 4), ((Str.ofString "sure"), .int 5), ((Str.ofString "sure"), .int 6)]
structure C_need_kind (P : Prog) (x : Ix) : Prop where
  self : P.fns[x.need_kind]? = some (f_need_kind x)
  is_kind : C_is_kind P x
structure C_need_kind_of (P : Prog) (x : Ix) : Prop where
  self : P.fns[x.need_kind_of]? = some (f_need_kind_of x)
  need_kind : C_need_kind P x
structure C_is_finite (P : Prog) (x : Ix) : Prop where
  self : P.fns[x.is_finite]? = some (f_is_finite x)
  need_kind : C_need_kind P x
  g_FINITE : P.glob x.FINITE = some (.tup [(.str (Str.ofString "rest")), (.str (Str.ofString "own"))])
structure C_count_worths (P : Prog) (x : Ix) : Prop where
  self : P.fns[x.count_worths]? = some (f_count_worths x)
structure C_many_worths (P : Prog) (x : Ix) : Prop where
  self : P.fns[x.many_worths]? = some (f_many_worths x)
  count_worths : C_count_worths P x
  is_finite : C_is_finite P x
structure C_is_fraction (P : Prog) (x : Ix) : Prop where
  self : P.fns[x.is_fraction]? = some (f_is_fraction x)
  is_whole : C_is_whole P x
structure C_shortest (P : Prog) (x : Ix) : Prop where
  self : P.fns[x.shortest]? = some (f_shortest x)
structure C_sum_of (P : Prog) (x : Ix) : Prop where
  self : P.fns[x.sum_of]? = some (f_sum_of x)
  shortest : C_shortest P x
structure C_difference_of (P : Prog) (x : Ix) : Prop where
  self : P.fns[x.difference_of]? = some (f_difference_of x)
  shortest : C_shortest P x
structure C_product_of (P : Prog) (x : Ix) : Prop where
  self : P.fns[x.product_of]? = some (f_product_of x)
  shortest : C_shortest P x
structure C_quotient_of (P : Prog) (x : Ix) : Prop where
  self : P.fns[x.quotient_of]? = some (f_quotient_of x)
  shortest : C_shortest P x
structure C_fraction_deed (P : Prog) (x : Ix) : Prop where
  self : P.fns[x.fraction_deed]? = some (f_fraction_deed x)
  difference_of : C_difference_of P x
  product_of : C_product_of P x
  quotient_of : C_quotient_of P x
  sum_of : C_sum_of P x
structure C_is_less (P : Prog) (x : Ix) : Prop where
  self : P.fns[x.is_less]? = some (f_is_less x)
structure C_compared (P : Prog) (x : Ix) : Prop where
  self : P.fns[x.compared]? = some (f_compared x)
structure C_is_great (P : Prog) (x : Ix) : Prop where
  self : P.fns[x.is_great]? = some (f_is_great x)
  g_GREATEST : P.glob x.GREATEST = some (.int (1 * 10 ^ 300))
structure C__is_about (P : Prog) (x : Ix) : Prop where
  self : P.fns[x._is_about]? = some (f__is_about x)
  is_whole : C_is_whole P x
  g_MOST_FRONT : P.glob x.MOST_FRONT = some (.tup [(.int 0), (.int 9), (.int 99), (.int 999)])
  g_MOST_POWER : P.glob x.MOST_POWER = some (.int 400)
structure C_has_worth (P : Prog) (x : Ix) : Prop where
  self : P.fns[x.has_worth]? = some (f_has_worth x)
  _is_about : C__is_about P x
  count_worths : C_count_worths P x
  is_among : C_is_among P x
  is_fraction : C_is_fraction P x
  is_less : C_is_less P x
  is_whole : C_is_whole P x
  g_FINITE : P.glob x.FINITE = some (.tup [(.str (Str.ofString "rest")), (.str (Str.ofString "own"))])
structure C_need_among_worths (P : Prog) (x : Ix) : Prop where
  self : P.fns[x.need_among_worths]? = some (f_need_among_worths x)
  has_worth : C_has_worth P x
structure C_need_worth (P : Prog) (x : Ix) : Prop where
  self : P.fns[x.need_worth]? = some (f_need_worth x)
  need_among_worths : C_need_among_worths P x
  need_kind : C_need_kind P x
structure C_is_prime (P : Prog) (x : Ix) : Prop where
  self : P.fns[x.is_prime]? = some (f_is_prime x)
  is_among : C_is_among P x
structure C__backs (P : Prog) (x : Ix) : Prop where
  self : P.fns[x._backs]? = some (f__backs x)
structure C_back_of (P : Prog) (x : Ix) : Prop where
  self : P.fns[x.back_of]? = some (f_back_of x)
  _backs : C__backs P x
  many_worths : C_many_worths P x
  need_kind_of : C_need_kind_of P x
  need_worth : C_need_worth P x
structure C_need_worths_of (P : Prog) (x : Ix) : Prop where
  self : P.fns[x.need_worths_of]? = some (f_need_worths_of x)
  need_among_worths : C_need_among_worths P x
  need_kind_of : C_need_kind_of P x
structure C_need_deed_of (P : Prog) (x : Ix) : Prop where
  self : P.fns[x.need_deed_of]? = some (f_need_deed_of x)
  is_deed : C_is_deed P x
  need_worths_of : C_need_worths_of P x
structure C_need_small (P : Prog) (x : Ix) : Prop where
  self : P.fns[x.need_small]? = some (f_need_small x)
  is_great : C_is_great P x
structure C__as_share (P : Prog) (x : Ix) : Prop where
  self : P.fns[x._as_share]? = some (f__as_share x)
structure C__has_over (P : Prog) (x : Ix) : Prop where
  self : P.fns[x._has_over]? = some (f__has_over x)
  is_prime : C_is_prime P x
structure C__rest_deed (P : Prog) (x : Ix) : Prop where
  self : P.fns[x._rest_deed]? = some (f__rest_deed x)
  back_of : C_back_of P x
  fraction_deed : C_fraction_deed P x
structure C_exact_done (P : Prog) (x : Ix) : Prop where
  self : P.fns[x.exact_done]? = some (f_exact_done x)
  _as_share : C__as_share P x
  _has_over : C__has_over P x
  _rest_deed : C__rest_deed P x
  fraction_deed : C_fraction_deed P x
  need_small : C_need_small P x
structure C_exact_deed (P : Prog) (x : Ix) : Prop where
  self : P.fns[x.exact_deed]? = some (f_exact_deed x)
  exact_done : C_exact_done P x
  need_deed_of : C_need_deed_of P x
structure C_exact_compared (P : Prog) (x : Ix) : Prop where
  self : P.fns[x.exact_compared]? = some (f_exact_compared x)
  _as_share : C__as_share P x
  compared : C_compared P x
structure C_exact_order (P : Prog) (x : Ix) : Prop where
  self : P.fns[x.exact_order]? = some (f_exact_order x)
  exact_compared : C_exact_compared P x
  need_worths_of : C_need_worths_of P x
structure C__law_mixed (P : Prog) (x : Ix) : Prop where
  self : P.fns[x._law_mixed]? = some (f__law_mixed x)
structure C__law_begun (P : Prog) (x : Ix) : Prop where
  self : P.fns[x._law_begun]? = some (f__law_begun x)
  _law_mixed : C__law_mixed P x
structure C__law_take (P : Prog) (x : Ix) : Prop where
  self : P.fns[x._law_take]? = some (f__law_take x)
  _law_mixed : C__law_mixed P x
structure C__law_said (P : Prog) (x : Ix) : Prop where
  self : P.fns[x._law_said]? = some (f__law_said x)
structure C__law_number (P : Prog) (x : Ix) : Prop where
  self : P.fns[x._law_number]? = some (f__law_number x)
  _law_take : C__law_take P x
structure C__law_beside (P : Prog) (x : Ix) : Prop where
  self : P.fns[x._law_beside]? = some (f__law_beside x)
  _law_number : C__law_number P x
  _law_take : C__law_take P x
structure C__law_due (P : Prog) (x : Ix) : Prop where
  self : P.fns[x._law_due]? = some (f__law_due x)
structure C__law_right (P : Prog) (x : Ix) : Prop where
  self : P.fns[x._law_right]? = some (f__law_right x)
  _law_due : C__law_due P x
  _law_said : C__law_said P x
  _law_take : C__law_take P x
  exact_deed : C_exact_deed P x
  exact_order : C_exact_order P x
structure C__law_truths_right (P : Prog) (x : Ix) : Prop where
  self : P.fns[x._law_truths_right]? = some (f__law_truths_right x)
  _law_said : C__law_said P x
  exact_deed : C_exact_deed P x
  exact_order : C_exact_order P x
structure C__law_shortest (P : Prog) (x : Ix) : Prop where
  self : P.fns[x._law_shortest]? = some (f__law_shortest x)
structure C__law_share (P : Prog) (x : Ix) : Prop where
  self : P.fns[x._law_share]? = some (f__law_share x)
  _law_number : C__law_number P x
  _law_shortest : C__law_shortest P x
  _law_take : C__law_take P x
structure C__law_left (P : Prog) (x : Ix) : Prop where
  self : P.fns[x._law_left]? = some (f__law_left x)
structure C__law_size_right (P : Prog) (x : Ix) : Prop where
  self : P.fns[x._law_size_right]? = some (f__law_size_right x)
  _law_due : C__law_due P x
  _law_said : C__law_said P x
  exact_deed : C_exact_deed P x
structure C__law_beside_right (P : Prog) (x : Ix) : Prop where
  self : P.fns[x._law_beside_right]? = some (f__law_beside_right x)
  _law_due : C__law_due P x
  _law_said : C__law_said P x
  _law_take : C__law_take P x
  exact_deed : C_exact_deed P x
structure C__law_no_kind (P : Prog) (x : Ix) : Prop where
  self : P.fns[x._law_no_kind]? = some (f__law_no_kind x)
  _law_take : C__law_take P x
structure C__law_no_worth (P : Prog) (x : Ix) : Prop where
  self : P.fns[x._law_no_worth]? = some (f__law_no_worth x)
  _law_take : C__law_take P x
structure C__law_worth (P : Prog) (x : Ix) : Prop where
  self : P.fns[x._law_worth]? = some (f__law_worth x)
  _law_take : C__law_take P x
structure C__law_no_deed (P : Prog) (x : Ix) : Prop where
  self : P.fns[x._law_no_deed]? = some (f__law_no_deed x)
  _law_take : C__law_take P x
structure C__product (P : Prog) (x : Ix) : Prop where
  self : P.fns[x._product]? = some (f__product x)
  product_of : C_product_of P x
  sum_of : C_sum_of P x
structure C__turned (P : Prog) (x : Ix) : Prop where
  self : P.fns[x._turned]? = some (f__turned x)
  difference_of : C_difference_of P x
  g_NOUGHT : P.glob x.NOUGHT = some (.tup [(.int 0), (.int 1)])
structure C__norm (P : Prog) (x : Ix) : Prop where
  self : P.fns[x._norm]? = some (f__norm x)
  _product : C__product P x
  _turned : C__turned P x
structure C__quotient (P : Prog) (x : Ix) : Prop where
  self : P.fns[x._quotient]? = some (f__quotient x)
  _norm : C__norm P x
  _product : C__product P x
  _turned : C__turned P x
  quotient_of : C_quotient_of P x
structure C_root_done (P : Prog) (x : Ix) : Prop where
  self : P.fns[x.root_done]? = some (f_root_done x)
  _product : C__product P x
  _quotient : C__quotient P x
  fraction_deed : C_fraction_deed P x
  need_small : C_need_small P x
structure C_root_deed (P : Prog) (x : Ix) : Prop where
  self : P.fns[x.root_deed]? = some (f_root_deed x)
  need_deed_of : C_need_deed_of P x
  root_done : C_root_done P x
structure C__law_squareless (P : Prog) (x : Ix) : Prop where
  self : P.fns[x._law_squareless]? = some (f__law_squareless x)
structure C__law_whole (P : Prog) (x : Ix) : Prop where
  self : P.fns[x._law_whole]? = some (f__law_whole x)
structure C__signed_square (P : Prog) (x : Ix) : Prop where
  self : P.fns[x._signed_square]? = some (f__signed_square x)
structure C__sign (P : Prog) (x : Ix) : Prop where
  self : P.fns[x._sign]? = some (f__sign x)
  _signed_square : C__signed_square P x
  compared : C_compared P x
  product_of : C_product_of P x
  sum_of : C_sum_of P x
  g_NOUGHT : P.glob x.NOUGHT = some (.tup [(.int 0), (.int 1)])
structure C__need_one (P : Prog) (x : Ix) : Prop where
  self : P.fns[x._need_one]? = some (f__need_one x)
  need_kind_of : C_need_kind_of P x
  need_worth : C_need_worth P x
structure C_root_sign (P : Prog) (x : Ix) : Prop where
  self : P.fns[x.root_sign]? = some (f_root_sign x)
  _need_one : C__need_one P x
  _sign : C__sign P x
structure C_root_compared (P : Prog) (x : Ix) : Prop where
  self : P.fns[x.root_compared]? = some (f_root_compared x)
  _sign : C__sign P x
  difference_of : C_difference_of P x
structure C_root_order (P : Prog) (x : Ix) : Prop where
  self : P.fns[x.root_order]? = some (f_root_order x)
  need_worths_of : C_need_worths_of P x
  root_compared : C_root_compared P x
structure C_turned_root (P : Prog) (x : Ix) : Prop where
  self : P.fns[x.turned_root]? = some (f_turned_root x)
  _need_one : C__need_one P x
  _turned : C__turned P x
structure C_root_norm (P : Prog) (x : Ix) : Prop where
  self : P.fns[x.root_norm]? = some (f_root_norm x)
  _need_one : C__need_one P x
  _norm : C__norm P x
structure C__law_deeds_right (P : Prog) (x : Ix) : Prop where
  self : P.fns[x._law_deeds_right]? = some (f__law_deeds_right x)
  _law_said : C__law_said P x
  _law_take : C__law_take P x
  root_deed : C_root_deed P x
structure C__law_great_right (P : Prog) (x : Ix) : Prop where
  self : P.fns[x._law_great_right]? = some (f__law_great_right x)
  _law_said : C__law_said P x
  root_deed : C_root_deed P x
  root_norm : C_root_norm P x
end LT
namespace K12
open Itp PySem LT
def x : Ix := { is_whole := 0, is_among := 1, is_deed := 2, is_kind := 3, _are_tables := 4, _are_rows := 5, is_row := 6, need_kind := 7, need_kind_of := 8, is_finite := 9, many_worths := 10, count_worths := 11, is_fraction := 12, shortest := 13, sum_of := 14, difference_of := 15, product_of := 16, quotient_of := 17, fraction_deed := 18, is_less := 19, compared := 20, is_great := 21, has_worth := 22, _is_about := 23, need_worth := 24, need_among_worths := 25, is_prime := 26, back_of := 27, _backs := 28, need_worths_of := 29, need_deed_of := 30, need_small := 31, exact_deed := 32, exact_done := 33, _has_over := 34, _as_share := 35, _rest_deed := 36, exact_order := 37, exact_compared := 38, _law_mixed := 39, _law_begun := 40, _law_take := 41, _law_said := 42, _law_right := 47, _law_no_kind := 43, _law_no_worth := 44, _law_worth := 45, _law_no_deed := 46, DEEDS := 0, FILLING := 2, FINITE := 1, GREATEST := 3, MOST_FRONT := 5, MOST_POWER := 4, NUMBERED := 0 }
theorem c_is_whole : C_is_whole P x := ⟨rfl⟩
theorem c_is_among : C_is_among P x := ⟨rfl, c_is_whole⟩
theorem c_is_deed : C_is_deed P x := ⟨rfl, rfl⟩
theorem c_is_row : C_is_row P x := ⟨rfl, c_is_whole⟩
theorem c__are_rows : C__are_rows P x := ⟨rfl, c_is_row, rfl⟩
theorem c__are_tables : C__are_tables P x := ⟨rfl, c__are_rows⟩
theorem c_is_kind : C_is_kind P x := ⟨rfl, c__are_tables, c_is_whole, rfl⟩
theorem c_need_kind : C_need_kind P x := ⟨rfl, c_is_kind⟩
theorem c_need_kind_of : C_need_kind_of P x := ⟨rfl, c_need_kind⟩
theorem c_is_finite : C_is_finite P x := ⟨rfl, c_need_kind, rfl⟩
theorem c_count_worths : C_count_worths P x := ⟨rfl⟩
theorem c_many_worths : C_many_worths P x := ⟨rfl, c_count_worths, c_is_finite⟩
theorem c_is_fraction : C_is_fraction P x := ⟨rfl, c_is_whole⟩
theorem c_shortest : C_shortest P x := ⟨rfl⟩
theorem c_sum_of : C_sum_of P x := ⟨rfl, c_shortest⟩
theorem c_difference_of : C_difference_of P x := ⟨rfl, c_shortest⟩
theorem c_product_of : C_product_of P x := ⟨rfl, c_shortest⟩
theorem c_quotient_of : C_quotient_of P x := ⟨rfl, c_shortest⟩
theorem c_fraction_deed : C_fraction_deed P x := ⟨rfl, c_difference_of, c_product_of, c_quotient_of, c_sum_of⟩
theorem c_is_less : C_is_less P x := ⟨rfl⟩
theorem c_compared : C_compared P x := ⟨rfl⟩
theorem c_is_great : C_is_great P x := ⟨rfl, rfl⟩
theorem c__is_about : C__is_about P x := ⟨rfl, c_is_whole, rfl, rfl⟩
theorem c_has_worth : C_has_worth P x := ⟨rfl, c__is_about, c_count_worths, c_is_among, c_is_fraction, c_is_less, c_is_whole, rfl⟩
theorem c_need_among_worths : C_need_among_worths P x := ⟨rfl, c_has_worth⟩
theorem c_need_worth : C_need_worth P x := ⟨rfl, c_need_among_worths, c_need_kind⟩
theorem c_is_prime : C_is_prime P x := ⟨rfl, c_is_among⟩
theorem c__backs : C__backs P x := ⟨rfl⟩
theorem c_back_of : C_back_of P x := ⟨rfl, c__backs, c_many_worths, c_need_kind_of, c_need_worth⟩
theorem c_need_worths_of : C_need_worths_of P x := ⟨rfl, c_need_among_worths, c_need_kind_of⟩
theorem c_need_deed_of : C_need_deed_of P x := ⟨rfl, c_is_deed, c_need_worths_of⟩
theorem c_need_small : C_need_small P x := ⟨rfl, c_is_great⟩
theorem c__as_share : C__as_share P x := ⟨rfl⟩
theorem c__has_over : C__has_over P x := ⟨rfl, c_is_prime⟩
theorem c__rest_deed : C__rest_deed P x := ⟨rfl, c_back_of, c_fraction_deed⟩
theorem c_exact_done : C_exact_done P x := ⟨rfl, c__as_share, c__has_over, c__rest_deed, c_fraction_deed, c_need_small⟩
theorem c_exact_deed : C_exact_deed P x := ⟨rfl, c_exact_done, c_need_deed_of⟩
theorem c_exact_compared : C_exact_compared P x := ⟨rfl, c__as_share, c_compared⟩
theorem c_exact_order : C_exact_order P x := ⟨rfl, c_exact_compared, c_need_worths_of⟩
theorem c__law_mixed : C__law_mixed P x := ⟨rfl⟩
theorem c__law_begun : C__law_begun P x := ⟨rfl, c__law_mixed⟩
theorem c__law_take : C__law_take P x := ⟨rfl, c__law_mixed⟩
theorem c__law_said : C__law_said P x := ⟨rfl⟩
theorem c__law_no_kind : C__law_no_kind P x := ⟨rfl, c__law_take⟩
theorem c__law_no_worth : C__law_no_worth P x := ⟨rfl, c__law_take⟩
theorem c__law_worth : C__law_worth P x := ⟨rfl, c__law_take⟩
theorem c__law_no_deed : C__law_no_deed P x := ⟨rfl, c__law_take⟩
end K12
namespace FA
open Itp PySem LT
theorem callF_fn {P : Prog} {k i : Nat} {fn : Fn} {ds : List D} {st : Sto} (h : P.fns[i]? = some fn) (hl : ds.length = fn.np) : callF P (k + 1) i ds st = endF fn.keep st.length (evSs (cfg P (callF P k) st.length) fn.body (startD fn.n ds) st) := by
  rw [callF, h]
  simp only
  rw [if_pos hl]
section
variable {P : Prog} {x : Ix}
theorem mixed (c : C__law_mixed P x) (n : Nat) (i k : Int) (st : Sto) (h0 : 0 ≤ k) (h1 : k < 2 ^ 20) : ∃ r : Int, 0 ≤ r ∧ callF P (n + 1) x._law_mixed [.int i, .int k] st = .ok (.int r) st := by
  have m0 : 0 ≤ i.fmod 2147483629 := fmod_nn _ (by omega)
  have m1 : i.fmod 2147483629 < 2147483629 := fmod_lt _ (by omega)
  have e1 : mulOk 104729 k = true := mulOk_l (by omega) (by omega)
  have e2 : mulOk 2 k = true := mulOk_l (by omega) (by omega)
  have e4 : powOk (i.fmod 2147483629 + 104729 * k + 17) 3 = true := by
    simp only [powOk, Bool.and_eq_true, decide_eq_true_eq]
    exact ⟨⟨by omega, by omega⟩, by omega⟩
  have e6 : ∀ y : Int, mulOk y (48271 + 2 * k) = true := fun y => mulOk_r (by omega) (by omega)
  have d7 : divOk 7 = true := by decide
  rw [callF_fn c.self rfl]
  have e : ∃ r : Int, 0 ≤ r ∧ evSs (cfg P (callF P n) st.length) (f__law_mixed x).body (startD (f__law_mixed x).n [.int i, .int k]) st = .rt (.int r) st := by
    refine ⟨_, ?_, by simp [lim0, lim1, lim2, lim3, lim4, lim5, lim6, lim7, lim8, lim9, lim10, lim11, evSs, evS, ev, evs, evb, evo, evc, startD, Out.bind, Out.thenS, Out.of, OutS.of, put, puts, view, binop, cfg, tru, allv, bltop, cmpop, idx, L2.atI, L2.ixN, f__law_mixed, b__law_mixed, e1, e2, e4, e6, d7]; rfl⟩
    have := fmod_nn ((((i.fmod 2147483629 + 104729 * k + 17) ^ 3).fmod 2147483647) * (48271 + 2 * k)) (m := 2147483629) (by omega)
    rw [Int.fdiv_eq_ediv_of_nonneg _ (by omega)]
    exact Int.ediv_nonneg this (by omega)
  obtain ⟨r, r0, e⟩ := e
  exact ⟨r, r0, by rw [e]; exact endF_rt⟩
/-- a state: its cell, its seed, how often it was asked -/
def dr (a s : Int) (t : Nat) : O := .dct [.inr (Str.ofString "cell"), .inr (Str.ofString "seed"), .inr (Str.ofString "at")] [.int a, .int s, .int t]
theorem nCS : ¬ (Str.ofString "cell" = Str.ofString "seed") := by decide +kernel
theorem nCA : ¬ (Str.ofString "cell" = Str.ofString "at") := by decide +kernel
theorem nSC : ¬ (Str.ofString "seed" = Str.ofString "cell") := by decide +kernel
theorem nSA : ¬ (Str.ofString "seed" = Str.ofString "at") := by decide +kernel
theorem nAC : ¬ (Str.ofString "at" = Str.ofString "cell") := by decide +kernel
theorem nAS : ¬ (Str.ofString "at" = Str.ofString "seed") := by decide +kernel
theorem dctS : dctOk [Sum.inr (Str.ofString "cell"), Sum.inr (Str.ofString "seed"), Sum.inr (Str.ofString "at")] 3 = true := by decide +kernel
theorem begun (c : C__law_begun P x) (n : Nat) (ns : List Int) (k : Nat) (st : Sto) (h1 : k < 2 ^ 20) : ∃ a s, callF P (n + 2) x._law_begun [.lst (ns.map D.int), .int k] st = .ok (.obj st.length) (st ++ [dr a s 0]) := by
  rw [callF_fn c.self rfl]
  have p18 : powOk 10 18 = true := by decide
  have go : ∀ cell : Int, ∃ a s, callF P (n + 1) x._law_mixed [.int cell, .int k] st = .ok (.int s) st ∧ mulOk cell (if (1000000000000000000 : Int) ≤ cell then 1 else 0) = true ∧ a = cell * (if (1000000000000000000 : Int) ≤ cell then 1 else 0) := fun cell => by
    obtain ⟨r, _, hr⟩ := mixed c._law_mixed n cell k st (by omega) (by omega)
    exact ⟨_, r, hr, mulOk_r (by split <;> omega) (by split <;> omega), rfl⟩
  by_cases hk : k < ns.length
  · obtain ⟨a, s, e1, e2, e3⟩ := go ns[k]
    refine ⟨a, s, ?_⟩
    have hi : (ns.map D.int)[k]? = some (.int ns[k]) := by rw [List.getElem?_map, List.getElem?_eq_getElem hk]; rfl
    have hk' : (k : Int) < (ns.length : Int) := by omega
    have e : evSs (cfg P (callF P (n + 1)) st.length) (f__law_begun x).body (startD (f__law_begun x).n [.lst (ns.map D.int), .int k]) st = .rt (.obj st.length) (st ++ [dr a s 0]) := by
      by_cases hc : (1000000000000000000 : Int) ≤ ns[k]
      · rw [if_pos hc] at e2 e3
        simp [lim0, lim1, lim2, lim3, lim4, lim5, lim6, lim7, lim8, lim9, lim10, lim11, evSs, evS, ev, evs, evb, evo, evc, startD, Out.bind, Out.thenS, Out.of, OutS.of, put, puts, view, binop, cfg, tru, allv, bltop, cmpop, idx, L2.atI, L2.ixN, f__law_begun, b__law_begun, bLen, bInt, hk, hi, hc, p18, e1, e2, dctS, dr, e3]
      · rw [if_neg hc] at e2 e3
        simp [lim0, lim1, lim2, lim3, lim4, lim5, lim6, lim7, lim8, lim9, lim10, lim11, evSs, evS, ev, evs, evb, evo, evc, startD, Out.bind, Out.thenS, Out.of, OutS.of, put, puts, view, binop, cfg, tru, allv, bltop, cmpop, idx, L2.atI, L2.ixN, f__law_begun, b__law_begun, bLen, bInt, hk, hi, hc, p18, e1, e2, dctS, dr, e3]
    rw [e]
    exact endF_keep
  · obtain ⟨a, s, e1, e2, e3⟩ := go 5
    refine ⟨a, s, ?_⟩
    have hc : ¬ (1000000000000000000 : Int) ≤ 5 := by decide
    rw [if_neg hc] at e2 e3
    have e : evSs (cfg P (callF P (n + 1)) st.length) (f__law_begun x).body (startD (f__law_begun x).n [.lst (ns.map D.int), .int k]) st = .rt (.obj st.length) (st ++ [dr a s 0]) := by
      simp [lim0, lim1, lim2, lim3, lim4, lim5, lim6, lim7, lim8, lim9, lim10, lim11, evSs, evS, ev, evs, evb, evo, evc, startD, Out.bind, Out.thenS, Out.of, OutS.of, put, puts, view, binop, cfg, tru, allv, bltop, cmpop, idx, L2.atI, L2.ixN, f__law_begun, b__law_begun, bLen, bInt, hk, p18, e1, e2, dctS, dr, e3]
    rw [e]
    exact endF_keep
def TK (st : Sto) (c t : Nat) : Prop := ∃ a s, st[c]? = some (dr a s t)
/-- only the state at c has changed -/
structure Up (c t : Nat) (st st' : Sto) : Prop where
  tk : TK st' c t
  len : st'.length = st.length
  ot : ∀ c', c' ≠ c → st'[c']? = st[c']?
theorem Up.trans {c t t' : Nat} {st st' st'' : Sto} (h : Up c t st st') (h' : Up c t' st' st'') : Up c t' st st'' := ⟨h'.tk, h'.len.trans h.len, fun c' q => (h'.ot c' q).trans (h.ot c' q)⟩
theorem take (c : C__law_take P x) (n ce t : Nat) (m : Int) (st : Sto) (h : TK st ce t) (ht : t < 1000000) (hm : 0 < m) (h2 : m < 2 ^ 200) : ∃ v st', callF P (n + 2) x._law_take [.obj ce, .int m] st = .ok (.int v) st' ∧ 0 ≤ v ∧ v < m ∧ Up ce (t + 1) st st' := by
  rw [callF_fn c.self rfl]
  obtain ⟨a, s, hc⟩ := h
  have hlt := (List.getElem?_eq_some_iff.mp hc).1
  have hset : ∀ o, (st.set ce o)[ce]? = some o := fun o => List.getElem?_set_self hlt
  have hm0 : m ≠ 0 := by omega
  have dm : divOk m = true := divOk_of (k := 200) hm0 (by omega) (by omega)
  have key1 : keyOf (.str (Str.ofString "cell")) = some (.inr (Str.ofString "cell")) := rfl
  have key2 : keyOf (.str (Str.ofString "seed")) = some (.inr (Str.ofString "seed")) := rfl
  have key3 : keyOf (.str (Str.ofString "at")) = some (.inr (Str.ofString "at")) := rfl
  have cp : ∀ i, canPut st.length ce (.int i) = true := fun i => by simp [canPut, low]
  have ls : (3 : Nat) < sizeLine := by rw [sizeLine_eq]; decide
  have up : ∀ a s (o : O), Up ce (t + 1) st ((st.set ce o).set ce (dr a s (t + 1))) := fun a s o => ⟨⟨a, s, List.getElem?_set_self (by simpa using hlt)⟩, by simp, fun c' q => by rw [List.getElem?_set_ne (Ne.symm q), List.getElem?_set_ne (Ne.symm q)]⟩
  have up1 : ∀ a s, Up ce (t + 1) st (st.set ce (dr a s (t + 1))) := fun a s => ⟨⟨a, s, hset _⟩, by simp, fun c' q => by rw [List.getElem?_set_ne (Ne.symm q)]⟩
  clear hlt
  unfold dr at hc
  have ne1 := nCS
  have ne2 := nCA
  have ne3 := nSC
  have ne4 := nSA
  have ne5 := nAC
  have ne6 := nAS
  have cast : ((t : Int) + 1) = ((t + 1 : Nat) : Int) := by omega
  by_cases ha : 0 < a ∧ (t : Int) + 1 < 61
  · refine ⟨a.fmod m, (st.set ce (dr a s (t + 1))).set ce (dr (a.fdiv m) s (t + 1)), ?_, fmod_nn _ hm, fmod_lt _ hm, up _ _ _⟩
    have e : evSs (cfg P (callF P (n + 1)) st.length) (f__law_take x).body (startD (f__law_take x).n [.obj ce, .int m]) st = .rt (.int (a.fmod m)) ((st.set ce (dr a s (t + 1))).set ce (dr (a.fdiv m) s (t + 1))) := by
      simp [lim0, lim1, lim2, lim3, lim4, lim5, lim6, lim7, lim8, lim9, lim10, lim11, evSs, evS, ev, evs, evb, evo, evc, startD, Out.bind, Out.thenS, Out.of, OutS.of, put, puts, view, binop, cfg, tru, allv, bltop, cmpop, idx, L2.atI, L2.ixN, f__law_take, b__law_take, valAt, setop, setKs, setVs, setDs, hasKey, hc, key1, key2, key3, ha.1, ha.2, hm0, dm, cp, ls, dr, hset, ne1, ne2, ne3, ne4, ne5, ne6]
    rw [e]
    exact endF_same (by simp)
  · obtain ⟨r, r0, hr⟩ := mixed c._law_mixed n s (t + 1) (st.set ce (dr a s (t + 1))) (by omega) (by omega)
    refine ⟨r.fmod m, st.set ce (dr a s (t + 1)), ?_, fmod_nn _ hm, fmod_lt _ hm, up1 _ _⟩
    have e : evSs (cfg P (callF P (n + 1)) st.length) (f__law_take x).body (startD (f__law_take x).n [.obj ce, .int m]) st = .rt (.int (r.fmod m)) (st.set ce (dr a s (t + 1))) := by
      unfold dr at hr ⊢
      rw [← cast] at hr ⊢
      by_cases h1 : 0 < a
      · have h2 : ¬ ((t : Int) + 1 < 61) := fun z => ha ⟨h1, z⟩
        simp [lim0, lim1, lim2, lim3, lim4, lim5, lim6, lim7, lim8, lim9, lim10, lim11, evSs, evS, ev, evs, evb, evo, evc, startD, Out.bind, Out.thenS, Out.of, OutS.of, put, puts, view, binop, cfg, tru, allv, bltop, cmpop, idx, L2.atI, L2.ixN, f__law_take, b__law_take, valAt, setop, setKs, setVs, setDs, hasKey, hc, key1, key2, key3, h1, h2, hm0, cp, ls, hset, ne1, ne2, ne3, ne4, ne5, ne6, hr]
      · simp [lim0, lim1, lim2, lim3, lim4, lim5, lim6, lim7, lim8, lim9, lim10, lim11, evSs, evS, ev, evs, evb, evo, evc, startD, Out.bind, Out.thenS, Out.of, OutS.of, put, puts, view, binop, cfg, tru, allv, bltop, cmpop, idx, L2.atI, L2.ixN, f__law_take, b__law_take, valAt, setop, setKs, setVs, setDs, hasKey, hc, key1, key2, key3, h1, hm0, cp, ls, hset, ne1, ne2, ne3, ne4, ne5, ne6, hr]
    rw [e]
    exact endF_same (by simp)
end
end FA
namespace FA
open Itp PySem LT
section
variable {P : Prog} {x : Ix}
theorem cA_fn {call : Nat → List D → Sto → Out D} {i : Nat} {fn : Fn} {act : Sto → Out D} {st : Sto} (h : P.fns[i]? = some fn) (hn : fn.np = 1) : callA P call i act st = (endF fn.keep st.length (evSs (cfgA P call act st.length) fn.body (startD fn.n [.obj st.length]) (st ++ [.dead]))).calm := by
  unfold callA
  rw [h]
  simp only
  rw [if_pos hn]
theorem endA {st : Sto} {d : D} (h : nob d = true) : (endF false st.length (.rt d (st ++ [.dead]))).calm = .ok d st := by
  show (fin false st.length d (st ++ [.dead])).calm = _
  rw [fin_dead rfl h]
  rfl
/-- the words of a refusal -/
def SubOk (P : Prog) (n : Nat) : Prop := ∀ m, m < 19 → P.sub n m = some (m == n || m == 0)
def wd (s : String) (b : Bool) : D := .tup [.str (Str.ofString s), .bl b]
/-- the def that gets the lambda, where the lambda tells something -/
theorem said_ok (c : C__law_said P x) (k : Nat) (st : Sto) (act : Sto → Out D) (d : D) (p : PyData) (h : act (st ++ [.dead]) = .ok d (st ++ [.dead])) (hv : isO d = false) (hr : bRepr [d] = some (.rep p)) : callA P (callF P k) x._law_said act st = .ok (.rep p) st := by
  rw [cA_fn c.self rfl]
  have e : evSs (cfgA P (callF P k) act st.length) (f__law_said x).body (startD (f__law_said x).n [.obj st.length]) (st ++ [.dead]) = .rt (.rep p) (st ++ [.dead]) := by
    cases d <;> first | (simp [isO] at hv; done) | simp [lim0, lim1, lim2, lim3, lim4, lim5, lim6, lim7, lim8, lim9, lim10, lim11, evSs, evS, ev, evs, evb, evo, evc, startD, Out.bind, Out.thenS, Out.of, OutS.of, put, puts, view, binop, cfg, tru, allv, bltop, cmpop, idx, L2.atI, L2.ixN, f__law_said, b__law_said, cfgA, bnd, bnd.bnds, h, hr, isNon]
  rw [e]
  exact endA rfl
def wordOf : Nat → Option String
  | 1 => some "kind" | 2 => some "worth" | 12 => some "deed" | 16 => some "nought" | 18 => some "great" | _ => none
/-- .. where it is refused -/
def listedD (k w d n g : Bool) : D := .lst [wd "kind" k, wd "worth" w, wd "deed" d, wd "nought" n, wd "great" g, wd "bare" false]
theorem said_1 (c : C__law_said P x) (k : Nat) (st : Sto) (act : Sto → Out D) (h : act (st ++ [.dead]) = .exc 1 (st ++ [.dead])) (S : SubOk P 1) : callA P (callF P k) x._law_said act st = .ok (.lst [.str (Str.ofString "kind")]) st := by
  rw [cA_fn c.self rfl]
  have e1 : evSs (cfgA P (callF P k) act st.length) ((b__law_said x).take 8) (startD 8 [.obj st.length]) (st ++ [.dead]) = .nx [some (.obj st.length), some .non, some (.exc 1), some (listedD true false false false false), some (.bl false), none, none, none] (st ++ [.dead]) := by
    simp [lim0, lim1, lim2, lim3, lim4, lim5, lim6, lim7, lim8, lim9, lim10, lim11, evSs, evS, ev, evs, evb, evo, evc, startD, Out.bind, Out.thenS, Out.of, OutS.of, put, puts, view, binop, cfg, tru, allv, bltop, cmpop, idx, L2.atI, L2.ixN, b__law_said, cfgA, bnd, bnd.bnds, h, isNon, bIsi, isAny, isI, listedD, wd, S _ (show 0 < 19 by decide), S _ (show 1 < 19 by decide), S _ (show 2 < 19 by decide), S _ (show 3 < 19 by decide), S _ (show 4 < 19 by decide), S _ (show 5 < 19 by decide), S _ (show 6 < 19 by decide), S _ (show 7 < 19 by decide), S _ (show 8 < 19 by decide), S _ (show 9 < 19 by decide), S _ (show 10 < 19 by decide), S _ (show 11 < 19 by decide), S _ (show 12 < 19 by decide), S _ (show 13 < 19 by decide), S _ (show 14 < 19 by decide), S _ (show 15 < 19 by decide), S _ (show 16 < 19 by decide), S _ (show 17 < 19 by decide), S _ (show 18 < 19 by decide)]
  have e2 : ∀ t, evSs (cfgA P (callF P k) act st.length) ((b__law_said x).drop 8) [some (.obj st.length), some .non, some (.exc 1), some (listedD true false false false false), some (.bl false), none, none, none] t = .rt (.lst [.str (Str.ofString "kind")]) t := fun t => by kernel_rfl
  have e := evSs_app (ss := (b__law_said x).drop 8) e1
  rw [List.take_append_drop, e2] at e
  have e : evSs (cfgA P (callF P k) act st.length) (f__law_said x).body (startD (f__law_said x).n [.obj st.length]) (st ++ [.dead]) = .rt (.lst [.str (Str.ofString "kind")]) (st ++ [.dead]) := e
  rw [e]
  exact endA rfl
theorem said_2 (c : C__law_said P x) (k : Nat) (st : Sto) (act : Sto → Out D) (h : act (st ++ [.dead]) = .exc 2 (st ++ [.dead])) (S : SubOk P 2) : callA P (callF P k) x._law_said act st = .ok (.lst [.str (Str.ofString "worth")]) st := by
  rw [cA_fn c.self rfl]
  have e1 : evSs (cfgA P (callF P k) act st.length) ((b__law_said x).take 8) (startD 8 [.obj st.length]) (st ++ [.dead]) = .nx [some (.obj st.length), some .non, some (.exc 2), some (listedD false true false false false), some (.bl false), none, none, none] (st ++ [.dead]) := by
    simp [lim0, lim1, lim2, lim3, lim4, lim5, lim6, lim7, lim8, lim9, lim10, lim11, evSs, evS, ev, evs, evb, evo, evc, startD, Out.bind, Out.thenS, Out.of, OutS.of, put, puts, view, binop, cfg, tru, allv, bltop, cmpop, idx, L2.atI, L2.ixN, b__law_said, cfgA, bnd, bnd.bnds, h, isNon, bIsi, isAny, isI, listedD, wd, S _ (show 0 < 19 by decide), S _ (show 1 < 19 by decide), S _ (show 2 < 19 by decide), S _ (show 3 < 19 by decide), S _ (show 4 < 19 by decide), S _ (show 5 < 19 by decide), S _ (show 6 < 19 by decide), S _ (show 7 < 19 by decide), S _ (show 8 < 19 by decide), S _ (show 9 < 19 by decide), S _ (show 10 < 19 by decide), S _ (show 11 < 19 by decide), S _ (show 12 < 19 by decide), S _ (show 13 < 19 by decide), S _ (show 14 < 19 by decide), S _ (show 15 < 19 by decide), S _ (show 16 < 19 by decide), S _ (show 17 < 19 by decide), S _ (show 18 < 19 by decide)]
  have e2 : ∀ t, evSs (cfgA P (callF P k) act st.length) ((b__law_said x).drop 8) [some (.obj st.length), some .non, some (.exc 2), some (listedD false true false false false), some (.bl false), none, none, none] t = .rt (.lst [.str (Str.ofString "worth")]) t := fun t => by kernel_rfl
  have e := evSs_app (ss := (b__law_said x).drop 8) e1
  rw [List.take_append_drop, e2] at e
  have e : evSs (cfgA P (callF P k) act st.length) (f__law_said x).body (startD (f__law_said x).n [.obj st.length]) (st ++ [.dead]) = .rt (.lst [.str (Str.ofString "worth")]) (st ++ [.dead]) := e
  rw [e]
  exact endA rfl
theorem said_12 (c : C__law_said P x) (k : Nat) (st : Sto) (act : Sto → Out D) (h : act (st ++ [.dead]) = .exc 12 (st ++ [.dead])) (S : SubOk P 12) : callA P (callF P k) x._law_said act st = .ok (.lst [.str (Str.ofString "deed")]) st := by
  rw [cA_fn c.self rfl]
  have e1 : evSs (cfgA P (callF P k) act st.length) ((b__law_said x).take 8) (startD 8 [.obj st.length]) (st ++ [.dead]) = .nx [some (.obj st.length), some .non, some (.exc 12), some (listedD false false true false false), some (.bl false), none, none, none] (st ++ [.dead]) := by
    simp [lim0, lim1, lim2, lim3, lim4, lim5, lim6, lim7, lim8, lim9, lim10, lim11, evSs, evS, ev, evs, evb, evo, evc, startD, Out.bind, Out.thenS, Out.of, OutS.of, put, puts, view, binop, cfg, tru, allv, bltop, cmpop, idx, L2.atI, L2.ixN, b__law_said, cfgA, bnd, bnd.bnds, h, isNon, bIsi, isAny, isI, listedD, wd, S _ (show 0 < 19 by decide), S _ (show 1 < 19 by decide), S _ (show 2 < 19 by decide), S _ (show 3 < 19 by decide), S _ (show 4 < 19 by decide), S _ (show 5 < 19 by decide), S _ (show 6 < 19 by decide), S _ (show 7 < 19 by decide), S _ (show 8 < 19 by decide), S _ (show 9 < 19 by decide), S _ (show 10 < 19 by decide), S _ (show 11 < 19 by decide), S _ (show 12 < 19 by decide), S _ (show 13 < 19 by decide), S _ (show 14 < 19 by decide), S _ (show 15 < 19 by decide), S _ (show 16 < 19 by decide), S _ (show 17 < 19 by decide), S _ (show 18 < 19 by decide)]
  have e2 : ∀ t, evSs (cfgA P (callF P k) act st.length) ((b__law_said x).drop 8) [some (.obj st.length), some .non, some (.exc 12), some (listedD false false true false false), some (.bl false), none, none, none] t = .rt (.lst [.str (Str.ofString "deed")]) t := fun t => by kernel_rfl
  have e := evSs_app (ss := (b__law_said x).drop 8) e1
  rw [List.take_append_drop, e2] at e
  have e : evSs (cfgA P (callF P k) act st.length) (f__law_said x).body (startD (f__law_said x).n [.obj st.length]) (st ++ [.dead]) = .rt (.lst [.str (Str.ofString "deed")]) (st ++ [.dead]) := e
  rw [e]
  exact endA rfl
theorem said_16 (c : C__law_said P x) (k : Nat) (st : Sto) (act : Sto → Out D) (h : act (st ++ [.dead]) = .exc 16 (st ++ [.dead])) (S : SubOk P 16) : callA P (callF P k) x._law_said act st = .ok (.lst [.str (Str.ofString "nought")]) st := by
  rw [cA_fn c.self rfl]
  have e1 : evSs (cfgA P (callF P k) act st.length) ((b__law_said x).take 8) (startD 8 [.obj st.length]) (st ++ [.dead]) = .nx [some (.obj st.length), some .non, some (.exc 16), some (listedD false false false true false), some (.bl false), none, none, none] (st ++ [.dead]) := by
    simp [lim0, lim1, lim2, lim3, lim4, lim5, lim6, lim7, lim8, lim9, lim10, lim11, evSs, evS, ev, evs, evb, evo, evc, startD, Out.bind, Out.thenS, Out.of, OutS.of, put, puts, view, binop, cfg, tru, allv, bltop, cmpop, idx, L2.atI, L2.ixN, b__law_said, cfgA, bnd, bnd.bnds, h, isNon, bIsi, isAny, isI, listedD, wd, S _ (show 0 < 19 by decide), S _ (show 1 < 19 by decide), S _ (show 2 < 19 by decide), S _ (show 3 < 19 by decide), S _ (show 4 < 19 by decide), S _ (show 5 < 19 by decide), S _ (show 6 < 19 by decide), S _ (show 7 < 19 by decide), S _ (show 8 < 19 by decide), S _ (show 9 < 19 by decide), S _ (show 10 < 19 by decide), S _ (show 11 < 19 by decide), S _ (show 12 < 19 by decide), S _ (show 13 < 19 by decide), S _ (show 14 < 19 by decide), S _ (show 15 < 19 by decide), S _ (show 16 < 19 by decide), S _ (show 17 < 19 by decide), S _ (show 18 < 19 by decide)]
  have e2 : ∀ t, evSs (cfgA P (callF P k) act st.length) ((b__law_said x).drop 8) [some (.obj st.length), some .non, some (.exc 16), some (listedD false false false true false), some (.bl false), none, none, none] t = .rt (.lst [.str (Str.ofString "nought")]) t := fun t => by kernel_rfl
  have e := evSs_app (ss := (b__law_said x).drop 8) e1
  rw [List.take_append_drop, e2] at e
  have e : evSs (cfgA P (callF P k) act st.length) (f__law_said x).body (startD (f__law_said x).n [.obj st.length]) (st ++ [.dead]) = .rt (.lst [.str (Str.ofString "nought")]) (st ++ [.dead]) := e
  rw [e]
  exact endA rfl
theorem said_18 (c : C__law_said P x) (k : Nat) (st : Sto) (act : Sto → Out D) (h : act (st ++ [.dead]) = .exc 18 (st ++ [.dead])) (S : SubOk P 18) : callA P (callF P k) x._law_said act st = .ok (.lst [.str (Str.ofString "great")]) st := by
  rw [cA_fn c.self rfl]
  have e1 : evSs (cfgA P (callF P k) act st.length) ((b__law_said x).take 8) (startD 8 [.obj st.length]) (st ++ [.dead]) = .nx [some (.obj st.length), some .non, some (.exc 18), some (listedD false false false false true), some (.bl false), none, none, none] (st ++ [.dead]) := by
    simp [lim0, lim1, lim2, lim3, lim4, lim5, lim6, lim7, lim8, lim9, lim10, lim11, evSs, evS, ev, evs, evb, evo, evc, startD, Out.bind, Out.thenS, Out.of, OutS.of, put, puts, view, binop, cfg, tru, allv, bltop, cmpop, idx, L2.atI, L2.ixN, b__law_said, cfgA, bnd, bnd.bnds, h, isNon, bIsi, isAny, isI, listedD, wd, S _ (show 0 < 19 by decide), S _ (show 1 < 19 by decide), S _ (show 2 < 19 by decide), S _ (show 3 < 19 by decide), S _ (show 4 < 19 by decide), S _ (show 5 < 19 by decide), S _ (show 6 < 19 by decide), S _ (show 7 < 19 by decide), S _ (show 8 < 19 by decide), S _ (show 9 < 19 by decide), S _ (show 10 < 19 by decide), S _ (show 11 < 19 by decide), S _ (show 12 < 19 by decide), S _ (show 13 < 19 by decide), S _ (show 14 < 19 by decide), S _ (show 15 < 19 by decide), S _ (show 16 < 19 by decide), S _ (show 17 < 19 by decide), S _ (show 18 < 19 by decide)]
  have e2 : ∀ t, evSs (cfgA P (callF P k) act st.length) ((b__law_said x).drop 8) [some (.obj st.length), some .non, some (.exc 18), some (listedD false false false false true), some (.bl false), none, none, none] t = .rt (.lst [.str (Str.ofString "great")]) t := fun t => by kernel_rfl
  have e := evSs_app (ss := (b__law_said x).drop 8) e1
  rw [List.take_append_drop, e2] at e
  have e : evSs (cfgA P (callF P k) act st.length) (f__law_said x).body (startD (f__law_said x).n [.obj st.length]) (st ++ [.dead]) = .rt (.lst [.str (Str.ofString "great")]) (st ++ [.dead]) := e
  rw [e]
  exact endA rfl
theorem said_exc (c : C__law_said P x) (k : Nat) (st : Sto) (act : Sto → Out D) (n : Nat) (w : String) (h : act (st ++ [.dead]) = .exc n (st ++ [.dead])) (S : SubOk P n) (hw : wordOf n = some w) : callA P (callF P k) x._law_said act st = .ok (.lst [.str (Str.ofString w)]) st := by
  unfold wordOf at hw
  split at hw <;> cases hw
  · exact said_1 c k st act h S
  · exact said_2 c k st act h S
  · exact said_12 c k st act h S
  · exact said_16 c k st act h S
  · exact said_18 c k st act h S
end
end FA
namespace FA
open Itp PySem
/-! ### what repr tells -/
theorem limW {n : Nat} (h : n ≤ 27000) : decide (602 * n + 600 ≤ sizeLine) = true := by
  rw [sizeLine_eq]
  exact decide_eq_true (by omega)
theorem int_w {i : Int} {k : Nat} (h : i.natAbs < 2 ^ k) : (PyData.int i).weight ≤ k + 1 := by
  rw [PyData.weight.eq_5]
  have := log_of h
  split <;> omega
theorem rep_of {d : D} {p : PyData} (e : toPy d = some p) (ok : repOk p = true) : bRepr [d] = some (.rep p) := by
  show (toPy d).bind (fun p => if repOk p then some (D.rep p) else none) = _
  rw [e]
  simp [ok]
/-- a number that is not too long -/
abbrev Sh (i : Int) : Prop := i.natAbs < 2 ^ 1900
theorem ok_int {i : Int} (h : Sh i) : repOk (.int i) = true := by
  have h1 := int_w h
  have h2 := log_of h
  unfold repOk
  rw [limW (Nat.le_trans h1 (by omega))]
  simp [PyData.canLay0, PyData.showable, PyData.depth]
  omega
theorem rep_int {i : Int} (h : Sh i) : bRepr [.int i] = some (.rep (.int i)) := rep_of rfl (ok_int h)
def pfr (a b : Int) : PyData := .tuple [.int a, .int b]
def fr (a b : Int) : D := .tup [.int a, .int b]
theorem ok_fr {a b : Int} (ha : Sh a) (hb : Sh b) : repOk (pfr a b) = true := by
  have h1 := int_w ha
  have h2 := log_of ha
  have h3 := int_w hb
  have h4 := log_of hb
  have hw : (pfr a b).weight ≤ 27000 := by
    unfold pfr
    rw [PyData.weight.eq_3, PyData.weightAll.eq_2, PyData.weightAll.eq_2]
    have h7 : PyData.weightAll [] = 0 := rfl
    rw [h7]
    omega
  unfold repOk
  rw [limW hw]
  simp [pfr, PyData.canLay0, PyData.canLayAll0, PyData.showable, PyData.showableAll, PyData.depth, PyData.depthAll]
  omega
theorem rep_fr {a b : Int} (ha : Sh a) (hb : Sh b) : bRepr [fr a b] = some (.rep (pfr a b)) := rep_of rfl (ok_fr ha hb)
theorem ok_rt {a b c d : Int} (ha : Sh a) (hb : Sh b) (hc : Sh c) (hd : Sh d) : repOk (.tuple [pfr a b, pfr c d]) = true := by
  have h1 := int_w ha
  have h2 := log_of ha
  have h3 := int_w hb
  have h4 := log_of hb
  have h5 := int_w hc
  have h6 := log_of hc
  have h7 := int_w hd
  have h8 := log_of hd
  have hw : (PyData.tuple [pfr a b, pfr c d]).weight ≤ 27000 := by
    unfold pfr
    rw [PyData.weight.eq_3, PyData.weightAll.eq_2, PyData.weightAll.eq_2, PyData.weight.eq_3, PyData.weightAll.eq_2, PyData.weightAll.eq_2, PyData.weight.eq_3, PyData.weightAll.eq_2, PyData.weightAll.eq_2]
    have h7 : PyData.weightAll [] = 0 := rfl
    rw [h7]
    omega
  unfold repOk
  rw [limW hw]
  simp [pfr, PyData.canLay0, PyData.canLayAll0, PyData.showable, PyData.showableAll, PyData.depth, PyData.depthAll]
  omega
theorem rep_rt {a b c d : Int} (ha : Sh a) (hb : Sh b) (hc : Sh c) (hd : Sh d) : bRepr [.tup [fr a b, fr c d]] = some (.rep (.tuple [pfr a b, pfr c d])) := rep_of rfl (ok_rt ha hb hc hd)
theorem ok_l2 {a b : Int} (ha : Sh a) (hb : Sh b) : repOk (.list [.int a, .int b]) = true := by
  have h1 := int_w ha
  have h2 := log_of ha
  have h3 := int_w hb
  have h4 := log_of hb
  have hw : (PyData.list [.int a, .int b]).weight ≤ 27000 := by
    rw [PyData.weight.eq_2, PyData.weightAll.eq_2, PyData.weightAll.eq_2]
    have h7 : PyData.weightAll [] = 0 := rfl
    rw [h7]
    omega
  unfold repOk
  rw [limW hw]
  simp [PyData.canLay0, PyData.canLayAll0, PyData.showable, PyData.showableAll, PyData.depth, PyData.depthAll]
  omega
theorem rep_l2 {a b : Int} (ha : Sh a) (hb : Sh b) : bRepr [.lst [.int a, .int b]] = some (.rep (.list [.int a, .int b])) := rep_of rfl (ok_l2 ha hb)
mutual
def nd : PyData → Bool
  | .dict _ => false
  | .list l => nds l
  | .tuple l => nds l
  | _ => true
def nds : List PyData → Bool
  | [] => true
  | p :: l => nd p && nds l
end
mutual
theorem peq_self : ∀ p : PyData, nd p = true → peq p p = true
  | .none, _ => by simp [peq]
  | .bool b, _ => by simp [peq]
  | .int i, _ => by simp [peq]
  | .str x, _ => by simp [peq]
  | .list l, h => by simp only [nd] at h; simp only [peq]; exact peqs_self l h
  | .tuple l, h => by simp only [nd] at h; simp only [peq]; exact peqs_self l h
  | .dict l, h => by simp [nd] at h
theorem peqs_self : ∀ l : List PyData, nds l = true → peqs l l = true
  | [], _ => by simp [peqs]
  | p :: l, h => by
    simp only [nds, Bool.and_eq_true] at h
    simp only [peqs, peq_self p h.1, peqs_self l h.2, Bool.and_self]
end
theorem eq_rep {p : PyData} (h : peq p p = true) : eqD (.rep p) (.rep p) = some true := by
  simp [eqD, flat, isText, deq, h]
/-- a word in a list -/
theorem lay_w : ∀ w, w ∈ ["kind", "worth", "deed", "nought", "great"] → PyData.canLay0 (.str (Str.ofString w)) = true := by decide +kernel
theorem eq_w {w : String} (h : w ∈ ["kind", "worth", "deed", "nought", "great"]) : eqD (.lst [.str (Str.ofString w)]) (.lst [.str (Str.ofString w)]) = some true := by
  have := lay_w w h
  simp [eqD, flat, isText, eqOk, eqOks, deq, deqs, this]
end FA
namespace FA
open Itp PySem
theorem sOk_of (s : String) : PyData.strOk (Str.ofString s) = true := by
  rw [Str.ofString_eq_toList]
  unfold PyData.strOk
  simp only [List.all_toArray, List.all_map, List.all_eq_true, Function.comp]
  intro c _
  have := c.valid
  rcases this with h | h
  · exact decide_eq_true (by show c.val.toNat < 0x110000; omega)
  · exact decide_eq_true h.2
theorem sOk_app {x y : Str} (hx : PyData.strOk x = true) (hy : PyData.strOk y = true) : PyData.strOk (x ++ y) = true := by
  unfold PyData.strOk at *
  show ((x.cps ++ y.cps).all _) = true
  rw [Array.all_append, hx, hy]
  rfl
theorem sOk_text : ∀ (ts : List Str) (k : Nat) (acc : Str), PyData.strOk acc = true → (∀ t ∈ ts, PyData.strOk t = true) → PyData.strOk (textFrom k acc ts) = true
  | [], _, _, h, _ => h
  | t :: r, k, acc, h, ht => sOk_text r (k + 1) _ (sOk_app (sOk_app h (sOk_of _)) (ht t List.mem_cons_self)) fun u hu => ht u (List.mem_cons_of_mem _ hu)
theorem sOk_join : ∀ (ts : List Str), (∀ t ∈ ts, PyData.strOk t = true) → PyData.strOk (Str.join ", " ts) = true
  | [], _ => by decide +kernel
  | [t], h => h t List.mem_cons_self
  | t :: u :: r, h => sOk_app (sOk_app (h t List.mem_cons_self) (sOk_of _)) (sOk_join (u :: r) fun v hv => h v (List.mem_cons_of_mem _ hv))
mutual
/-- numbers, truths, none, in lists and tuples -/
def plainP : PyData → Bool
  | .none | .bool _ | .int _ => true
  | .list l => plainPs l
  | .tuple l => plainPs l
  | _ => false
def plainPs : List PyData → Bool
  | [] => true
  | p :: l => plainP p && plainPs l
end
mutual
theorem sOk_shown : ∀ p : PyData, plainP p = true → PyData.strOk p.shown = true
  | .none, _ => sOk_of _
  | .bool true, _ => sOk_of _
  | .bool false, _ => sOk_of _
  | .int i, _ => sOk_of _
  | .str _, h => by simp [plainP] at h
  | .dict _, h => by simp [plainP] at h
  | .list l, h => by
    simp only [plainP] at h
    exact sOk_app (sOk_text _ _ _ (sOk_of _) (sOk_shownAll l h)) (sOk_of _)
  | .tuple l, h => by
    simp only [plainP] at h
    exact sOk_app (sOk_app (sOk_of _) (sOk_join _ (sOk_shownAll l h))) (sOk_of _)
theorem sOk_shownAll : ∀ l : List PyData, plainPs l = true → ∀ t ∈ PyData.shownAll l, PyData.strOk t = true
  | [], _, t, ht => by simp [PyData.shownAll] at ht
  | p :: l, h, t, ht => by
    simp only [plainPs, Bool.and_eq_true] at h
    simp only [PyData.shownAll, List.mem_cons] at ht
    rcases ht with rfl | ht
    · exact sOk_shown p h.1
    · exact sOk_shownAll l h.2 t ht
end
mutual
theorem nd_plain : ∀ p : PyData, plainP p = true → nd p = true
  | .none, _ => rfl
  | .bool _, _ => rfl
  | .int _, _ => rfl
  | .str _, h => by simp [plainP] at h
  | .dict _, h => by simp [plainP] at h
  | .list l, h => by simp only [plainP] at h; simp only [nd]; exact nds_plain l h
  | .tuple l, h => by simp only [plainP] at h; simp only [nd]; exact nds_plain l h
theorem nds_plain : ∀ l : List PyData, plainPs l = true → nds l = true
  | [], _ => rfl
  | p :: l, h => by
    simp only [plainPs, Bool.and_eq_true] at h
    simp only [nds, nd_plain p h.1, nds_plain l h.2, Bool.and_self]
end
/-- what may stand on both sides of == -/
structure Eqs (r : D) : Prop where
  ok : ∀ n, 2 ≤ n → eqOk n r = true
  eq : deq r r = some true
  ob : isO r = false
  no : nob r = true
theorem Eqs.eqD {r : D} (h : Eqs r) : Itp.eqD r r = some true := by
  unfold Itp.eqD
  split
  · exact h.eq
  · rw [h.ok 64 (by decide)]
    exact h.eq
theorem eqs_rep {p : PyData} (h : plainP p = true) : Eqs (.rep p) :=
  ⟨fun _ _ => by simp only [eqOk, PyData.canLay0]; exact sOk_shown p h, by simp [deq, peq_self p (nd_plain p h)], rfl, rfl⟩
theorem eqs_w (w : String) : Eqs (.lst [.str (Str.ofString w)]) :=
  ⟨fun n hn => by simp only [eqOk, eqOks, PyData.canLay0, sOk_of, Bool.and_true, decide_eq_true_eq]; omega, by simp [deq, deqs], rfl, rfl⟩
end FA
namespace FA
open Itp PySem LT
theorem mulOk_b {i j : Int} {k : Nat} (h : i.natAbs < 2 ^ k) (h2 : j.natAbs < 2 ^ k) (hk : k < 9000) : mulOk i j = true := by
  have h3 := log_of h
  have h4 := log_of h2
  have h5 : decide (bits i + bits j < 1000000) = true := decide_eq_true (by unfold bits; omega)
  unfold mulOk
  rw [h5, Bool.or_true]
theorem abs_mul {a b : Int} {j k : Nat} (ha : a.natAbs < 2 ^ j) (hb : b.natAbs < 2 ^ k) : (a * b).natAbs < 2 ^ (j + k) := by
  rw [Int.natAbs_mul, Nat.pow_add]
  exact Nat.mul_lt_mul'' ha hb
theorem abs_add {a b : Int} {j : Nat} (ha : a.natAbs < 2 ^ j) (hb : b.natAbs < 2 ^ j) : (a + b).natAbs < 2 ^ (j + 1) := by
  have := Int.natAbs_add_le a b
  rw [Nat.pow_succ]
  omega
theorem abs_sub {a b : Int} {j : Nat} (ha : a.natAbs < 2 ^ j) (hb : b.natAbs < 2 ^ j) : (a - b).natAbs < 2 ^ (j + 1) := by
  rw [Int.sub_eq_add_neg]
  exact abs_add ha (by rw [Int.natAbs_neg]; exact hb)
theorem abs_up {a : Int} {j k : Nat} (ha : a.natAbs < 2 ^ j) (h : j ≤ k) : a.natAbs < 2 ^ k := Nat.lt_of_lt_of_le ha (Nat.pow_le_pow_right (by decide) h)
/-! ### lowest terms -/
def gS (a b : Int) : Int := if b < 0 then -((Nat.gcd a.natAbs b.natAbs : Nat) : Int) else ((Nat.gcd a.natAbs b.natAbs : Nat) : Int)
def lnum (a b : Int) : Int := a.fdiv (gS a b)
def lden (a b : Int) : Int := b.fdiv (gS a b)
def low (a b : Int) : D := fr (lnum a b) (lden a b)
theorem gS_ne {a b : Int} (h : b ≠ 0) : gS a b ≠ 0 := by
  have : 0 < Nat.gcd a.natAbs b.natAbs := Nat.gcd_pos_of_pos_right _ (by omega)
  unfold gS
  split <;> omega
theorem gS_abs {a b : Int} : (gS a b).natAbs = Nat.gcd a.natAbs b.natAbs := by
  unfold gS
  split <;> omega
theorem gS_ok {a b : Int} {k : Nat} (h : b ≠ 0) (hb : b.natAbs < 2 ^ k) (hk : k < 8990) : divOk (gS a b) = true := by
  refine divOk_of (k := k) (gS_ne h) ?_ (by omega)
  rw [gS_abs]
  exact Nat.lt_of_le_of_lt (Nat.gcd_le_right _ (by omega)) hb
theorem gS_dl (a b : Int) : gS a b ∣ a := by
  rw [← Int.natAbs_dvd_natAbs, gS_abs]
  exact Nat.gcd_dvd_left _ _
theorem gS_dr (a b : Int) : gS a b ∣ b := by
  rw [← Int.natAbs_dvd_natAbs, gS_abs]
  exact Nat.gcd_dvd_right _ _
theorem fdiv_q {g x q : Int} (h : g ≠ 0) (e : x = g * q) : x.fdiv g = q := by
  rw [e]
  exact Int.mul_fdiv_cancel_left _ h
theorem lnum_mul {a b : Int} (h : b ≠ 0) : a = gS a b * lnum a b := by
  obtain ⟨q, hq⟩ := gS_dl a b
  have := fdiv_q (gS_ne h) hq
  unfold lnum
  rw [this]
  exact hq
theorem lden_mul {a b : Int} (h : b ≠ 0) : b = gS a b * lden a b := by
  obtain ⟨q, hq⟩ := gS_dr a b
  have := fdiv_q (gS_ne (a := a) h) hq
  unfold lden
  rw [this]
  exact hq
theorem gS_sign {a b : Int} (h : b ≠ 0) : (0 < gS a b ↔ 0 < b) := by
  have h1 := gS_ne (a := a) h
  have h2 := @gS_abs a b
  have : 0 < Nat.gcd a.natAbs b.natAbs := Nat.gcd_pos_of_pos_right _ (by omega)
  unfold gS at *
  split <;> omega
theorem lden_pos {a b : Int} (h : b ≠ 0) : 0 < lden a b := by
  have e := lden_mul (a := a) h
  have s := gS_sign (a := a) h
  have n := gS_ne (a := a) h
  refine Decidable.byContradiction fun hq => ?_
  by_cases hb : 0 < b
  · have : gS a b * lden a b ≤ 0 := Int.mul_nonpos_of_nonneg_of_nonpos (by have := s.mpr hb; omega) (by omega)
    omega
  · have : 0 ≤ gS a b * lden a b := Int.mul_nonneg_of_nonpos_of_nonpos (by have := fun z => hb (s.mp z); omega) (by omega)
    omega
theorem le_of_mul {g x : Int} (h : g ≠ 0) : x.natAbs ≤ (g * x).natAbs := by
  rw [Int.natAbs_mul]
  exact Nat.le_mul_of_pos_left _ (by omega)
theorem lnum_le {a b : Int} (h : b ≠ 0) : (lnum a b).natAbs ≤ a.natAbs := by
  conv => rhs; rw [lnum_mul (a := a) h]
  exact le_of_mul (gS_ne h)
theorem lden_le {a b : Int} (h : b ≠ 0) : (lden a b).natAbs ≤ b.natAbs := by
  conv => rhs; rw [lden_mul (a := a) h]
  exact le_of_mul (gS_ne h)
theorem low_gcd {a b : Int} (h : b ≠ 0) : Nat.gcd (lnum a b).natAbs (lden a b).natAbs = 1 := by
  have g0 : 0 < Nat.gcd a.natAbs b.natAbs := Nat.gcd_pos_of_pos_right _ (by omega)
  have e1 : a.natAbs = Nat.gcd a.natAbs b.natAbs * (lnum a b).natAbs := by
    conv => lhs; rw [lnum_mul (a := a) h]
    rw [Int.natAbs_mul, gS_abs]
  have e2 : b.natAbs = Nat.gcd a.natAbs b.natAbs * (lden a b).natAbs := by
    conv => lhs; rw [lden_mul (a := a) h]
    rw [Int.natAbs_mul, gS_abs]
  have e3 : Nat.gcd a.natAbs b.natAbs = Nat.gcd a.natAbs b.natAbs * Nat.gcd (lnum a b).natAbs (lden a b).natAbs := by
    rw [← Nat.gcd_mul_left, ← e1, ← e2]
  exact (Nat.eq_of_mul_eq_mul_left g0 (by rw [Nat.mul_one]; exact e3)).symm
/-- lowest terms are told by the number alone -/
theorem lowest_eq {p q r s : Int} (hq : 0 < q) (hs : 0 < s) (h1 : Nat.gcd p.natAbs q.natAbs = 1) (h2 : Nat.gcd r.natAbs s.natAbs = 1) (h : p * s = r * q) : p = r ∧ q = s := by
  have d1 : q.natAbs ∣ s.natAbs := by
    have : q.natAbs ∣ p.natAbs * s.natAbs := by
      rw [← Int.natAbs_mul, h, Int.natAbs_mul]
      exact Nat.dvd_mul_left _ _
    exact Nat.Coprime.dvd_of_dvd_mul_left (Nat.coprime_comm.mp h1) this
  have d2 : s.natAbs ∣ q.natAbs := by
    have : s.natAbs ∣ r.natAbs * q.natAbs := by
      rw [← Int.natAbs_mul, ← h, Int.natAbs_mul]
      exact Nat.dvd_mul_left _ _
    exact Nat.Coprime.dvd_of_dvd_mul_left (Nat.coprime_comm.mp h2) this
  have e : q.natAbs = s.natAbs := Nat.dvd_antisymm d1 d2
  have e : q = s := by omega
  subst e
  exact ⟨Int.eq_of_mul_eq_mul_right (by omega) h, rfl⟩
theorem low_eq {a b c d : Int} (hb : b ≠ 0) (hd : d ≠ 0) (h : a * d = c * b) : lnum a b = lnum c d ∧ lden a b = lden c d := by
  refine lowest_eq (lden_pos hb) (lden_pos hd) (low_gcd hb) (low_gcd hd) ?_
  have e1 := lnum_mul (a := a) hb
  have e2 := lden_mul (a := a) hb
  have e3 := lnum_mul (a := c) hd
  have e4 := lden_mul (a := c) hd
  have n1 := gS_ne (a := a) hb
  have n2 := gS_ne (a := c) hd
  generalize gS a b = g at *
  generalize gS c d = g' at *
  generalize lnum a b = p at *
  generalize lden a b = q at *
  generalize lnum c d = r at *
  generalize lden c d = s at *
  subst e1 e2 e3 e4
  have : (g * g') * (p * s) = (g * g') * (r * q) := by
    have h1 : (g * p) * (g' * s) = (g * g') * (p * s) := by ac_rfl
    have h2 : (g' * r) * (g * q) = (g * g') * (r * q) := by ac_rfl
    rw [← h1, ← h2]
    exact h
  exact Int.eq_of_mul_eq_mul_left (Int.mul_ne_zero n1 n2) this
theorem lowD_eq {a b c d : Int} (hb : b ≠ 0) (hd : d ≠ 0) (h : a * d = c * b) : low a b = low c d := by
  obtain ⟨h1, h2⟩ := low_eq hb hd h
  unfold low
  rw [h1, h2]
/-- of whole numbers -/
theorem low_one (a : Int) : lnum a 1 = a ∧ lden a 1 = 1 := by
  have e : gS a 1 = 1 := by
    unfold gS
    simp
  unfold lnum lden
  rw [e]
  exact ⟨Int.fdiv_one _, Int.fdiv_one _⟩
end FA
namespace FA
open Itp PySem LT
section
variable {P : Prog} {x : Ix}
theorem is_whole (c : C_is_whole P x) (n : Nat) (i : Int) (st : Sto) : callF P (n + 1) x.is_whole [.int i] st = .ok (.bl true) st := by
  rw [callF_fn c.self rfl]
  have e : evSs (cfg P (callF P n) st.length) (f_is_whole x).body (startD (f_is_whole x).n [.int i]) st = .rt (.bl true) st := by
    simp [lim0, lim1, lim2, lim3, lim4, lim5, lim6, lim7, lim8, lim9, lim10, lim11, evSs, evS, ev, evs, evb, evo, evc, startD, Out.bind, Out.thenS, Out.of, OutS.of, put, puts, view, binop, cfg, tru, allv, bltop, cmpop, idx, L2.atI, L2.ixN, f_is_whole, b_is_whole, bIsi, isI, tyNm, tyIs, Ty.nm]
  rw [e]
  exact endF_rt
theorem fraction (c : C_shortest P x) (n : Nat) (a b : Int) (st : Sto) {k : Nat} (h : b ≠ 0) (hb : b.natAbs < 2 ^ k) (hk : k < 8990) : callF P (n + 2) x.shortest [.int a, .int b] st = .ok (low a b) st := by
  rw [callF_fn c.self rfl]
  have g := gS_ok (a := a) h hb hk
  have e : evSs (cfg P (callF P (n + 1)) st.length) (f_shortest x).body (startD (f_shortest x).n [.int a, .int b]) st = .rt (low a b) st := by
    have go : (if gS a b = 1 then D.tup [.int a, .int b] else D.tup [.int (a.fdiv (gS a b)), .int (b.fdiv (gS a b))]) = low a b := by
      unfold low lnum lden fr
      split
      · rename_i h1
        rw [h1, Int.fdiv_one, Int.fdiv_one]
      · rfl
    by_cases hn : b < 0
    · have e : gS a b = -((Nat.gcd a.natAbs b.natAbs : Nat) : Int) := if_pos hn
      rw [e] at g go
      by_cases h1 : -((Nat.gcd a.natAbs b.natAbs : Nat) : Int) = 1
      · have hb1 : (-((Nat.gcd a.natAbs b.natAbs : Nat) : Int) == 1) = true := by rw [h1]; rfl
        rw [if_pos h1] at go
        simp [lim0, lim1, lim2, lim3, lim4, lim5, lim6, lim7, lim8, lim9, lim10, lim11, evSs, evS, ev, evs, evb, evo, evc, startD, Out.bind, Out.thenS, Out.of, OutS.of, put, puts, view, binop, cfg, tru, allv, bltop, cmpop, idx, L2.atI, L2.ixN, f_shortest, b_shortest, hn, eqD, flat, isText, deq, eqOk, bGcd, hb1, ← go]
      · have hb1 : (-((Nat.gcd a.natAbs b.natAbs : Nat) : Int) == 1) = false := by simpa using h1
        rw [if_neg h1] at go
        simp [lim0, lim1, lim2, lim3, lim4, lim5, lim6, lim7, lim8, lim9, lim10, lim11, evSs, evS, ev, evs, evb, evo, evc, startD, Out.bind, Out.thenS, Out.of, OutS.of, put, puts, view, binop, cfg, tru, allv, bltop, cmpop, idx, L2.atI, L2.ixN, f_shortest, b_shortest, hn, eqD, flat, isText, deq, eqOk, bGcd, g, hb1, ← go]
    · have e : gS a b = ((Nat.gcd a.natAbs b.natAbs : Nat) : Int) := if_neg hn
      rw [e] at g go
      by_cases h1 : ((Nat.gcd a.natAbs b.natAbs : Nat) : Int) = 1
      · have hb1 : (((Nat.gcd a.natAbs b.natAbs : Nat) : Int) == 1) = true := by rw [h1]; rfl
        rw [if_pos h1] at go
        simp [lim0, lim1, lim2, lim3, lim4, lim5, lim6, lim7, lim8, lim9, lim10, lim11, evSs, evS, ev, evs, evb, evo, evc, startD, Out.bind, Out.thenS, Out.of, OutS.of, put, puts, view, binop, cfg, tru, allv, bltop, cmpop, idx, L2.atI, L2.ixN, f_shortest, b_shortest, hn, eqD, flat, isText, deq, eqOk, bGcd, hb1, ← go]
      · have hb1 : (((Nat.gcd a.natAbs b.natAbs : Nat) : Int) == 1) = false := by simpa using h1
        rw [if_neg h1] at go
        simp [lim0, lim1, lim2, lim3, lim4, lim5, lim6, lim7, lim8, lim9, lim10, lim11, evSs, evS, ev, evs, evb, evo, evc, startD, Out.bind, Out.thenS, Out.of, OutS.of, put, puts, view, binop, cfg, tru, allv, bltop, cmpop, idx, L2.atI, L2.ixN, f_shortest, b_shortest, hn, eqD, flat, isText, deq, eqOk, bGcd, g, hb1, ← go]
  rw [e]
  exact endF_rt
/-- of the size that the laws make -/
abbrev Big (i : Int) : Prop := i.natAbs < 2 ^ 2100
theorem bigs {a b : Int} (ha : Big a) (hb : Big b) : mulOk a b = true := mulOk_b ha hb (by decide)
theorem sum_of (c : C_sum_of P x) (n : Nat) (a b a' b' : Int) (st : Sto) (h : b * b' ≠ 0) (h1 : Big a) (h2 : Big b) (h3 : Big a') (h4 : Big b') : callF P (n + 3) x.sum_of [fr a b, fr a' b'] st = .ok (low (a * b' + a' * b) (b * b')) st := by
  rw [callF_fn c.self rfl]
  have w := fraction c.shortest n (a * b' + a' * b) (b * b') st h (abs_mul h2 h4) (by decide)
  have m1 := bigs h1 h4
  have m2 := bigs h3 h2
  have m3 := bigs h2 h4
  have e : evSs (cfg P (callF P (n + 2)) st.length) (f_sum_of x).body (startD (f_sum_of x).n [fr a b, fr a' b']) st = .rt (low (a * b' + a' * b) (b * b')) st := by
    simp [lim0, lim1, lim2, lim3, lim4, lim5, lim6, lim7, lim8, lim9, lim10, lim11, evSs, evS, ev, evs, evb, evo, evc, startD, Out.bind, Out.thenS, Out.of, OutS.of, put, puts, view, binop, cfg, tru, allv, bltop, cmpop, idx, L2.atI, L2.ixN, f_sum_of, b_sum_of, fr, m1, m2, m3, w]
  rw [e]
  exact endF_rt
theorem difference_of (c : C_difference_of P x) (n : Nat) (a b a' b' : Int) (st : Sto) (h : b * b' ≠ 0) (h1 : Big a) (h2 : Big b) (h3 : Big a') (h4 : Big b') : callF P (n + 3) x.difference_of [fr a b, fr a' b'] st = .ok (low (a * b' - a' * b) (b * b')) st := by
  rw [callF_fn c.self rfl]
  have w := fraction c.shortest n (a * b' - a' * b) (b * b') st h (abs_mul h2 h4) (by decide)
  have m1 := bigs h1 h4
  have m2 := bigs h3 h2
  have m3 := bigs h2 h4
  have e : evSs (cfg P (callF P (n + 2)) st.length) (f_difference_of x).body (startD (f_difference_of x).n [fr a b, fr a' b']) st = .rt (low (a * b' - a' * b) (b * b')) st := by
    simp [lim0, lim1, lim2, lim3, lim4, lim5, lim6, lim7, lim8, lim9, lim10, lim11, evSs, evS, ev, evs, evb, evo, evc, startD, Out.bind, Out.thenS, Out.of, OutS.of, put, puts, view, binop, cfg, tru, allv, bltop, cmpop, idx, L2.atI, L2.ixN, f_difference_of, b_difference_of, fr, m1, m2, m3, w]
  rw [e]
  exact endF_rt
theorem product_of (c : C_product_of P x) (n : Nat) (a b a' b' : Int) (st : Sto) (h : b * b' ≠ 0) (h1 : Big a) (h2 : Big b) (h3 : Big a') (h4 : Big b') : callF P (n + 3) x.product_of [fr a b, fr a' b'] st = .ok (low (a * a') (b * b')) st := by
  rw [callF_fn c.self rfl]
  have w := fraction c.shortest n (a * a') (b * b') st h (abs_mul h2 h4) (by decide)
  have m1 := bigs h1 h3
  have m3 := bigs h2 h4
  have e : evSs (cfg P (callF P (n + 2)) st.length) (f_product_of x).body (startD (f_product_of x).n [fr a b, fr a' b']) st = .rt (low (a * a') (b * b')) st := by
    simp [lim0, lim1, lim2, lim3, lim4, lim5, lim6, lim7, lim8, lim9, lim10, lim11, evSs, evS, ev, evs, evb, evo, evc, startD, Out.bind, Out.thenS, Out.of, OutS.of, put, puts, view, binop, cfg, tru, allv, bltop, cmpop, idx, L2.atI, L2.ixN, f_product_of, b_product_of, fr, m1, m3, w]
  rw [e]
  exact endF_rt
theorem quotient_of (c : C_quotient_of P x) (n : Nat) (a b a' b' : Int) (st : Sto) (h : b ≠ 0) (h0 : a' ≠ 0) (h1 : Big a) (h2 : Big b) (h3 : Big a') (h4 : Big b') : callF P (n + 3) x.quotient_of [fr a b, fr a' b'] st = .ok (low (a * b') (b * a')) st := by
  rw [callF_fn c.self rfl]
  have w := fraction c.shortest n (a * b') (b * a') st (Int.mul_ne_zero h h0) (abs_mul h2 h3) (by decide)
  have m1 := bigs h1 h4
  have m3 := bigs h2 h3
  have hc0 : (a' == 0) = false := by simpa using h0
  have e : evSs (cfg P (callF P (n + 2)) st.length) (f_quotient_of x).body (startD (f_quotient_of x).n [fr a b, fr a' b']) st = .rt (low (a * b') (b * a')) st := by
    simp [lim0, lim1, lim2, lim3, lim4, lim5, lim6, lim7, lim8, lim9, lim10, lim11, evSs, evS, ev, evs, evb, evo, evc, startD, Out.bind, Out.thenS, Out.of, OutS.of, put, puts, view, binop, cfg, tru, allv, bltop, cmpop, idx, L2.atI, L2.ixN, f_quotient_of, b_quotient_of, fr, m1, m3, w, eqD, flat, isText, deq, eqOk, hc0]
  rw [e]
  exact endF_rt
theorem quotient_nought (c : C_quotient_of P x) (n : Nat) (a b b' : Int) (st : Sto) : callF P (n + 1) x.quotient_of [fr a b, fr 0 b'] st = .exc 16 st := by
  rw [callF_fn c.self rfl]
  have e : evSs (cfg P (callF P n) st.length) (f_quotient_of x).body (startD (f_quotient_of x).n [fr a b, fr 0 b']) st = .exc 16 [some (fr a b), some (fr 0 b')] st := by
    simp [lim0, lim1, lim2, lim3, lim4, lim5, lim6, lim7, lim8, lim9, lim10, lim11, evSs, evS, ev, evs, evb, evo, evc, startD, Out.bind, Out.thenS, Out.of, OutS.of, put, puts, view, binop, cfg, tru, allv, bltop, cmpop, idx, L2.atI, L2.ixN, f_quotient_of, b_quotient_of, fr, eqD, flat, isText, deq, eqOk]
  rw [e]
  exact endF_exc
theorem is_less (c : C_is_less P x) (n : Nat) (a b a' b' : Int) (st : Sto) (h1 : Big a) (h2 : Big b) (h3 : Big a') (h4 : Big b') : callF P (n + 1) x.is_less [fr a b, fr a' b'] st = .ok (.bl (decide (a * b' < a' * b))) st := by
  rw [callF_fn c.self rfl]
  have m1 := bigs h1 h4
  have m2 := bigs h3 h2
  have e : evSs (cfg P (callF P n) st.length) (f_is_less x).body (startD (f_is_less x).n [fr a b, fr a' b']) st = .rt (.bl (decide (a * b' < a' * b))) st := by
    simp [lim0, lim1, lim2, lim3, lim4, lim5, lim6, lim7, lim8, lim9, lim10, lim11, evSs, evS, ev, evs, evb, evo, evc, startD, Out.bind, Out.thenS, Out.of, OutS.of, put, puts, view, binop, cfg, tru, allv, bltop, cmpop, idx, L2.atI, L2.ixN, f_is_less, b_is_less, fr, m1, m2]
  rw [e]
  exact endF_rt
def GR : Int := (10 ^ 60) ^ 5
def great (a b : Int) : Bool := decide (GR < ((a.natAbs : Nat) : Int)) || decide (GR < b)
theorem is_great (c : C_is_great P x) (n : Nat) (a b : Int) (st : Sto) : callF P (n + 1) x.is_great [fr a b] st = .ok (.bl (great a b)) st := by
  rw [callF_fn c.self rfl]
  have ab : (if a < 0 then -a else a) = ((a.natAbs : Nat) : Int) := by split <;> omega
  have gl : P.glob x.GREATEST = some (.int GR) := c.g_GREATEST
  have e : evSs (cfg P (callF P n) st.length) (f_is_great x).body (startD (f_is_great x).n [fr a b]) st = .rt (.bl (great a b)) st := by
    unfold great
    generalize GR = G at gl ⊢
    by_cases h : G < ((a.natAbs : Nat) : Int)
    · simp [lim0, lim1, lim2, lim3, lim4, lim5, lim6, lim7, lim8, lim9, lim10, lim11, evSs, evS, ev, evs, evb, evo, evc, startD, Out.bind, Out.thenS, Out.of, OutS.of, put, puts, view, binop, cfg, tru, allv, bltop, cmpop, idx, L2.atI, L2.ixN, f_is_great, b_is_great, fr, gl, bAbs, ab, h]
    · simp [lim0, lim1, lim2, lim3, lim4, lim5, lim6, lim7, lim8, lim9, lim10, lim11, evSs, evS, ev, evs, evb, evo, evc, startD, Out.bind, Out.thenS, Out.of, OutS.of, put, puts, view, binop, cfg, tru, allv, bltop, cmpop, idx, L2.atI, L2.ixN, f_is_great, b_is_great, fr, gl, bAbs, ab, h]
  rw [e]
  exact endF_rt
theorem need_small1 (c : C_need_small P x) (n : Nat) (a b : Int) (st : Sto) : callF P (n + 2) x.need_small [.lst [fr a b]] st = if great a b then .exc 18 st else .ok .non st := by
  rw [callF_fn c.self rfl]
  have w := fun st => is_great c.is_great n a b st
  cases hg : great a b with
  | true =>
    have e : evSs (cfg P (callF P (n + 1)) st.length) (f_need_small x).body (startD (f_need_small x).n [.lst [fr a b]]) st = .exc 18 [some (.lst [fr a b]), some (fr a b)] st := by
      simp [lim0, lim1, lim2, lim3, lim4, lim5, lim6, lim7, lim8, lim9, lim10, lim11, evSs, evS, ev, evs, evb, evo, evc, startD, Out.bind, Out.thenS, Out.of, OutS.of, put, puts, view, binop, cfg, tru, allv, bltop, cmpop, idx, L2.atI, L2.ixN, f_need_small, b_need_small, items, forD, bnd, w, hg]
    rw [e]
    exact endF_exc
  | false =>
    have e : evSs (cfg P (callF P (n + 1)) st.length) (f_need_small x).body (startD (f_need_small x).n [.lst [fr a b]]) st = .nx [some (.lst [fr a b]), some (fr a b)] st := by
      simp [lim0, lim1, lim2, lim3, lim4, lim5, lim6, lim7, lim8, lim9, lim10, lim11, evSs, evS, ev, evs, evb, evo, evc, startD, Out.bind, Out.thenS, Out.of, OutS.of, put, puts, view, binop, cfg, tru, allv, bltop, cmpop, idx, L2.atI, L2.ixN, f_need_small, b_need_small, items, forD, bnd, w, hg]
    rw [e]
    simp [endF, fin]
end
end FA
namespace FA
open Itp PySem LT
def plusS : Str := Str.ofString "plus"
def lessS : Str := Str.ofString "less"
def timesS : Str := Str.ofString "times"
def overS : Str := Str.ofString "over"
def wholeD : D := .tup [.str (Str.ofString "whole")]
def shareD : D := .tup [.str (Str.ofString "share")]
def words3 : D := .tup [.str (Str.ofString "whole"), .str (Str.ofString "share"), .str (Str.ofString "rest")]
theorem bPP : (Str.ofString "plus" == Str.ofString "plus") = true := by decide +kernel
theorem bPL : (Str.ofString "plus" == Str.ofString "less") = false := by decide +kernel
theorem bPT : (Str.ofString "plus" == Str.ofString "times") = false := by decide +kernel
theorem bPO : (Str.ofString "plus" == Str.ofString "over") = false := by decide +kernel
theorem bLP : (Str.ofString "less" == Str.ofString "plus") = false := by decide +kernel
theorem bLL : (Str.ofString "less" == Str.ofString "less") = true := by decide +kernel
theorem bLT : (Str.ofString "less" == Str.ofString "times") = false := by decide +kernel
theorem bLO : (Str.ofString "less" == Str.ofString "over") = false := by decide +kernel
theorem bTP : (Str.ofString "times" == Str.ofString "plus") = false := by decide +kernel
theorem bTL : (Str.ofString "times" == Str.ofString "less") = false := by decide +kernel
theorem bTT : (Str.ofString "times" == Str.ofString "times") = true := by decide +kernel
theorem bTO : (Str.ofString "times" == Str.ofString "over") = false := by decide +kernel
theorem bOP : (Str.ofString "over" == Str.ofString "plus") = false := by decide +kernel
theorem bOL : (Str.ofString "over" == Str.ofString "less") = false := by decide +kernel
theorem bOT : (Str.ofString "over" == Str.ofString "times") = false := by decide +kernel
theorem bOO : (Str.ofString "over" == Str.ofString "over") = true := by decide +kernel
theorem bWR : (Str.ofString "whole" == Str.ofString "rest") = false := by decide +kernel
theorem bWW : (Str.ofString "whole" == Str.ofString "whole") = true := by decide +kernel
theorem bWS : (Str.ofString "whole" == Str.ofString "share") = false := by decide +kernel
theorem bSR : (Str.ofString "share" == Str.ofString "rest") = false := by decide +kernel
theorem bSW : (Str.ofString "share" == Str.ofString "whole") = false := by decide +kernel
theorem bSS : (Str.ofString "share" == Str.ofString "share") = true := by decide +kernel
section
variable {P : Prog} {x : Ix}
theorem fd_plus (c : C_fraction_deed P x) (n : Nat) (a b a' b' : Int) (st : Sto) (h : b * b' ≠ 0) (h1 : Big a) (h2 : Big b) (h3 : Big a') (h4 : Big b') : callF P (n + 5) x.fraction_deed [.str plusS, fr a b, fr a' b'] st = .ok (low (a * b' + a' * b) (b * b')) st := by
  rw [callF_fn c.self rfl]
  have w := sum_of c.sum_of (n + 1) a b a' b' st h h1 h2 h3 h4
  have e : evSs (cfg P (callF P (n + 4)) st.length) (f_fraction_deed x).body (startD (f_fraction_deed x).n [.str plusS, fr a b, fr a' b']) st = .rt (low (a * b' + a' * b) (b * b')) st := by
    unfold fr at w ⊢
    simp [lim0, lim1, lim2, lim3, lim4, lim5, lim6, lim7, lim8, lim9, lim10, lim11, evSs, evS, ev, evs, evb, evo, evc, startD, Out.bind, Out.thenS, Out.of, OutS.of, put, puts, view, binop, cfg, tru, allv, bltop, cmpop, idx, L2.atI, L2.ixN, f_fraction_deed, b_fraction_deed, plusS, eqD, flat, isText, deq, bPP, w]
  rw [e]
  exact endF_rt
theorem fd_less (c : C_fraction_deed P x) (n : Nat) (a b a' b' : Int) (st : Sto) (h : b * b' ≠ 0) (h1 : Big a) (h2 : Big b) (h3 : Big a') (h4 : Big b') : callF P (n + 5) x.fraction_deed [.str lessS, fr a b, fr a' b'] st = .ok (low (a * b' - a' * b) (b * b')) st := by
  rw [callF_fn c.self rfl]
  have w := difference_of c.difference_of (n + 1) a b a' b' st h h1 h2 h3 h4
  have e : evSs (cfg P (callF P (n + 4)) st.length) (f_fraction_deed x).body (startD (f_fraction_deed x).n [.str lessS, fr a b, fr a' b']) st = .rt (low (a * b' - a' * b) (b * b')) st := by
    unfold fr at w ⊢
    simp [lim0, lim1, lim2, lim3, lim4, lim5, lim6, lim7, lim8, lim9, lim10, lim11, evSs, evS, ev, evs, evb, evo, evc, startD, Out.bind, Out.thenS, Out.of, OutS.of, put, puts, view, binop, cfg, tru, allv, bltop, cmpop, idx, L2.atI, L2.ixN, f_fraction_deed, b_fraction_deed, lessS, eqD, flat, isText, deq, bLP, bLL, w]
  rw [e]
  exact endF_rt
theorem fd_times (c : C_fraction_deed P x) (n : Nat) (a b a' b' : Int) (st : Sto) (h : b * b' ≠ 0) (h1 : Big a) (h2 : Big b) (h3 : Big a') (h4 : Big b') : callF P (n + 5) x.fraction_deed [.str timesS, fr a b, fr a' b'] st = .ok (low (a * a') (b * b')) st := by
  rw [callF_fn c.self rfl]
  have w := product_of c.product_of (n + 1) a b a' b' st h h1 h2 h3 h4
  have e : evSs (cfg P (callF P (n + 4)) st.length) (f_fraction_deed x).body (startD (f_fraction_deed x).n [.str timesS, fr a b, fr a' b']) st = .rt (low (a * a') (b * b')) st := by
    unfold fr at w ⊢
    simp [lim0, lim1, lim2, lim3, lim4, lim5, lim6, lim7, lim8, lim9, lim10, lim11, evSs, evS, ev, evs, evb, evo, evc, startD, Out.bind, Out.thenS, Out.of, OutS.of, put, puts, view, binop, cfg, tru, allv, bltop, cmpop, idx, L2.atI, L2.ixN, f_fraction_deed, b_fraction_deed, timesS, eqD, flat, isText, deq, bTP, bTL, bTT, w]
  rw [e]
  exact endF_rt
theorem fd_over (c : C_fraction_deed P x) (n : Nat) (a b a' b' : Int) (st : Sto) (h : b ≠ 0) (h0 : a' ≠ 0) (h1 : Big a) (h2 : Big b) (h3 : Big a') (h4 : Big b') : callF P (n + 5) x.fraction_deed [.str overS, fr a b, fr a' b'] st = .ok (low (a * b') (b * a')) st := by
  rw [callF_fn c.self rfl]
  have w := quotient_of c.quotient_of (n + 1) a b a' b' st h h0 h1 h2 h3 h4
  have e : evSs (cfg P (callF P (n + 4)) st.length) (f_fraction_deed x).body (startD (f_fraction_deed x).n [.str overS, fr a b, fr a' b']) st = .rt (low (a * b') (b * a')) st := by
    unfold fr at w ⊢
    simp [lim0, lim1, lim2, lim3, lim4, lim5, lim6, lim7, lim8, lim9, lim10, lim11, evSs, evS, ev, evs, evb, evo, evc, startD, Out.bind, Out.thenS, Out.of, OutS.of, put, puts, view, binop, cfg, tru, allv, bltop, cmpop, idx, L2.atI, L2.ixN, f_fraction_deed, b_fraction_deed, overS, eqD, flat, isText, deq, bOP, bOL, bOT, w]
  rw [e]
  exact endF_rt
theorem fd_nought (c : C_fraction_deed P x) (n : Nat) (a b b' : Int) (st : Sto) : callF P (n + 5) x.fraction_deed [.str overS, fr a b, fr 0 b'] st = .exc 16 st := by
  rw [callF_fn c.self rfl]
  have w := quotient_nought c.quotient_of (n + 3) a b b' st
  have e : ∃ env, evSs (cfg P (callF P (n + 4)) st.length) (f_fraction_deed x).body (startD (f_fraction_deed x).n [.str overS, fr a b, fr 0 b']) st = .exc 16 env st := by
    unfold fr at w ⊢
    exact ⟨_, by simp [lim0, lim1, lim2, lim3, lim4, lim5, lim6, lim7, lim8, lim9, lim10, lim11, evSs, evS, ev, evs, evb, evo, evc, startD, Out.bind, Out.thenS, Out.of, OutS.of, put, puts, view, binop, cfg, tru, allv, bltop, cmpop, idx, L2.atI, L2.ixN, f_fraction_deed, b_fraction_deed, overS, eqD, flat, isText, deq, bOP, bOL, bOT, w]; rfl⟩
  obtain ⟨env, e⟩ := e
  rw [e]
  exact endF_exc
theorem as_share_whole (c : C__as_share P x) (n : Nat) (a : Int) (st : Sto) : callF P (n + 1) x._as_share [wholeD, .int a] st = .ok (fr a 1) st := by
  rw [callF_fn c.self rfl]
  have e : evSs (cfg P (callF P n) st.length) (f__as_share x).body (startD (f__as_share x).n [wholeD, .int a]) st = .rt (fr a 1) st := by
    simp [lim0, lim1, lim2, lim3, lim4, lim5, lim6, lim7, lim8, lim9, lim10, lim11, evSs, evS, ev, evs, evb, evo, evc, startD, Out.bind, Out.thenS, Out.of, OutS.of, put, puts, view, binop, cfg, tru, allv, bltop, cmpop, idx, L2.atI, L2.ixN, f__as_share, b__as_share, wholeD, fr, eqD, flat, isText, deq, bWW]
  rw [e]
  exact endF_rt
theorem as_share_share (c : C__as_share P x) (n : Nat) (a b : Int) (st : Sto) : callF P (n + 1) x._as_share [shareD, fr a b] st = .ok (fr a b) st := by
  rw [callF_fn c.self rfl]
  have e : evSs (cfg P (callF P n) st.length) (f__as_share x).body (startD (f__as_share x).n [shareD, fr a b]) st = .rt (fr a b) st := by
    simp [lim0, lim1, lim2, lim3, lim4, lim5, lim6, lim7, lim8, lim9, lim10, lim11, evSs, evS, ev, evs, evb, evo, evc, startD, Out.bind, Out.thenS, Out.of, OutS.of, put, puts, view, binop, cfg, tru, allv, bltop, cmpop, idx, L2.atI, L2.ixN, f__as_share, b__as_share, shareD, fr, eqD, flat, isText, deq, bSW]
  rw [e]
  exact endF_rt
/-- what a deed that a kind has brings, where its fraction is known -/
theorem done_w (c : C_exact_done P x) (n : Nat) (a b p q : Int) (d : Str) (st : Sto) (hd : d ∈ [plusS, lessS, timesS])
    (hf : ∀ st, callF P (n + 6) x.fraction_deed [.str d, fr a 1, fr b 1] st = .ok (fr p q) st) : callF P (n + 7) x.exact_done [wholeD, .str d, .int a, .int b] st = if great p q then .exc 18 st else .ok (.int p) st := by
  rw [callF_fn c.self rfl]
  have w1 := fun st => as_share_whole c._as_share (n + 5) a st
  have w2 := fun st => as_share_whole c._as_share (n + 5) b st
  have w3 := fun st => need_small1 c.need_small (n + 4) p q st
  unfold wholeD at *
  unfold fr at *
  have hdo : (d == Str.ofString "over") = false := by
    simp only [List.mem_cons, List.not_mem_nil, or_false] at hd
    rcases hd with rfl | rfl | rfl
    · exact bPO
    · exact bLO
    · exact bTO
  cases hg : great p q with
  | true =>
    have e : ∃ env, evSs (cfg P (callF P (n + 6)) st.length) (f_exact_done x).body (startD (f_exact_done x).n [.tup [.str (Str.ofString "whole")], .str d, .int a, .int b]) st = .exc 18 env st :=
      ⟨_, by simp [lim0, lim1, lim2, lim3, lim4, lim5, lim6, lim7, lim8, lim9, lim10, lim11, evSs, evS, ev, evs, evb, evo, evc, startD, Out.bind, Out.thenS, Out.of, OutS.of, put, puts, view, binop, cfg, tru, allv, bltop, cmpop, idx, L2.atI, L2.ixN, f_exact_done, b_exact_done, hdo, eqD, flat, isText, deq, bWR, w1, w2, hf, w3, hg]; rfl⟩
    obtain ⟨env, e⟩ := e
    rw [e]
    exact endF_exc
  | false =>
    have e : evSs (cfg P (callF P (n + 6)) st.length) (f_exact_done x).body (startD (f_exact_done x).n [.tup [.str (Str.ofString "whole")], .str d, .int a, .int b]) st = .rt (.int p) st := by
      simp [lim0, lim1, lim2, lim3, lim4, lim5, lim6, lim7, lim8, lim9, lim10, lim11, evSs, evS, ev, evs, evb, evo, evc, startD, Out.bind, Out.thenS, Out.of, OutS.of, put, puts, view, binop, cfg, tru, allv, bltop, cmpop, idx, L2.atI, L2.ixN, f_exact_done, b_exact_done, hdo, eqD, flat, isText, deq, bWR, bWW, w1, w2, hf, w3, hg]
    rw [e]
    exact endF_rt
theorem done_s (c : C_exact_done P x) (n : Nat) (a b a' b' p q : Int) (d : Str) (st : Sto) (ho : ∀ st, callF P (n + 6) x._has_over [shareD] st = .ok (.bl true) st)
    (hf : ∀ st, callF P (n + 6) x.fraction_deed [.str d, fr a b, fr a' b'] st = .ok (fr p q) st) : callF P (n + 7) x.exact_done [shareD, .str d, fr a b, fr a' b'] st = if great p q then .exc 18 st else .ok (fr p q) st := by
  rw [callF_fn c.self rfl]
  have w1 := fun st => as_share_share c._as_share (n + 5) a b st
  have w2 := fun st => as_share_share c._as_share (n + 5) a' b' st
  have w3 := fun st => need_small1 c.need_small (n + 4) p q st
  unfold shareD at *
  unfold fr at *
  cases hdo : (d == Str.ofString "over") <;> cases hg : great p q
  · have e : evSs (cfg P (callF P (n + 6)) st.length) (f_exact_done x).body (startD (f_exact_done x).n [.tup [.str (Str.ofString "share")], .str d, .tup [.int a, .int b], .tup [.int a', .int b']]) st = .rt (.tup [.int p, .int q]) st := by
      simp [lim0, lim1, lim2, lim3, lim4, lim5, lim6, lim7, lim8, lim9, lim10, lim11, evSs, evS, ev, evs, evb, evo, evc, startD, Out.bind, Out.thenS, Out.of, OutS.of, put, puts, view, binop, cfg, tru, allv, bltop, cmpop, idx, L2.atI, L2.ixN, f_exact_done, b_exact_done, ho, hdo, eqD, flat, isText, deq, bSR, bSW, w1, w2, hf, w3, hg]
    rw [e]
    exact endF_rt
  · have e : ∃ env, evSs (cfg P (callF P (n + 6)) st.length) (f_exact_done x).body (startD (f_exact_done x).n [.tup [.str (Str.ofString "share")], .str d, .tup [.int a, .int b], .tup [.int a', .int b']]) st = .exc 18 env st :=
      ⟨_, by simp [lim0, lim1, lim2, lim3, lim4, lim5, lim6, lim7, lim8, lim9, lim10, lim11, evSs, evS, ev, evs, evb, evo, evc, startD, Out.bind, Out.thenS, Out.of, OutS.of, put, puts, view, binop, cfg, tru, allv, bltop, cmpop, idx, L2.atI, L2.ixN, f_exact_done, b_exact_done, ho, hdo, eqD, flat, isText, deq, bSR, w1, w2, hf, w3, hg]; rfl⟩
    obtain ⟨env, e⟩ := e
    rw [e]
    exact endF_exc
  · have e : evSs (cfg P (callF P (n + 6)) st.length) (f_exact_done x).body (startD (f_exact_done x).n [.tup [.str (Str.ofString "share")], .str d, .tup [.int a, .int b], .tup [.int a', .int b']]) st = .rt (.tup [.int p, .int q]) st := by
      simp [lim0, lim1, lim2, lim3, lim4, lim5, lim6, lim7, lim8, lim9, lim10, lim11, evSs, evS, ev, evs, evb, evo, evc, startD, Out.bind, Out.thenS, Out.of, OutS.of, put, puts, view, binop, cfg, tru, allv, bltop, cmpop, idx, L2.atI, L2.ixN, f_exact_done, b_exact_done, ho, hdo, eqD, flat, isText, deq, bSR, bSW, w1, w2, hf, w3, hg]
    rw [e]
    exact endF_rt
  · have e : ∃ env, evSs (cfg P (callF P (n + 6)) st.length) (f_exact_done x).body (startD (f_exact_done x).n [.tup [.str (Str.ofString "share")], .str d, .tup [.int a, .int b], .tup [.int a', .int b']]) st = .exc 18 env st :=
      ⟨_, by simp [lim0, lim1, lim2, lim3, lim4, lim5, lim6, lim7, lim8, lim9, lim10, lim11, evSs, evS, ev, evs, evb, evo, evc, startD, Out.bind, Out.thenS, Out.of, OutS.of, put, puts, view, binop, cfg, tru, allv, bltop, cmpop, idx, L2.atI, L2.ixN, f_exact_done, b_exact_done, ho, hdo, eqD, flat, isText, deq, bSR, w1, w2, hf, w3, hg]; rfl⟩
    obtain ⟨env, e⟩ := e
    rw [e]
    exact endF_exc
theorem nought_s (c : C_exact_done P x) (n : Nat) (a b b' : Int) (st : Sto) (ho : ∀ st, callF P (n + 6) x._has_over [shareD] st = .ok (.bl true) st) : callF P (n + 7) x.exact_done [shareD, .str overS, fr a b, fr 0 b'] st = .exc 16 st := by
  rw [callF_fn c.self rfl]
  have w1 := fun st => as_share_share c._as_share (n + 5) a b st
  have w2 := fun st => as_share_share c._as_share (n + 5) 0 b' st
  have w3 := fun st => fd_nought c.fraction_deed (n + 1) a b b' st
  unfold shareD at *
  unfold fr at *
  unfold overS at *
  have e : ∃ env, evSs (cfg P (callF P (n + 6)) st.length) (f_exact_done x).body (startD (f_exact_done x).n [.tup [.str (Str.ofString "share")], .str (Str.ofString "over"), .tup [.int a, .int b], .tup [.int 0, .int b']]) st = .exc 16 env st :=
    ⟨_, by simp [lim0, lim1, lim2, lim3, lim4, lim5, lim6, lim7, lim8, lim9, lim10, lim11, evSs, evS, ev, evs, evb, evo, evc, startD, Out.bind, Out.thenS, Out.of, OutS.of, put, puts, view, binop, cfg, tru, allv, bltop, cmpop, idx, L2.atI, L2.ixN, f_exact_done, b_exact_done, ho, bOO, eqD, flat, isText, deq, bSR, w1, w2, w3]; rfl⟩
  obtain ⟨env, e⟩ := e
  rw [e]
  exact endF_exc
/-! .. behind the look at the kind, the worths and the deed -/
theorem deed_ok (c : C_exact_deed P x) (m : Nat) (k d o p y : D) (st : Sto) (hn : ∀ st, callF P m x.need_deed_of [k, words3, d, o, p] st = .ok .non st) (he : callF P m x.exact_done [k, d, o, p] st = .ok y st) : callF P (m + 1) x.exact_deed [k, d, o, p] st = endF false st.length (.rt y st) := by
  rw [callF_fn c.self rfl]
  unfold words3 at hn
  have e : evSs (cfg P (callF P m) st.length) (f_exact_deed x).body (startD (f_exact_deed x).n [k, d, o, p]) st = .rt y st := by
    simp [lim0, lim1, lim2, lim3, lim4, lim5, lim6, lim7, lim8, lim9, lim10, lim11, evSs, evS, ev, evs, evb, evo, evc, startD, Out.bind, Out.thenS, Out.of, OutS.of, put, puts, view, binop, cfg, tru, allv, bltop, cmpop, idx, L2.atI, L2.ixN, f_exact_deed, b_exact_deed, hn, he]
  rw [e]
  rfl
theorem deed_exc (c : C_exact_deed P x) (m : Nat) (k d o p : D) (q : Nat) (st : Sto) (hn : ∀ st, callF P m x.need_deed_of [k, words3, d, o, p] st = .ok .non st) (he : callF P m x.exact_done [k, d, o, p] st = .exc q st) : callF P (m + 1) x.exact_deed [k, d, o, p] st = .exc q st := by
  rw [callF_fn c.self rfl]
  unfold words3 at hn
  have e : ∃ env, evSs (cfg P (callF P m) st.length) (f_exact_deed x).body (startD (f_exact_deed x).n [k, d, o, p]) st = .exc q env st :=
    ⟨_, by simp [lim0, lim1, lim2, lim3, lim4, lim5, lim6, lim7, lim8, lim9, lim10, lim11, evSs, evS, ev, evs, evb, evo, evc, startD, Out.bind, Out.thenS, Out.of, OutS.of, put, puts, view, binop, cfg, tru, allv, bltop, cmpop, idx, L2.atI, L2.ixN, f_exact_deed, b_exact_deed, hn, he]; rfl⟩
  obtain ⟨env, e⟩ := e
  rw [e]
  exact endF_exc
theorem exact_done_w (c : C_exact_deed P x) (n : Nat) (a b p q : Int) (d : Str) (st : Sto) (hd : d ∈ [plusS, lessS, timesS]) (hn : ∀ st, callF P (n + 7) x.need_deed_of [wholeD, words3, .str d, .int a, .int b] st = .ok .non st)
    (hf : ∀ st, callF P (n + 6) x.fraction_deed [.str d, fr a 1, fr b 1] st = .ok (fr p q) st) : callF P (n + 8) x.exact_deed [wholeD, .str d, .int a, .int b] st = if great p q then .exc 18 st else .ok (.int p) st := by
  have w := done_w c.exact_done n a b p q d st hd hf
  cases hg : great p q with
  | true =>
    rw [hg] at w
    exact deed_exc c (n + 7) _ _ _ _ 18 st hn w
  | false =>
    rw [hg] at w
    rw [deed_ok c (n + 7) _ _ _ _ _ st hn w]
    exact endF_rt
theorem exact_done_s (c : C_exact_deed P x) (n : Nat) (a b a' b' p q : Int) (d : Str) (st : Sto) (hn : ∀ st, callF P (n + 7) x.need_deed_of [shareD, words3, .str d, fr a b, fr a' b'] st = .ok .non st) (ho : ∀ st, callF P (n + 6) x._has_over [shareD] st = .ok (.bl true) st)
    (hf : ∀ st, callF P (n + 6) x.fraction_deed [.str d, fr a b, fr a' b'] st = .ok (fr p q) st) : callF P (n + 8) x.exact_deed [shareD, .str d, fr a b, fr a' b'] st = if great p q then .exc 18 st else .ok (fr p q) st := by
  have w := done_s c.exact_done n a b a' b' p q d st ho hf
  cases hg : great p q with
  | true =>
    rw [hg] at w
    exact deed_exc c (n + 7) _ _ _ _ 18 st hn w
  | false =>
    rw [hg] at w
    rw [deed_ok c (n + 7) _ _ _ _ _ st hn w]
    exact endF_rt
theorem exact_nought_s (c : C_exact_deed P x) (n : Nat) (a b b' : Int) (st : Sto) (hn : ∀ st, callF P (n + 7) x.need_deed_of [shareD, words3, .str overS, fr a b, fr 0 b'] st = .ok .non st) (ho : ∀ st, callF P (n + 6) x._has_over [shareD] st = .ok (.bl true) st) : callF P (n + 8) x.exact_deed [shareD, .str overS, fr a b, fr 0 b'] st = .exc 16 st :=
  deed_exc c (n + 7) _ _ _ _ 16 st hn (nought_s c.exact_done n a b b' st ho)
end
end FA
namespace FA
open Itp PySem LT
/-- what a call tells that the lambda makes -/
def Told (P : Prog) (x : Ix) (k : Nat) (f : Sto → Out D) (r : D) : Prop := (∀ st, callA P (callF P k) x._law_said f st = .ok r st) ∧ Eqs r
def wordD (w : String) : D := .lst [.str (Str.ofString w)]
section
variable {P : Prog} {x : Ix}
theorem told_int (c : C__law_said P x) {k : Nat} {f : Sto → Out D} {v : Int} (h : ∀ st, f st = .ok (.int v) st) (hv : Sh v) : Told P x k f (.rep (.int v)) :=
  ⟨fun st => said_ok c k st f (.int v) (.int v) (h _) rfl (rep_int hv), eqs_rep rfl⟩
theorem told_fr (c : C__law_said P x) {k : Nat} {f : Sto → Out D} {a b : Int} (h : ∀ st, f st = .ok (fr a b) st) (ha : Sh a) (hb : Sh b) : Told P x k f (.rep (pfr a b)) :=
  ⟨fun st => said_ok c k st f (fr a b) (pfr a b) (h _) rfl (rep_fr ha hb), eqs_rep rfl⟩
theorem told_rt (c : C__law_said P x) {k : Nat} {f : Sto → Out D} {a b a' b' : Int} (h : ∀ st, f st = .ok (.tup [fr a b, fr a' b']) st) (ha : Sh a) (hb : Sh b) (ha' : Sh a') (hb' : Sh b') : Told P x k f (.rep (.tuple [pfr a b, pfr a' b'])) :=
  ⟨fun st => said_ok c k st f (.tup [fr a b, fr a' b']) (.tuple [pfr a b, pfr a' b']) (h _) rfl (rep_rt ha hb ha' hb'), eqs_rep rfl⟩
theorem told_exc (c : C__law_said P x) {k : Nat} {f : Sto → Out D} {n : Nat} {w : String} (h : ∀ st, f st = .exc n st) (S : SubOk P n) (hw : wordOf n = some w) : Told P x k f (wordD w) :=
  ⟨fun st => said_exc c k st f n w (h _) S hw, eqs_w w⟩
/-- not too great -/
theorem gr_sh {i : Int} (h : ¬ GR < ((i.natAbs : Nat) : Int)) : Sh i := by
  have e : GR < 2 ^ 1900 := by decide +kernel
  unfold Sh
  generalize GR = g at *
  omega
theorem great_no {a b : Int} (h : great a b = false) : ¬ GR < ((a.natAbs : Nat) : Int) ∧ ¬ GR < b := by
  unfold great at h
  simpa using h
theorem great_sh {a b : Int} (h : great a b = false) (hb : 0 < b) : Sh a ∧ Sh b := by
  obtain ⟨h1, h2⟩ := great_no h
  refine ⟨gr_sh h1, gr_sh ?_⟩
  generalize GR = g at *
  omega
def T60 : Int := 10 ^ 60
theorem T60_5 : T60 ^ 5 = GR := by decide +kernel
theorem p60 : powOk 10 60 = true := by decide +kernel
theorem p9 : powOk 10 9 = true := by decide +kernel
theorem p60_5 : powOk2 T60 5 = true := by decide +kernel
theorem T60_pos : 10 ≤ T60 := by decide +kernel
theorem T60_le : T60 ≤ GR := by decide +kernel
theorem GR_pos : 10 ^ 30 ≤ GR := by decide +kernel
/-- of the law's own size -/
abbrev Nm (i : Int) : Prop := ((i.natAbs : Nat) : Int) ≤ GR
theorem number (c : C__law_number P x) (n ce t : Nat) (st : Sto) (h : TK st ce t) (ht : t < 900000) : ∃ i st', callF P (n + 3) x._law_number [.obj ce] st = .ok (.int i) st' ∧ Nm i ∧ Up ce (t + 3) st st' := by
  rw [callF_fn c.self rfl]
  obtain ⟨w, st1, e1, w0, w1, U1⟩ := take c._law_take n ce t 7 st h (by omega) (by omega) (by omega)
  obtain ⟨m, st2, e2, m0, m1, U2⟩ := take c._law_take n ce (t + 1) (10 ^ 9) st1 U1.tk (by omega) (by omega) (by omega)
  obtain ⟨s, st3, e3, s0, s1, U3⟩ := take c._law_take n ce (t + 1 + 1) 2 st2 U2.tk (by omega) (by omega) (by omega)
  have q9 := p9
  have ms : mulOk 2 s = true := mulOk_l (by omega) (by omega)
  have g1 : evS (cfg P (callF P (n + 2)) st.length) ((b__law_number x).getD 0 .pass) (startD 6 [.obj ce]) st = .nx [some (.obj ce), some (.int w), some (.int m), some (.int (1 - 2 * s)), none, none] st3 := by
    have e2' : callF P (n + 2) x._law_take [.obj ce, .int 1000000000] st1 = .ok (.int m) st2 := e2
    simp [lim0, lim1, lim2, lim3, lim4, lim5, lim6, lim7, lim8, lim9, lim10, lim11, evSs, evS, ev, evs, evb, evo, evc, startD, Out.bind, Out.thenS, Out.of, OutS.of, put, puts, view, binop, cfg, tru, allv, bltop, cmpop, idx, L2.atI, L2.ixN, b__law_number, e1, e2', e3, q9, ms]
  have q60 := p60
  have q605 := p60_5
  have g2 : evS (cfg P (callF P (n + 2)) st.length) ((b__law_number x).getD 1 .pass) [some (.obj ce), some (.int w), some (.int m), some (.int (1 - 2 * s)), none, none] st3 = .nx [some (.obj ce), some (.int w), some (.int m), some (.int (1 - 2 * s)), some (.int T60), none] st3 := rfl
  have mm : mulOk m m = true := mulOk_l (by omega) (by omega)
  have mmm : mulOk (m * m) m = true := mulOk_r (by omega) (by omega)
  have dm : divOk (1 + m) = true := divOk_of (k := 40) (by omega) (by omega) (by omega)
  have hp := T60_pos
  have hle := T60_le
  have hgr := GR_pos
  have h5 := T60_5
  generalize T60 = T at *
  have g3 : evS (cfg P (callF P (n + 2)) st.length) ((b__law_number x).getD 2 .pass) [some (.obj ce), some (.int w), some (.int m), some (.int (1 - 2 * s)), some (.int T), none] st3 = .nx [some (.obj ce), some (.int w), some (.int m), some (.int (1 - 2 * s)), some (.int T), some (.lst [.int (m.fmod 5), .int (m.fmod 60), .int m, .int (m * m * m), .int (T - m.fmod 3), .int (T.fdiv (1 + m)), .int (GR - m.fmod 3)])] st3 := by
    simp [lim0, lim1, lim2, lim3, lim4, lim5, lim6, lim7, lim8, lim9, lim10, lim11, evSs, evS, ev, evs, evb, evo, evc, startD, Out.bind, Out.thenS, Out.of, OutS.of, put, puts, view, binop, cfg, tru, allv, bltop, cmpop, idx, L2.atI, L2.ixN, b__law_number, mm, mmm, dm, q605, h5]
  have f3 := fmod_nn m (m := 3) (by omega)
  have f3' := fmod_lt m (m := 3) (by omega)
  have f5 := fmod_nn m (m := 5) (by omega)
  have f5' := fmod_lt m (m := 5) (by omega)
  have f60 := fmod_nn m (m := 60) (by omega)
  have f60' := fmod_lt m (m := 60) (by omega)
  have hm2 : m * m ≤ 10 ^ 9 * 10 ^ 9 := Int.mul_le_mul (by omega) (by omega) m0 (by omega)
  have hm20 : 0 ≤ m * m := Int.mul_nonneg m0 m0
  have hm3 : m * m * m ≤ (10 ^ 9 * 10 ^ 9) * 10 ^ 9 := Int.mul_le_mul hm2 (by omega) m0 (by omega)
  have hm30 : 0 ≤ m * m * m := Int.mul_nonneg hm20 m0
  have hd0 : 0 ≤ T.fdiv (1 + m) := by
    rw [Int.fdiv_eq_ediv_of_nonneg _ (by omega)]
    exact Int.ediv_nonneg (by omega) (by omega)
  have hd1 : T.fdiv (1 + m) ≤ T := by
    rw [Int.fdiv_eq_ediv_of_nonneg _ (by omega)]
    exact Int.ediv_le_self _ (by omega)
  obtain ⟨v, hv, hvn⟩ : ∃ v : Int, L2.atI [D.int (m.fmod 5), .int (m.fmod 60), .int m, .int (m * m * m), .int (T - m.fmod 3), .int (T.fdiv (1 + m)), .int (GR - m.fmod 3)] w = some (.int v) ∧ 0 ≤ v ∧ v ≤ GR := by
    generalize GR = G at *
    have : w = 0 ∨ w = 1 ∨ w = 2 ∨ w = 3 ∨ w = 4 ∨ w = 5 ∨ w = 6 := by omega
    rcases this with rfl | rfl | rfl | rfl | rfl | rfl | rfl
    · exact ⟨_, rfl, by omega, by omega⟩
    · exact ⟨_, rfl, by omega, by omega⟩
    · exact ⟨_, rfl, by omega, by omega⟩
    · exact ⟨_, rfl, by omega, by omega⟩
    · exact ⟨_, rfl, by omega, by omega⟩
    · exact ⟨_, rfl, by omega, by omega⟩
    · exact ⟨_, rfl, by omega, by omega⟩
  have mv : mulOk (1 - 2 * s) v = true := mulOk_l (by omega) (by omega)
  have g4 : evS (cfg P (callF P (n + 2)) st.length) ((b__law_number x).getD 3 .pass) [some (.obj ce), some (.int w), some (.int m), some (.int (1 - 2 * s)), some (.int T), some (.lst [.int (m.fmod 5), .int (m.fmod 60), .int m, .int (m * m * m), .int (T - m.fmod 3), .int (T.fdiv (1 + m)), .int (GR - m.fmod 3)])] st3 = .rt (.int ((1 - 2 * s) * v)) st3 := by
    have e : ∀ l : List D, idx (.lst l) (.int w) = L2.atI l w := fun _ => rfl
    simp only [b__law_number, List.getD_cons_succ, List.getD_cons_zero, evS, ev, Out.bind]
    simp only [List.getElem?_cons_succ, List.getElem?_cons_zero, view, e, hv, Out.of, binop, mv, if_true, Out.thenS]
  refine ⟨(1 - 2 * s) * v, st3, ?_, ?_, (U1.trans U2).trans U3⟩
  · have hb : (f__law_number x).body = [(b__law_number x).getD 0 .pass, (b__law_number x).getD 1 .pass, (b__law_number x).getD 2 .pass, (b__law_number x).getD 3 .pass] := rfl
    have e : evSs (cfg P (callF P (n + 2)) st.length) (f__law_number x).body (startD (f__law_number x).n [.obj ce]) st = .rt (.int ((1 - 2 * s) * v)) st3 := by
      rw [hb]
      exact (nx_cons g1).trans ((nx_cons g2).trans ((nx_cons g3).trans (rt_cons g4)))
    rw [e]
    exact endF_same (by rw [U3.len, U2.len, U1.len])
  · have : s = 0 ∨ s = 1 := by omega
    unfold Nm
    generalize GR = G at *
    rcases this with rfl | rfl
    · rw [show (1 - 2 * 0 : Int) = 1 by omega, Int.one_mul]
      omega
    · rw [show (1 - 2 * 1 : Int) = -1 by omega, Int.neg_mul, Int.one_mul]
      omega
end
end FA
namespace FA
open Itp PySem LT
section
variable {P : Prog} {x : Ix}
def cmpI (l r : Int) : Int := if l < r then -1 else if r < l then 1 else 0
theorem compared (c : C_compared P x) (n : Nat) (a b a' b' : Int) (st : Sto) (h1 : Big a) (h2 : Big b) (h3 : Big a') (h4 : Big b') : callF P (n + 1) x.compared [fr a b, fr a' b'] st = .ok (.int (cmpI (a * b') (a' * b))) st := by
  rw [callF_fn c.self rfl]
  have m1 := bigs h1 h4
  have m2 := bigs h3 h2
  unfold fr at *
  have e : evSs (cfg P (callF P n) st.length) (f_compared x).body (startD (f_compared x).n [.tup [.int a, .int b], .tup [.int a', .int b']]) st = .rt (.int (cmpI (a * b') (a' * b))) st := by
    unfold cmpI
    by_cases h : a * b' < a' * b
    · simp [lim0, lim1, lim2, lim3, lim4, lim5, lim6, lim7, lim8, lim9, lim10, lim11, evSs, evS, ev, evs, evb, evo, evc, startD, Out.bind, Out.thenS, Out.of, OutS.of, put, puts, view, binop, cfg, tru, allv, bltop, cmpop, idx, L2.atI, L2.ixN, f_compared, b_compared, m1, m2, h]
    · by_cases h' : a' * b < a * b'
      · simp [lim0, lim1, lim2, lim3, lim4, lim5, lim6, lim7, lim8, lim9, lim10, lim11, evSs, evS, ev, evs, evb, evo, evc, startD, Out.bind, Out.thenS, Out.of, OutS.of, put, puts, view, binop, cfg, tru, allv, bltop, cmpop, idx, L2.atI, L2.ixN, f_compared, b_compared, m1, m2, h, h']
      · simp [lim0, lim1, lim2, lim3, lim4, lim5, lim6, lim7, lim8, lim9, lim10, lim11, evSs, evS, ev, evs, evb, evo, evc, startD, Out.bind, Out.thenS, Out.of, OutS.of, put, puts, view, binop, cfg, tru, allv, bltop, cmpop, idx, L2.atI, L2.ixN, f_compared, b_compared, m1, m2, h, h']
  rw [e]
  exact endF_rt
def words2 : D := .tup [.str (Str.ofString "whole"), .str (Str.ofString "share")]
theorem cmp_w (c : C_exact_compared P x) (n : Nat) (a b : Int) (st : Sto) (h1 : Big a) (h2 : Big b) : callF P (n + 2) x.exact_compared [wholeD, .int a, .int b] st = .ok (.int (cmpI a b)) st := by
  rw [callF_fn c.self rfl]
  have b1 : Big 1 := by decide
  have w1 := fun st => as_share_whole c._as_share n a st
  have w2 := fun st => as_share_whole c._as_share n b st
  have w3 := compared c.compared n a 1 b 1 st h1 b1 h2 b1
  rw [Int.mul_one, Int.mul_one] at w3
  unfold wholeD fr at *
  have e : evSs (cfg P (callF P (n + 1)) st.length) (f_exact_compared x).body (startD (f_exact_compared x).n [.tup [.str (Str.ofString "whole")], .int a, .int b]) st = .rt (.int (cmpI a b)) st := by
    simp [lim0, lim1, lim2, lim3, lim4, lim5, lim6, lim7, lim8, lim9, lim10, lim11, evSs, evS, ev, evs, evb, evo, evc, startD, Out.bind, Out.thenS, Out.of, OutS.of, put, puts, view, binop, cfg, tru, allv, bltop, cmpop, idx, L2.atI, L2.ixN, f_exact_compared, b_exact_compared, w1, w2, w3]
  rw [e]
  exact endF_rt
theorem cmp_s (c : C_exact_compared P x) (n : Nat) (a b a' b' : Int) (st : Sto) (h1 : Big a) (h2 : Big b) (h3 : Big a') (h4 : Big b') : callF P (n + 2) x.exact_compared [shareD, fr a b, fr a' b'] st = .ok (.int (cmpI (a * b') (a' * b))) st := by
  rw [callF_fn c.self rfl]
  have w1 := fun st => as_share_share c._as_share n a b st
  have w2 := fun st => as_share_share c._as_share n a' b' st
  have w3 := compared c.compared n a b a' b' st h1 h2 h3 h4
  unfold shareD fr at *
  have e : evSs (cfg P (callF P (n + 1)) st.length) (f_exact_compared x).body (startD (f_exact_compared x).n [.tup [.str (Str.ofString "share")], .tup [.int a, .int b], .tup [.int a', .int b']]) st = .rt (.int (cmpI (a * b') (a' * b))) st := by
    simp [lim0, lim1, lim2, lim3, lim4, lim5, lim6, lim7, lim8, lim9, lim10, lim11, evSs, evS, ev, evs, evb, evo, evc, startD, Out.bind, Out.thenS, Out.of, OutS.of, put, puts, view, binop, cfg, tru, allv, bltop, cmpop, idx, L2.atI, L2.ixN, f_exact_compared, b_exact_compared, w1, w2, w3]
  rw [e]
  exact endF_rt
theorem order_of (c : C_exact_order P x) (m : Nat) (k o p : D) (y : Int) (st : Sto) (hn : ∀ st, callF P m x.need_worths_of [k, words2, o, p] st = .ok .non st) (he : callF P m x.exact_compared [k, o, p] st = .ok (.int y) st) : callF P (m + 1) x.exact_order [k, o, p] st = .ok (.int y) st := by
  rw [callF_fn c.self rfl]
  unfold words2 at hn
  have e : evSs (cfg P (callF P m) st.length) (f_exact_order x).body (startD (f_exact_order x).n [k, o, p]) st = .rt (.int y) st := by
    simp [lim0, lim1, lim2, lim3, lim4, lim5, lim6, lim7, lim8, lim9, lim10, lim11, evSs, evS, ev, evs, evb, evo, evc, startD, Out.bind, Out.thenS, Out.of, OutS.of, put, puts, view, binop, cfg, tru, allv, bltop, cmpop, idx, L2.atI, L2.ixN, f_exact_order, b_exact_order, hn, he]
  rw [e]
  exact endF_rt
theorem order_w (c : C_exact_order P x) (n : Nat) (a b : Int) (st : Sto) (hn : ∀ st, callF P (n + 2) x.need_worths_of [wholeD, words2, .int a, .int b] st = .ok .non st) (h1 : Big a) (h2 : Big b) : callF P (n + 3) x.exact_order [wholeD, .int a, .int b] st = .ok (.int (cmpI a b)) st :=
  order_of c (n + 2) _ _ _ _ st hn (cmp_w c.exact_compared n a b st h1 h2)
theorem order_s (c : C_exact_order P x) (n : Nat) (a b a' b' : Int) (st : Sto) (hn : ∀ st, callF P (n + 2) x.need_worths_of [shareD, words2, fr a b, fr a' b'] st = .ok .non st) (h1 : Big a) (h2 : Big b) (h3 : Big a') (h4 : Big b') : callF P (n + 3) x.exact_order [shareD, fr a b, fr a' b'] st = .ok (.int (cmpI (a * b') (a' * b))) st :=
  order_of c (n + 2) _ _ _ _ st hn (cmp_s c.exact_compared n a b a' b' st h1 h2 h3 h4)
/-- the four deeds, from any of them on, the first one once more -/
def deedS : List Str := [plusS, lessS, timesS, overS]
def turnE (d s : Nat) : E := .bin .add (.bin .add (.slc (.var d) [(.var s)] []) (.slc (.var d) [] [(.var s)])) (.lst false [(.ix (.var d) (.var s))])
theorem turned (C : Cfg) (d s : Nat) (env : Itp.Env) (v : Int) (h0 : 0 ≤ v) (h1 : v < 4) (hd : env[d]? = some (some (.lst (deedS.map D.str)))) (hs : env[s]? = some (some (.int v))) : ∃ ds : List Str, (∀ q ∈ ds, q ∈ deedS) ∧ ∀ st, ev C (turnE d s) env st = .ok (.lst (ds.map D.str)) st := by
  have hv : v = 0 ∨ v = 1 ∨ v = 2 ∨ v = 3 := by omega
  rcases hv with rfl | rfl | rfl | rfl
  · exact ⟨[plusS, lessS, timesS, overS, plusS], by simp [deedS], fun st => by simp only [turnE, ev, evs, evo, hd, hs, Out.bind, view]; kernel_rfl⟩
  · exact ⟨[lessS, timesS, overS, plusS, lessS], by simp [deedS], fun st => by simp only [turnE, ev, evs, evo, hd, hs, Out.bind, view]; kernel_rfl⟩
  · exact ⟨[timesS, overS, plusS, lessS, timesS], by simp [deedS], fun st => by simp only [turnE, ev, evs, evo, hd, hs, Out.bind, view]; kernel_rfl⟩
  · exact ⟨[overS, plusS, lessS, timesS, overS], by simp [deedS], fun st => by simp only [turnE, ev, evs, evo, hd, hs, Out.bind, view]; kernel_rfl⟩
theorem ev_cmp {C : Cfg} {c : Cmp} {a b : E} {env : Itp.Env} {st st1 st2 : Sto} {u v : D} {r : Bool} (ha : ev C a env st = .ok u st1) (hb : ev C b env st1 = .ok v st2) (h : cmpop c (view st2 u) (view st2 v) = some r) : ev C (.cmp c a b) env st = .ok (.bl r) st2 := by
  simp only [ev, ha, Out.bind, hb, h, Option.map_some, Out.of]
theorem ev_ite {C : Cfg} {c a b : E} {env : Itp.Env} {st st1 : Sto} {k : Bool} (hc : ev C c env st = .ok (.bl k) st1) : ev C (.ite c a b) env st = if k then ev C a env st1 else ev C b env st1 := by
  simp only [ev, hc, Out.bind, view, tru]
  cases k <;> rfl
theorem ev_bin {C : Cfg} {o : Bop} {a b : E} {env : Itp.Env} {st st1 st2 : Sto} {u v r : D} (ha : ev C a env st = .ok u st1) (hb : ev C b env st1 = .ok v st2) (h : binop o (view st2 u) (view st2 v) = some r) : ev C (.bin o a b) env st = .ok r st2 := by
  simp only [ev, ha, Out.bind, hb, h, Out.of]
theorem evS_ret {C : Cfg} {e : E} {env : Itp.Env} {st st1 : Sto} {d : D} (h : ev C e env st = .ok d st1) : evS C (.ret e) env st = .rt d st1 := by
  simp only [evS, h, Out.thenS]
theorem evS_set {C : Cfg} {e : E} {i : Nat} {env : Itp.Env} {st st1 : Sto} {d : D} (h : ev C e env st = .ok d st1) (hi : i < env.length) : evS C (.set i e) env st = .nx (env.set i (some d)) st1 := by
  simp only [evS, h, Out.thenS, put, hi, if_true, OutS.of]
theorem evS_if {C : Cfg} {c : E} {a b : List S} {env : Itp.Env} {st st1 : Sto} {k : Bool} (hc : ev C c env st = .ok (.bl k) st1) : evS C (.ifs c a b) env st = if k then evSs C a env st1 else evSs C b env st1 := by
  simp only [evS, hc, Out.thenS, view, tru]
  cases k <;> rfl
theorem ev_not {C : Cfg} {c : E} {env : Itp.Env} {st st1 : Sto} {k : Bool} (hc : ev C c env st = .ok (.bl k) st1) : ev C (.not c) env st = .ok (.bl (!k)) st1 := by
  simp only [ev, hc, Out.bind, view, tru, Option.map_some, Out.of]
/-- a lambda that calls one def -/
theorem callL_told {k i : Nat} {b : Sto} {es : List E} {env : Itp.Env} {st : Sto} {args : List D} {r : D} (he : ∀ s, evs (cfg P (callF P k) b.length) es env s = .ok args s) (T : Told P x k (fun s => callF P k i args s) r) : ev (cfg P (callF P k) b.length) (.callL x._law_said (.call i es)) env st = .ok r st := by
  have e : (fun s => ev (cfg P (callF P k) b.length) (.call i es) env s) = fun s => callF P k i args s := by
    funext s
    simp only [ev, he, Out.bind]
    rfl
  have g : ev (cfg P (callF P k) b.length) (.callL x._law_said (.call i es)) env st = callA P (callF P k) x._law_said (fun s => ev (cfg P (callF P k) b.length) (.call i es) env s) st := by simp only [ev]; rfl
  rw [g, e, T.1]
theorem ne_told {C : Cfg} {e1 e2 : E} {env : Itp.Env} {st : Sto} {r : D} (h1 : ev C e1 env st = .ok r st) (h2 : ev C e2 env st = .ok r st) (q : Eqs r) : ev C (.cmp .ne e1 e2) env st = .ok (.bl false) st := by
  have hv : view st r = r := by
    have := q.ob
    cases r <;> first | rfl | (simp [isO] at this)
  simp only [ev, h1, h2, Out.bind, hv, cmpop, q.eqD]
  rfl
end
end FA
namespace FA
open Itp PySem LT
theorem half_mod {a b : Nat} (hb : 0 < b) (h : b ≤ a) : 2 * (a % b) < a := by
  have h1 := Nat.mod_lt a hb
  have h2 : a % b + b ≤ a := by
    have h3 := Nat.div_add_mod a b
    have h4 : 1 ≤ a / b := (Nat.one_le_div_iff hb).mpr h
    have h5 : b * 1 ≤ b * (a / b) := Nat.mul_le_mul_left b h4
    omega
  omega
def cT : E := .cmp .gt (.var 3) (.lit (.int 0))
def cB : List S := [.par [2, 3] [(.var 3), (.bin .mod (.var 2) (.var 3))]]
theorem tstT (C : Cfg) (x0 x1 x4 : Option D) (a b : Nat) (st : Sto) : tst (ev C cT) [x0, x1, some (.int a), some (.int b), x4] st = .ok (decide (0 < b)) st := by
  have : decide ((0 : Int) < (b : Int)) = decide (0 < b) := by
    apply decide_eq_decide.mpr
    omega
  simp [tst, cT, ev, Out.bind, Out.of, view, cmpop, tru]
theorem stp (C : Cfg) (x0 x1 x4 : Option D) (a b : Nat) (st : Sto) (h : 0 < b) : evSs C cB [x0, x1, some (.int a), some (.int b), x4] st = .nx [x0, x1, some (.int b), some (.int (a % b : Nat)), x4] st := by
  have e : ((a : Int).fmod b) = ((a % b : Nat) : Int) := by
    rw [Int.fmod_eq_emod_of_nonneg _ (by omega)]
    rfl
  have h0 : b ≠ 0 := by omega
  simp [lim0, lim1, lim2, lim3, lim4, lim5, lim6, lim7, lim8, lim9, lim10, lim11, evSs, evS, ev, evs, evb, evo, evc, startD, Out.bind, Out.thenS, Out.of, OutS.of, put, puts, view, binop, cfg, tru, allv, bltop, cmpop, idx, L2.atI, L2.ixN, cB, h0, e]
theorem loop1 (C : Cfg) (x0 x1 x4 : Option D) (st : Sto) : ∀ (k fuel a b : Nat), b ≤ a → a * b < 2 ^ k → k < fuel → whlD (tst (ev C cT)) (evSs C cB) fuel [x0, x1, some (.int a), some (.int b), x4] st = .nx [x0, x1, some (.int (Nat.gcd a b : Nat)), some (.int (0 : Nat)), x4] st
  | _, 0, _, _, _, _, h => absurd h (Nat.not_lt_zero _)
  | k, fuel + 1, a, b, hab, h, hf => by
    by_cases h0 : b = 0
    · subst h0
      rw [whlD, tstT]
      simp
    · have hb : 0 < b := by omega
      rw [whlD, tstT, decide_eq_true hb]
      simp only
      rw [stp C x0 x1 x4 a b st hb]
      simp only
      match k, h, hf with
      | 0, h, _ =>
        have : 1 ≤ a * b := Nat.mul_pos (by omega) hb
        simp at h
        omega
      | k + 1, h, hf =>
        have hm := half_mod hb hab
        have lt : b * (a % b) < 2 ^ k := by
          have : 2 * (a % b) * b < a * b := Nat.mul_lt_mul_of_pos_right hm hb
          rw [Nat.pow_succ] at h
          have e : 2 * (a % b) * b = 2 * (b * (a % b)) := by grind
          omega
        rw [loop1 C x0 x1 x4 st k fuel b (a % b) (Nat.le_of_lt (Nat.mod_lt _ hb)) lt (by omega)]
        rw [Nat.gcd_comm a b, Nat.gcd_rec b a, Nat.gcd_comm (a % b) b]
theorem loop2 (C : Cfg) (x0 x1 x4 : Option D) (st : Sto) (k fuel a b : Nat) (h : a * b < 2 ^ k) (hf : k + 1 < fuel) : whlD (tst (ev C cT)) (evSs C cB) fuel [x0, x1, some (.int a), some (.int b), x4] st = .nx [x0, x1, some (.int (Nat.gcd a b : Nat)), some (.int (0 : Nat)), x4] st := by
  by_cases hab : b ≤ a
  · exact loop1 C x0 x1 x4 st k fuel a b hab h (by omega)
  · match fuel, hf with
    | fuel + 1, hf =>
      have hb : 0 < b := by omega
      rw [whlD, tstT, decide_eq_true hb]
      simp only
      rw [stp C x0 x1 x4 a b st hb]
      simp only
      rw [Nat.mod_eq_of_lt (by omega : a < b)]
      rw [loop1 C x0 x1 x4 st k fuel b a (by omega) (by rw [Nat.mul_comm]; exact h) (by omega), Nat.gcd_comm]
section
variable {P : Prog} {x : Ix}
theorem shortest (c : C__law_shortest P x) (hfu : P.fuel = 5000) (n : Nat) (a b : Int) (st : Sto) (h : b ≠ 0) (ha : Big a) (hb : Big b) : callF P (n + 1) x._law_shortest [.int a, .int b] st = .ok (low a b) st := by
  rw [callF_fn c.self rfl]
  have ab : ∀ i : Int, (if i < 0 then -i else i) = ((i.natAbs : Nat) : Int) := fun i => by split <;> omega
  have s1 : evS (cfg P (callF P n) st.length) ((b__law_shortest x).getD 0 .pass) (startD 5 [.int a, .int b]) st = .nx [some (.int a), some (.int b), some (.int (a.natAbs : Nat)), some (.int (b.natAbs : Nat)), none] st := by
    simp [lim0, lim1, lim2, lim3, lim4, lim5, lim6, lim7, lim8, lim9, lim10, lim11, evSs, evS, ev, evs, evb, evo, evc, startD, Out.bind, Out.thenS, Out.of, OutS.of, put, puts, view, binop, cfg, tru, allv, bltop, cmpop, idx, L2.atI, L2.ixN, b__law_shortest, bAbs, ab]
  have hp : a.natAbs * b.natAbs < 2 ^ (2100 + 2100) := by
    rw [Nat.pow_add]
    exact Nat.mul_lt_mul'' ha hb
  have s2 : evS (cfg P (callF P n) st.length) (.whl cT cB) [some (.int a), some (.int b), some (.int (a.natAbs : Nat)), some (.int (b.natAbs : Nat)), none] st = .nx [some (.int a), some (.int b), some (.int (Nat.gcd a.natAbs b.natAbs : Nat)), some (.int (0 : Nat)), none] st := by
    have := loop2 (cfg P (callF P n) st.length) (some (.int a)) (some (.int b)) none st 4200 5000 a.natAbs b.natAbs hp (by omega)
    rw [← hfu] at this
    exact this
  have g0 : 0 < Nat.gcd a.natAbs b.natAbs := Nat.gcd_pos_of_pos_right _ (by omega)
  have dg : divOk ((Nat.gcd a.natAbs b.natAbs : Nat) : Int) = true := divOk_of (k := 2100) (by omega) (by
    rw [Int.natAbs_natCast]
    exact Nat.lt_of_le_of_lt (Nat.gcd_le_right _ (by omega)) hb) (by omega)
  have da := gS_dl a b
  have db := gS_dr a b
  have e1 := lnum_mul (a := a) h
  have e2 := lden_mul (a := a) h
  have fin : ∀ s : Int, (s = 1 ∧ 0 < b) ∨ (s = -1 ∧ b < 0) → (s * a).fdiv ((Nat.gcd a.natAbs b.natAbs : Nat) : Int) = lnum a b ∧ (s * b).fdiv ((Nat.gcd a.natAbs b.natAbs : Nat) : Int) = lden a b := by
    intro s hs
    have eg : gS a b = s * ((Nat.gcd a.natAbs b.natAbs : Nat) : Int) := by
      unfold gS
      rcases hs with ⟨rfl, hb⟩ | ⟨rfl, hb⟩
      · rw [if_neg (by omega)]; omega
      · rw [if_pos (by omega)]; omega
    have ss : s * s = 1 := by rcases hs with ⟨rfl, _⟩ | ⟨rfl, _⟩ <;> rfl
    have gn0 : ((Nat.gcd a.natAbs b.natAbs : Nat) : Int) ≠ 0 := by omega
    clear dg da db g0
    generalize ((Nat.gcd a.natAbs b.natAbs : Nat) : Int) = g at *
    generalize lnum a b = p at *
    generalize lden a b = q at *
    rw [eg] at e1 e2
    refine ⟨fdiv_q gn0 ?_, fdiv_q gn0 ?_⟩
    · rw [e1]
      have : s * (s * g * p) = (s * s) * (g * p) := by ac_rfl
      rw [this, ss, Int.one_mul]
    · rw [e2]
      have : s * (s * g * q) = (s * s) * (g * q) := by ac_rfl
      rw [this, ss, Int.one_mul]
  have m1 : ∀ y : Int, mulOk 1 y = true := fun y => mulOk_l (by omega) (by omega)
  have m2 : ∀ y : Int, mulOk (-1) y = true := fun y => mulOk_l (by omega) (by omega)
  have e : evSs (cfg P (callF P n) st.length) (f__law_shortest x).body (startD (f__law_shortest x).n [.int a, .int b]) st = .rt (low a b) st := by
    show evSs (cfg P (callF P n) st.length) [(b__law_shortest x).getD 0 .pass, .whl cT cB, (b__law_shortest x).getD 2 .pass, (b__law_shortest x).getD 3 .pass] (startD 5 [.int a, .int b]) st = _
    rw [nx_cons s1, nx_cons s2]
    by_cases hp : 0 < b
    · obtain ⟨f1, f2⟩ := fin 1 (.inl ⟨rfl, hp⟩)
      generalize Nat.gcd a.natAbs b.natAbs = g at *
      simp only [Int.one_mul] at f1 f2
      simp [lim0, lim1, lim2, lim3, lim4, lim5, lim6, lim7, lim8, lim9, lim10, lim11, evSs, evS, ev, evs, evb, evo, evc, startD, Out.bind, Out.thenS, Out.of, OutS.of, put, puts, view, binop, cfg, tru, allv, bltop, cmpop, idx, L2.atI, L2.ixN, b__law_shortest, hp, m1, dg, f1, f2, low, fr]
    · obtain ⟨f1, f2⟩ := fin (-1) (.inr ⟨rfl, by omega⟩)
      generalize Nat.gcd a.natAbs b.natAbs = g at *
      simp only [Int.neg_mul, Int.one_mul] at f1 f2
      simp [lim0, lim1, lim2, lim3, lim4, lim5, lim6, lim7, lim8, lim9, lim10, lim11, evSs, evS, ev, evs, evb, evo, evc, startD, Out.bind, Out.thenS, Out.of, OutS.of, put, puts, view, binop, cfg, tru, allv, bltop, cmpop, idx, L2.atI, L2.ixN, b__law_shortest, hp, m2, dg, f1, f2, low, fr]
  rw [e]
  exact endF_rt
/-- a FRACTION -/
structure Fr (a b : Int) : Prop where
  pos : 0 < b
  cop : Nat.gcd a.natAbs b.natAbs = 1
theorem low_fr {a b : Int} (h : b ≠ 0) : Fr (lnum a b) (lden a b) := ⟨lden_pos h, low_gcd h⟩
theorem is_fraction (c : C_is_fraction P x) (n : Nat) (a b : Int) (st : Sto) (F : Fr a b) : callF P (n + 2) x.is_fraction [fr a b] st = .ok (.bl true) st := by
  rw [callF_fn c.self rfl]
  have w1 := is_whole c.is_whole n a
  have w2 := is_whole c.is_whole n b
  have h1 : (1 : Int) ≤ b := F.pos
  have hg : ((a.natAbs.gcd b.natAbs : Nat) : Int) = 1 := by rw [F.cop]; rfl
  have q1 : ∀ i j : Int, eqD (.int i) (.int j) = some (i == j) := fun i j => rfl
  generalize hC : cfg P (callF P (n + 1)) st.length = C
  have g : ∀ s, C.call x.is_whole [.int a] s = .ok (.bl true) s := fun s => by rw [← hC]; exact w1 s
  have g2 : ∀ s, C.call x.is_whole [.int b] s = .ok (.bl true) s := fun s => by rw [← hC]; exact w2 s
  have s1 : evS C ((b_is_fraction x).getD 0 .pass) [some (fr a b), none, none] st = .nx [some (fr a b), none, none] st := by
    simp [lim0, lim1, lim2, lim3, lim4, lim5, lim6, lim7, lim8, lim9, lim10, lim11, evSs, evS, ev, evs, evb, evo, evc, startD, Out.bind, Out.thenS, Out.of, OutS.of, put, puts, view, binop, cfg, tru, allv, bltop, cmpop, idx, L2.atI, L2.ixN, b_is_fraction, fr, bIsi, isI, tyNm, tyIs, Ty.nm, bLen, q1]
  have s2 : evS C ((b_is_fraction x).getD 1 .pass) [some (fr a b), none, none] st = .nx [some (fr a b), some (.int a), some (.int b)] st := by
    simp [lim0, lim1, lim2, lim3, lim4, lim5, lim6, lim7, lim8, lim9, lim10, lim11, evSs, evS, ev, evs, evb, evo, evc, startD, Out.bind, Out.thenS, Out.of, OutS.of, put, puts, view, binop, cfg, tru, allv, bltop, cmpop, idx, L2.atI, L2.ixN, b_is_fraction, fr, bnd, bnd.bnds]
  have s3 : evS C ((b_is_fraction x).getD 2 .pass) [some (fr a b), some (.int a), some (.int b)] st = .rt (.bl true) st := by
    simp [lim0, lim1, lim2, lim3, lim4, lim5, lim6, lim7, lim8, lim9, lim10, lim11, evSs, evS, ev, evs, evb, evo, evc, startD, Out.bind, Out.thenS, Out.of, OutS.of, put, puts, view, binop, cfg, tru, allv, bltop, cmpop, idx, L2.atI, L2.ixN, b_is_fraction, g, g2, h1, bGcd, hg, q1, F.cop]
  have e : evSs C (f_is_fraction x).body (startD (f_is_fraction x).n [fr a b]) st = .rt (.bl true) st := by
    show evSs C [(b_is_fraction x).getD 0 .pass, (b_is_fraction x).getD 1 .pass, (b_is_fraction x).getD 2 .pass] [some (fr a b), none, none] st = _
    rw [nx_cons s1, nx_cons s2]
    simp only [evSs, s3]
  rw [e]
  exact endF_rt
theorem worth_share (c : C_need_among_worths P x) (hF : P.glob x.FINITE = some (.tup [.str (Str.ofString "rest"), .str (Str.ofString "own")])) (n : Nat) (a b : Int) (st : Sto) (F : Fr a b) : callF P (n + 4) x.need_among_worths [shareD, fr a b] st = .ok .non st := by
  have hI : isin (.str (Str.ofString "share")) (.tup [.str (Str.ofString "rest"), .str (Str.ofString "own")]) = some false := by decide +kernel
  have hv : eqD (.str (Str.ofString "share")) (.str (Str.ofString "share")) = some true := by decide +kernel
  have hv2 : eqD (.str (Str.ofString "share")) (.str (Str.ofString "whole")) = some false := by decide +kernel
  have hw : ∀ st, callF P (n + 3) x.has_worth [shareD, fr a b] st = .ok (.bl true) st := fun st => by
    rw [callF_fn c.has_worth.self rfl]
    have w := fun st => is_fraction c.has_worth.is_fraction n a b st F
    generalize hC : cfg P (callF P (n + 2)) st.length = C
    have g : ∀ s, C.call x.is_fraction [fr a b] s = .ok (.bl true) s := fun s => by rw [← hC]; exact w s
    have gF : C.glob x.FINITE = some (.tup [.str (Str.ofString "rest"), .str (Str.ofString "own")]) := by rw [← hC]; exact hF
    generalize hf : fr a b = f at *
    have e : evSs C (f_has_worth x).body (startD (f_has_worth x).n [shareD, f]) st = .rt (.bl true) st := by
      simp [lim0, lim1, lim2, lim3, lim4, lim5, lim6, lim7, lim8, lim9, lim10, lim11, evSs, evS, ev, evs, evb, evo, evc, startD, Out.bind, Out.thenS, Out.of, OutS.of, put, puts, view, binop, cfg, tru, allv, bltop, cmpop, idx, L2.atI, L2.ixN, f_has_worth, b_has_worth, shareD, gF, hI, hv, hv2, g]
    rw [e]
    exact endF_rt
  rw [callF_fn c.self rfl]
  have e : evSs (cfg P (callF P (n + 3)) st.length) (f_need_among_worths x).body (startD (f_need_among_worths x).n [shareD, fr a b]) st = .nx [some shareD, some (fr a b)] st := by
    simp [lim0, lim1, lim2, lim3, lim4, lim5, lim6, lim7, lim8, lim9, lim10, lim11, evSs, evS, ev, evs, evb, evo, evc, startD, Out.bind, Out.thenS, Out.of, OutS.of, put, puts, view, binop, cfg, tru, allv, bltop, cmpop, idx, L2.atI, L2.ixN, f_need_among_worths, b_need_among_worths, hw]
  rw [e]
  simp [endF, fin]
theorem worths_share (c : C_need_worths_of P x) (hF : P.glob x.FINITE = some (.tup [.str (Str.ofString "rest"), .str (Str.ofString "own")])) (n : Nat) (ws : D) (a b a' b' : Int) (st : Sto) (F : Fr a b) (F' : Fr a' b') (hk : ∀ st, callF P (n + 4) x.need_kind_of [shareD, ws] st = .ok .non st) : callF P (n + 5) x.need_worths_of [shareD, ws, fr a b, fr a' b'] st = .ok .non st := by
  rw [callF_fn c.self rfl]
  have w1 := fun st => worth_share c.need_among_worths hF n a b st F
  have w2 := fun st => worth_share c.need_among_worths hF n a' b' st F'
  have e : evSs (cfg P (callF P (n + 4)) st.length) (f_need_worths_of x).body (startD (f_need_worths_of x).n [shareD, ws, fr a b, fr a' b']) st = .nx [some shareD, some ws, some (fr a b), some (fr a' b')] st := by
    simp [lim0, lim1, lim2, lim3, lim4, lim5, lim6, lim7, lim8, lim9, lim10, lim11, evSs, evS, ev, evs, evb, evo, evc, startD, Out.bind, Out.thenS, Out.of, OutS.of, put, puts, view, binop, cfg, tru, allv, bltop, cmpop, idx, L2.atI, L2.ixN, f_need_worths_of, b_need_worths_of, hk, w1, w2]
  rw [e]
  simp [endF, fin]
theorem deed_share (c : C_need_deed_of P x) (hF : P.glob x.FINITE = some (.tup [.str (Str.ofString "rest"), .str (Str.ofString "own")])) (n : Nat) (ws : D) (d : Str) (a b a' b' : Int) (st : Sto) (F : Fr a b) (F' : Fr a' b') (hk : ∀ st, callF P (n + 4) x.need_kind_of [shareD, ws] st = .ok .non st) (hd : ∀ st, callF P (n + 5) x.is_deed [.str d] st = .ok (.bl true) st) : callF P (n + 6) x.need_deed_of [shareD, ws, .str d, fr a b, fr a' b'] st = .ok .non st := by
  rw [callF_fn c.self rfl]
  have w1 := fun st => worths_share c.need_worths_of hF n ws a b a' b' st F F' hk
  have e : evSs (cfg P (callF P (n + 5)) st.length) (f_need_deed_of x).body (startD (f_need_deed_of x).n [shareD, ws, .str d, fr a b, fr a' b']) st = .nx [some shareD, some ws, some (.str d), some (fr a b), some (fr a' b')] st := by
    simp [lim0, lim1, lim2, lim3, lim4, lim5, lim6, lim7, lim8, lim9, lim10, lim11, evSs, evS, ev, evs, evb, evo, evc, startD, Out.bind, Out.thenS, Out.of, OutS.of, put, puts, view, binop, cfg, tru, allv, bltop, cmpop, idx, L2.atI, L2.ixN, f_need_deed_of, b_need_deed_of, hd, w1]
  rw [e]
  simp [endF, fin]
end
end FA
namespace K12
open PySem Itp FA
theorem sub_1 : SubOk P 1 := by unfold SubOk; decide +kernel
theorem sub_2 : SubOk P 2 := by unfold SubOk; decide +kernel
theorem sub_12 : SubOk P 12 := by unfold SubOk; decide +kernel
theorem sub_16 : SubOk P 16 := by unfold SubOk; decide +kernel
/-! the code, over any worths -/
section
variable {K ws d u v : D} {n : Nat} {st : Sto}
theorem nw_kind {m : Nat} (h : ∀ st, callF P n 8 [K, ws] st = .exc m st) : callF P (n + 1) 29 [K, ws, u, v] st = .exc m st := by
  rw [callF_fn (P := P) (fn := f29) rfl rfl]
  have e : evSs (cfg P (callF P n) st.length) f29.body (startD f29.n [K, ws, u, v]) st = .exc m [some K, some ws, some u, some v] st := by
    simp [lim0, lim1, lim2, lim3, lim4, lim5, lim6, lim7, lim8, lim9, lim10, lim11, evSs, evS, ev, evs, evb, evo, evc, startD, Out.bind, Out.thenS, Out.of, OutS.of, put, puts, view, binop, cfg, tru, allv, bltop, cmpop, idx, L2.atI, L2.ixN, f29, b29, h]
  rw [e]
  exact endF_exc
theorem nw_u {m : Nat} (h : ∀ st, callF P n 8 [K, ws] st = .ok .non st) (hu : ∀ st, callF P n 25 [K, u] st = .exc m st) : callF P (n + 1) 29 [K, ws, u, v] st = .exc m st := by
  rw [callF_fn (P := P) (fn := f29) rfl rfl]
  have e : evSs (cfg P (callF P n) st.length) f29.body (startD f29.n [K, ws, u, v]) st = .exc m [some K, some ws, some u, some v] st := by
    simp [lim0, lim1, lim2, lim3, lim4, lim5, lim6, lim7, lim8, lim9, lim10, lim11, evSs, evS, ev, evs, evb, evo, evc, startD, Out.bind, Out.thenS, Out.of, OutS.of, put, puts, view, binop, cfg, tru, allv, bltop, cmpop, idx, L2.atI, L2.ixN, f29, b29, h, hu]
  rw [e]
  exact endF_exc
theorem nw_v {m : Nat} (h : ∀ st, callF P n 8 [K, ws] st = .ok .non st) (hu : ∀ st, callF P n 25 [K, u] st = .ok .non st) (hv : ∀ st, callF P n 25 [K, v] st = .exc m st) : callF P (n + 1) 29 [K, ws, u, v] st = .exc m st := by
  rw [callF_fn (P := P) (fn := f29) rfl rfl]
  have e : evSs (cfg P (callF P n) st.length) f29.body (startD f29.n [K, ws, u, v]) st = .exc m [some K, some ws, some u, some v] st := by
    simp [lim0, lim1, lim2, lim3, lim4, lim5, lim6, lim7, lim8, lim9, lim10, lim11, evSs, evS, ev, evs, evb, evo, evc, startD, Out.bind, Out.thenS, Out.of, OutS.of, put, puts, view, binop, cfg, tru, allv, bltop, cmpop, idx, L2.atI, L2.ixN, f29, b29, h, hu, hv]
  rw [e]
  exact endF_exc
theorem nw_ok (h : ∀ st, callF P n 8 [K, ws] st = .ok .non st) (hu : ∀ st, callF P n 25 [K, u] st = .ok .non st) (hv : ∀ st, callF P n 25 [K, v] st = .ok .non st) : callF P (n + 1) 29 [K, ws, u, v] st = .ok .non st := by
  rw [callF_fn (P := P) (fn := f29) rfl rfl]
  have e : evSs (cfg P (callF P n) st.length) f29.body (startD f29.n [K, ws, u, v]) st = .nx [some K, some ws, some u, some v] st := by
    simp [lim0, lim1, lim2, lim3, lim4, lim5, lim6, lim7, lim8, lim9, lim10, lim11, evSs, evS, ev, evs, evb, evo, evc, startD, Out.bind, Out.thenS, Out.of, OutS.of, put, puts, view, binop, cfg, tru, allv, bltop, cmpop, idx, L2.atI, L2.ixN, f29, b29, h, hu, hv]
  rw [e]
  simp [endF, fin]
theorem nd_of {m : Nat} (h : ∀ st, callF P n 29 [K, ws, u, v] st = .exc m st) : callF P (n + 1) 30 [K, ws, d, u, v] st = .exc m st := by
  rw [callF_fn (P := P) (fn := f30) rfl rfl]
  have e : evSs (cfg P (callF P n) st.length) f30.body (startD f30.n [K, ws, d, u, v]) st = .exc m [some K, some ws, some d, some u, some v] st := by
    simp [lim0, lim1, lim2, lim3, lim4, lim5, lim6, lim7, lim8, lim9, lim10, lim11, evSs, evS, ev, evs, evb, evo, evc, startD, Out.bind, Out.thenS, Out.of, OutS.of, put, puts, view, binop, cfg, tru, allv, bltop, cmpop, idx, L2.atI, L2.ixN, f30, b30, h]
  rw [e]
  exact endF_exc
theorem nd_no (h : ∀ st, callF P n 29 [K, ws, u, v] st = .ok .non st) (hd : ∀ st, callF P n 2 [d] st = .ok (.bl false) st) : callF P (n + 1) 30 [K, ws, d, u, v] st = .exc 12 st := by
  rw [callF_fn (P := P) (fn := f30) rfl rfl]
  have e : evSs (cfg P (callF P n) st.length) f30.body (startD f30.n [K, ws, d, u, v]) st = .exc 12 [some K, some ws, some d, some u, some v] st := by
    simp [lim0, lim1, lim2, lim3, lim4, lim5, lim6, lim7, lim8, lim9, lim10, lim11, evSs, evS, ev, evs, evb, evo, evc, startD, Out.bind, Out.thenS, Out.of, OutS.of, put, puts, view, binop, cfg, tru, allv, bltop, cmpop, idx, L2.atI, L2.ixN, f30, b30, h, hd]
  rw [e]
  exact endF_exc
theorem nd_ok (h : ∀ st, callF P n 29 [K, ws, u, v] st = .ok .non st) (hd : ∀ st, callF P n 2 [d] st = .ok (.bl true) st) : callF P (n + 1) 30 [K, ws, d, u, v] st = .ok .non st := by
  rw [callF_fn (P := P) (fn := f30) rfl rfl]
  have e : evSs (cfg P (callF P n) st.length) f30.body (startD f30.n [K, ws, d, u, v]) st = .nx [some K, some ws, some d, some u, some v] st := by
    simp [lim0, lim1, lim2, lim3, lim4, lim5, lim6, lim7, lim8, lim9, lim10, lim11, evSs, evS, ev, evs, evb, evo, evc, startD, Out.bind, Out.thenS, Out.of, OutS.of, put, puts, view, binop, cfg, tru, allv, bltop, cmpop, idx, L2.atI, L2.ixN, f30, b30, h, hd]
  rw [e]
  simp [endF, fin]
theorem ex_nd {m : Nat} (h : ∀ st, callF P n 30 [K, words3, d, u, v] st = .exc m st) : callF P (n + 1) 32 [K, d, u, v] st = .exc m st := by
  rw [callF_fn (P := P) (fn := f32) rfl rfl]
  unfold words3 at h
  have e : evSs (cfg P (callF P n) st.length) f32.body (startD f32.n [K, d, u, v]) st = .exc m [some K, some d, some u, some v] st := by
    simp [lim0, lim1, lim2, lim3, lim4, lim5, lim6, lim7, lim8, lim9, lim10, lim11, evSs, evS, ev, evs, evb, evo, evc, startD, Out.bind, Out.thenS, Out.of, OutS.of, put, puts, view, binop, cfg, tru, allv, bltop, cmpop, idx, L2.atI, L2.ixN, f32, b32, h]
  rw [e]
  exact endF_exc
theorem qOO : eqD (.str overS) (.str overS) = some true := by decide +kernel
theorem ex_ov (h : ∀ st, callF P (n + 1) 30 [K, words3, .str overS, u, v] st = .ok .non st) (ho : ∀ st, callF P n 34 [K] st = .ok (.bl false) st) : callF P (n + 2) 32 [K, .str overS, u, v] st = .exc 12 st := by
  refine deed_exc c_exact_deed (n + 1) K (.str overS) u v 12 st h ?_
  show callF P (n + 1) 33 _ st = _
  rw [callF_fn (P := P) (fn := f33) rfl rfl]
  have o : Str.ofString "over" = overS := rfl
  have qOO := qOO
  generalize overS = w at *
  have e : evSs (cfg P (callF P n) st.length) f33.body (startD f33.n [K, .str w, u, v]) st = .exc 12 [some K, some (.str w), some u, some v, none] st := by
    simp [lim0, lim1, lim2, lim3, lim4, lim5, lim6, lim7, lim8, lim9, lim10, lim11, evSs, evS, ev, evs, evb, evo, evc, startD, Out.bind, Out.thenS, Out.of, OutS.of, put, puts, view, binop, cfg, tru, allv, bltop, cmpop, idx, L2.atI, L2.ixN, f33, b33, ho, o, qOO]
  rw [e]
  exact endF_exc
theorem or_exc {m : Nat} (h : ∀ st, callF P n 29 [K, words2, u, v] st = .exc m st) : callF P (n + 1) 37 [K, u, v] st = .exc m st := by
  rw [callF_fn (P := P) (fn := f37) rfl rfl]
  unfold words2 at h
  have e : evSs (cfg P (callF P n) st.length) f37.body (startD f37.n [K, u, v]) st = .exc m [some K, some u, some v] st := by
    simp [lim0, lim1, lim2, lim3, lim4, lim5, lim6, lim7, lim8, lim9, lim10, lim11, evSs, evS, ev, evs, evb, evo, evc, startD, Out.bind, Out.thenS, Out.of, OutS.of, put, puts, view, binop, cfg, tru, allv, bltop, cmpop, idx, L2.atI, L2.ixN, f37, b37, h]
  rw [e]
  exact endF_exc
end
/-! what is drawn -/
def restD (m : Nat) : D := .tup [.str (Str.ofString "rest"), .int m]
def restsL : List D := (List.range 11).map fun i => restD (i + 2)
def kindsL : List D := wholeD :: shareD :: restsL
def rowsD : D := .tup [.tup [.int 0, .int 1], .tup [.int 1, .int 0]]
def sD (s : String) : D := .str (Str.ofString s)
def badL : List D := [.non, .int 5, sD "whole", sD "share", .lst [sD "whole"], .tup [sD "whole", .int 1], .tup [sD "Whole"], .tup [sD "rest"], .tup [sD "rest", .int 1], .tup [sD "rest", .int 13],
  .tup [sD "rest", .bl true], .tup [sD "rest", sD "5"], .lst [sD "rest", .int 5], .tup [sD "share", .non], .tup [], .dct [] [], .bl true, .tup [.tup [sD "whole"]],
  .tup [sD "root", .int 4], .tup [sD "root", .int 2], .tup [sD "root", .int 59], .tup [sD "about", .int 1], .tup [sD "about", .int 3], .tup [sD "sure", .int 0], .tup [sD "sure", .int 6], .tup [sD "own", rowsD, rowsD]]
def badW0 : List D := [.non, .bl true, .bl false, sD "1", .lst [.int 1], .dct [] [], sD "", .tup [], .tup [.tup [.int 1, .int 1]], .tup [.int 1, .int 1, .int 1], .lst [.int 1, .int 1], .tup [.int 1, .bl true], .tup [.bl true, .int 1], .tup [.non, .int 1],
  .tup [.int 1, .int 0], .tup [.int 2, .int 4], .tup [.int 0, .int 2], .tup [.int 1, .int (-1)], .tup [.int (-3), .int 6], .tup [sD "1", .int 1], .tup [.tup [.int 0, .int 1], .tup [.int 0, .int 1]]]
def isR : D → Option Int
  | .tup [.str _, .int m] => some m
  | _ => none
def isS : D → Bool
  | .tup [.str w] => decide (w = Str.ofString "share")
  | _ => false
def badW (K : D) : List D := badW0 ++ (match isR K with
  | some m => [.int m, .int (-1), .int (10 ^ 30)]
  | none => if isS K then [.int 0, .int 1, .int 5] else [.tup [.int 0, .int 1], .tup [.int 1, .int 1], .tup [.int 5, .int 1]])
def isW : D → Bool
  | .tup [.str w] => decide (w = Str.ofString "whole")
  | _ => false
def hasO (K : D) : Bool := match isR K with
  | some m => [2, 3, 5, 7, 11].contains m
  | none => isS K
def badD0 : List D := [.non, .int 5, .bl true, sD "", sD "Plus", sD "plus ", sD "minus", sD "by", .lst [sD "plus"], .tup [sD "plus"], .dct [] [], sD "more", .int 0, sD "plusless"]
def badD (K : D) : List D := badD0 ++ (if hasO K then [] else List.replicate 6 (.str overS))
/-! closed facts -/
def isExc : PO D → Nat → Bool
  | .exc m, n => m == n
  | _, _ => false
def isNo : PO D → Bool
  | .ok .non => true
  | _ => false
def isBl : PO D → Bool → Bool
  | .ok (.bl b), c => b == c
  | _, _ => false
theorem of_exc {o : PO D} {n : Nat} (h : isExc o n = true) : o = .exc n := by
  unfold isExc at h
  split at h
  · rw [beq_iff_eq] at h; rw [h]
  · cases h
theorem of_no {o : PO D} (h : isNo o = true) : o = .ok .non := by
  unfold isNo at h
  split at h
  · rfl
  · cases h
theorem of_bl {o : PO D} {c : Bool} (h : isBl o c = true) : o = .ok (.bl c) := by
  unfold isBl at h
  split at h
  · rw [beq_iff_eq] at h; rw [h]
  · cases h
theorem t_bad : (badL.all fun b => isExc (pcall P 35 8 [b, words3]) 1 && (isExc (pcall P 36 8 [b, words2]) 1 && !anyO [b, words3])) = true := by decide +kernel
theorem t_kd : (kindsL.all fun K => isNo (pcall P 35 8 [K, words3])) = true := by decide +kernel
theorem t_rs : (restsL.all fun K => isExc (pcall P 36 8 [K, words2]) 1) = true := by decide +kernel
theorem t_ws : ([wholeD, shareD].all fun K => isNo (pcall P 36 8 [K, words2])) = true := by decide +kernel
theorem t_badw : (kindsL.all fun K => (badW K).all fun w => isExc (pcall P 35 25 [K, w]) 2 && (isExc (pcall P 36 25 [K, w]) 2 && !anyO [K, w])) = true := by decide +kernel
theorem t_ho : (kindsL.all fun K => isBl (pcall P 36 34 [K]) (hasO K)) = true := by decide +kernel
theorem t_bd : (badD0.all fun d => isBl (pcall P 36 2 [d]) false && !anyO [d]) = true := by decide +kernel
theorem t_gd : ([plusS, lessS, timesS, overS].all fun d => isBl (pcall P 36 2 [.str d]) true) = true := by decide +kernel
theorem w35 (a : Int) : pcall P 35 25 [wholeD, .int a] = .ok .non := by kernel_rfl
theorem w36 (a : Int) : pcall P 36 25 [wholeD, .int a] = .ok .non := by kernel_rfl
theorem t_rw : ((List.range 11).all fun i => (List.range (i + 2)).all fun a => isNo (pcall P 35 25 [restD (i + 2), .int a])) = true := by decide +kernel
/-- a rest's deed, told -/
def isI (m : Nat) : PO D → Bool
  | .ok (.int r) => decide (0 ≤ r) && decide (r < m)
  | _ => false
def chkR (i : Nat) : Bool := [plusS, lessS, timesS].all fun d => (List.range (i + 2)).all fun a => (List.range (i + 2)).all fun b => isI (i + 2) (pcall P 38 32 [restD (i + 2), .str d, .int a, .int b])
theorem cr0 : chkR 0 = true := by decide +kernel
theorem cr1 : chkR 1 = true := by decide +kernel
theorem cr2 : chkR 2 = true := by decide +kernel
theorem cr3 : chkR 3 = true := by decide +kernel
theorem cr4 : chkR 4 = true := by decide +kernel
theorem cr5 : chkR 5 = true := by decide +kernel
theorem cr6 : chkR 6 = true := by decide +kernel
theorem cr7 : chkR 7 = true := by decide +kernel
theorem cr8 : chkR 8 = true := by decide +kernel
theorem cr9 : chkR 9 = true := by decide +kernel
theorem cr10 : chkR 10 = true := by decide +kernel
theorem t_rd : ((List.range 11).all fun i => [plusS, lessS, timesS].all fun d => (List.range (i + 2)).all fun a => (List.range (i + 2)).all fun b => isI (i + 2) (pcall P 38 32 [restD (i + 2), .str d, .int a, .int b])) = true := by
  show (chkR 0 && (chkR 1 && (chkR 2 && (chkR 3 && (chkR 4 && (chkR 5 && (chkR 6 && (chkR 7 && (chkR 8 && (chkR 9 && (chkR 10 && true))))))))))) = true
  rw [cr0, cr1, cr2, cr3, cr4, cr5, cr6, cr7, cr8, cr9, cr10]
  rfl
theorem t_ro : ((List.range 11).all fun i => (List.range (i + 2)).all fun a => isExc (pcall P 38 32 [restD (i + 2), .str overS, .int a, .int 0]) (if hasO (restD (i + 2)) then 16 else 12)) = true := by decide +kernel
end K12
namespace K12
open PySem Itp FA
def zeroD (K : D) : D := if isS K then fr 0 1 else .int 0
inductive Gd : D → D → Prop
  | w (i : Int) (h : i.natAbs ≤ 1000) : Gd wholeD (.int i)
  | s (a b : Int) (h : Fr a b) (ha : a.natAbs ≤ 2001) (hb : b ≤ 1001) : Gd shareD (fr a b)
  | r (m a : Nat) (hm : m < 11) (h : a < m + 2) : Gd (restD (m + 2)) (.int a)
theorem kinds_cases {K : D} (h : K ∈ kindsL) : K = wholeD ∨ K = shareD ∨ ∃ m : Nat, m < 11 ∧ K = restD (m + 2) := by
  simp only [kindsL, restsL, List.mem_cons, List.mem_map, List.mem_range] at h
  rcases h with h | h | ⟨m, hm, h⟩
  · exact .inl h
  · exact .inr (.inl h)
  · exact .inr (.inr ⟨m, hm, h.symm⟩)
theorem rest_mem {m : Nat} (h : m < 11) : restD (m + 2) ∈ restsL := List.mem_map.mpr ⟨m, List.mem_range.mpr h, rfl⟩
theorem whole_mem : wholeD ∈ kindsL := List.mem_cons_self
theorem share_mem : shareD ∈ kindsL := List.mem_cons_of_mem _ List.mem_cons_self
theorem rests_mem {m : Nat} (h : m < 11) : restD (m + 2) ∈ kindsL := List.mem_cons_of_mem _ (List.mem_cons_of_mem _ (rest_mem h))
theorem anyO_kd {K : D} (h : K ∈ kindsL) {ws : D} (hw : isO ws = false) : anyO [K, ws] = false := by
  have e : isO K = false := by rcases kinds_cases h with rfl | rfl | ⟨m, _, rfl⟩ <;> rfl
  simp [anyO, e, hw]
theorem kd3 {K : D} (h : K ∈ kindsL) (st : Sto) : callF P 35 8 [K, words3] st = .ok .non st :=
  callF_ok (of_no (List.all_eq_true.mp t_kd K h)) (anyO_kd h rfl) st
theorem kd2 {K : D} (h : K = wholeD ∨ K = shareD) (st : Sto) : callF P 36 8 [K, words2] st = .ok .non st :=
  callF_ok (of_no (List.all_eq_true.mp t_ws K (by rcases h with rfl | rfl <;> simp))) (by rcases h with rfl | rfl <;> rfl) st
theorem kdr {m : Nat} (h : m < 11) (st : Sto) : callF P 36 8 [restD (m + 2), words2] st = .exc 1 st :=
  callF_exc (of_exc (List.all_eq_true.mp t_rs _ (rest_mem h))) (anyO_kd (rests_mem h) rfl) st
theorem bad3 {b : D} (h : b ∈ badL) (st : Sto) : callF P 35 8 [b, words3] st = .exc 1 st := by
  have := List.all_eq_true.mp t_bad b h
  simp only [Bool.and_eq_true, Bool.not_eq_true'] at this
  exact callF_exc (of_exc this.1) this.2.2 st
theorem bad2 {b : D} (h : b ∈ badL) (st : Sto) : callF P 36 8 [b, words2] st = .exc 1 st := by
  have := List.all_eq_true.mp t_bad b h
  simp only [Bool.and_eq_true, Bool.not_eq_true'] at this
  exact callF_exc (of_exc this.2.1) this.2.2 st
theorem bw {K w : D} (h : K ∈ kindsL) (hw : w ∈ badW K) : (∀ st, callF P 35 25 [K, w] st = .exc 2 st) ∧ ∀ st, callF P 36 25 [K, w] st = .exc 2 st := by
  have := List.all_eq_true.mp (List.all_eq_true.mp t_badw K h) w hw
  simp only [Bool.and_eq_true, Bool.not_eq_true'] at this
  exact ⟨callF_exc (of_exc this.1) this.2.2, callF_exc (of_exc this.2.1) this.2.2⟩
theorem fin_g : P.glob x.FINITE = some (.tup [.str (Str.ofString "rest"), .str (Str.ofString "own")]) := rfl
theorem gd35 {K u : D} (h : Gd K u) (st : Sto) : callF P 35 25 [K, u] st = .ok .non st := by
  cases h with
  | w i h => exact callF_ok (w35 i) rfl st
  | s a b h ha hb => exact worth_share c_need_among_worths fin_g 31 a b st h
  | r m a hm h => exact callF_ok (of_no (List.all_eq_true.mp (List.all_eq_true.mp t_rw m (List.mem_range.mpr hm)) a (List.mem_range.mpr h))) rfl st
theorem gd36w (i : Int) (st : Sto) : callF P 36 25 [wholeD, .int i] st = .ok .non st := callF_ok (w36 i) rfl st
theorem gd36s {a b : Int} (h : Fr a b) (st : Sto) : callF P 36 25 [shareD, fr a b] st = .ok .non st := worth_share c_need_among_worths fin_g 32 a b st h
theorem gd_kind {K u : D} (h : Gd K u) : K ∈ kindsL := by
  cases h with
  | w => exact whole_mem
  | s => exact share_mem
  | r m a hm h => exact rests_mem hm
/-! what comes of it -/
def deeds3 : List Str := [plusS, lessS, timesS]
def isOv : D → Bool
  | .str w => decide (w = overS)
  | _ => false
abbrev Val (o : Out D) (S : Sto) : Prop := ∃ val p, o = .ok val S ∧ isO val = false ∧ bRepr [val] = some (.rep p)
/-- the worths, either of them spoilt or none -/
def Wo (K : D) (s : Bool) (u : D) : Prop := if s then u ∈ badW K else Gd K u
theorem nw1 {K u v : D} {s1 s2 : Bool} (h : K ∈ kindsL) (hu : Wo K s1 u) (hv : Wo K s2 v) (st : Sto) : callF P 36 29 [K, words3, u, v] st = if s1 || s2 then .exc 2 st else .ok .non st := by
  unfold Wo at hu hv
  cases s1 with
  | true => exact nw_u (kd3 h) (bw h hu).1
  | false =>
    cases s2 with
    | true => exact nw_v (kd3 h) (gd35 hu) (bw h hv).1
    | false => exact nw_ok (kd3 h) (gd35 hu) (gd35 hv)
theorem dd {d : Str} (h : d ∈ [plusS, lessS, timesS, overS]) (st : Sto) : callF P 36 2 [.str d] st = .ok (.bl true) st :=
  callF_ok (of_bl (List.all_eq_true.mp t_gd d h)) rfl st
theorem bd {d : D} (h : d ∈ badD0) (st : Sto) : callF P 36 2 [d] st = .ok (.bl false) st := by
  have := List.all_eq_true.mp t_bd d h
  simp only [Bool.and_eq_true, Bool.not_eq_true'] at this
  exact callF_ok (of_bl this.1) this.2 st
theorem hov {K : D} (h : K ∈ kindsL) (st : Sto) : callF P 36 34 [K] st = .ok (.bl (hasO K)) st :=
  callF_ok (of_bl (List.all_eq_true.mp t_ho K h)) (by rcases kinds_cases h with rfl | rfl | ⟨m, _, rfl⟩ <;> rfl) st
/-- by which it is refused, of a good kind -/
def due1 (K : D) (s1 s2 s3 : Bool) (d : D) : Option Nat := if s1 || s2 then some 2 else if s3 then some 12 else if isOv d then some (if hasO K then 16 else 12) else none
def De (K : D) (s : Bool) (d v : D) : Prop := if s then d ∈ badD K else (∃ w ∈ deeds3, d = .str w) ∨ (d = .str overS ∧ v = zeroD K)
theorem small_gr {p q : Int} (hp : p.natAbs ≤ 10 ^ 9) (hq : q.natAbs ≤ 10 ^ 9) : great p q = false := by
  have := GR_pos
  unfold great
  generalize GR = g at *
  rw [Bool.or_eq_false_iff]
  exact ⟨decide_eq_false (by omega), decide_eq_false (by omega)⟩
theorem small_sh {p : Int} (hp : p.natAbs ≤ 10 ^ 9) : Sh p := gr_sh (by have := GR_pos; generalize GR = g at *; omega)
theorem small_big {p : Int} (hp : p.natAbs ≤ 10 ^ 9) : Big p := Nat.lt_of_le_of_lt hp (by decide +kernel)
theorem mul_le {a b : Int} {m n : Nat} (ha : a.natAbs ≤ m) (hb : b.natAbs ≤ n) : (a * b).natAbs ≤ m * n := by
  rw [Int.natAbs_mul]
  exact Nat.mul_le_mul ha hb
/-- the four deeds of two shares -/
theorem fd3 {w : Str} (hw : w ∈ deeds3) {a b a' b' : Int} (hb : 0 < b) (hb' : 0 < b') (h1 : a.natAbs ≤ 2001) (h2 : b ≤ 1001) (h3 : a'.natAbs ≤ 2001) (h4 : b' ≤ 1001) :
    ∃ N M : Int, (∀ st, callF P 36 x.fraction_deed [.str w, fr a b, fr a' b'] st = .ok (FA.low N M) st) ∧ M = b * b' ∧ N.natAbs ≤ 10 ^ 9 := by
  have hm := Int.mul_ne_zero (show b ≠ 0 by omega) (show b' ≠ 0 by omega)
  have g1 := small_big (p := a) (by omega)
  have g2 := small_big (p := b) (by omega)
  have g3 := small_big (p := a') (by omega)
  have g4 := small_big (p := b') (by omega)
  have p1 := mul_le (a := a) (b := b') (m := 2001) (n := 1001) h1 (by omega)
  have p2 := mul_le (a := a') (b := b) (m := 2001) (n := 1001) h3 (by omega)
  have p3 := mul_le (a := a) (b := a') h1 h3
  simp only [deeds3, List.mem_cons, List.not_mem_nil, or_false] at hw
  rcases hw with rfl | rfl | rfl
  · exact ⟨_, _, fun st => fd_plus c_fraction_deed 31 a b a' b' st hm g1 g2 g3 g4, rfl, by omega⟩
  · exact ⟨_, _, fun st => fd_less c_fraction_deed 31 a b a' b' st hm g1 g2 g3 g4, rfl, by omega⟩
  · exact ⟨_, _, fun st => fd_times c_fraction_deed 31 a b a' b' st hm g1 g2 g3 g4, rfl, by omega⟩
theorem good_val {K u v : D} {w : Str} (hu : Gd K u) (hv : Gd K v) (hw : w ∈ deeds3) (hn : ∀ st, callF P 37 30 [K, words3, .str w, u, v] st = .ok .non st) (S : Sto) : Val (callF P 38 32 [K, .str w, u, v] S) S := by
  cases hu with
  | w i hi =>
    obtain ⟨j, rfl, hj⟩ : ∃ j, v = .int j ∧ j.natAbs ≤ 1000 := by
      cases hv with
      | w j hj => exact ⟨j, rfl, hj⟩
    obtain ⟨N, M, hf, rfl, hN⟩ := fd3 hw (a := i) (b := 1) (a' := j) (b' := 1) (by omega) (by omega) (by omega) (by omega) (by omega) (by omega)
    have hl := low_one N
    have e := exact_done_w c_exact_deed 30 i j N 1 w S hw hn (fun st => by rw [hf]; unfold FA.low; rw [show (1 * 1 : Int) = 1 by rfl, hl.1, hl.2])
    rw [small_gr hN (by decide)] at e
    exact ⟨.int N, _, e, rfl, rep_int (small_sh hN)⟩
  | s a b h ha hb =>
    obtain ⟨a', b', rfl, h', ha', hb'⟩ : ∃ a' b', v = fr a' b' ∧ Fr a' b' ∧ a'.natAbs ≤ 2001 ∧ b' ≤ 1001 := by
      cases hv with
      | s a' b' h' ha' hb' => exact ⟨a', b', rfl, h', ha', hb'⟩
    obtain ⟨N, M, hf, rfl, hN⟩ := fd3 hw h.pos h'.pos ha hb ha' hb'
    have hm := Int.mul_ne_zero (show b ≠ 0 by have := h.pos; omega) (show b' ≠ 0 by have := h'.pos; omega)
    have e := exact_done_s c_exact_deed 30 a b a' b' _ _ w S hn (fun st => hov share_mem st) hf
    have q1 := Nat.le_trans (lnum_le (a := N) hm) hN
    have q2 : (lden N (b * b')).natAbs ≤ 10 ^ 9 := Nat.le_trans (lden_le (a := N) hm) (Nat.le_trans (mul_le (a := b) (b := b') (m := 1001) (n := 1001) (by have := h.pos; omega) (by have := h'.pos; omega)) (by decide))
    rw [small_gr q1 q2] at e
    exact ⟨_, _, e, rfl, rep_fr (small_sh q1) (small_sh q2)⟩
  | r m a hm h =>
    obtain ⟨b, rfl, hb⟩ : ∃ b : Nat, v = .int b ∧ b < m + 2 := by
      generalize hK : restD (m + 2) = K at hv
      cases hv with
      | w => cases hK
      | s => cases hK
      | r m' b hm' hb =>
        have : ((m + 2 : Nat) : Int) = ((m' + 2 : Nat) : Int) := by
          simp only [restD, D.tup.injEq, List.cons.injEq, D.int.injEq] at hK
          exact hK.2.1
        exact ⟨b, rfl, by omega⟩
    have t := List.all_eq_true.mp (List.all_eq_true.mp (List.all_eq_true.mp (List.all_eq_true.mp t_rd m (List.mem_range.mpr hm)) w hw) a (List.mem_range.mpr h)) b (List.mem_range.mpr hb)
    unfold isI at t
    split at t
    · rename_i r e
      simp only [Bool.and_eq_true, decide_eq_true_eq] at t
      exact ⟨.int r, _, callF_ok e rfl S, rfl, rep_int (small_sh (by omega))⟩
    · cases t
theorem zero_gd {K : D} (h : K ∈ kindsL) : Gd K (zeroD K) := by
  rcases kinds_cases h with rfl | rfl | ⟨m, hm, rfl⟩
  · exact .w 0 (by decide)
  · exact .s 0 1 ⟨by decide, by decide⟩ (by decide) (by decide)
  · exact .r m 0 hm (by omega)
theorem over_out {K u : D} (hu : Gd K u) (st : Sto) : callF P 38 32 [K, .str overS, u, zeroD K] st = .exc (if hasO K then 16 else 12) st := by
  have hk := gd_kind hu
  have hn : ∀ st, callF P 37 30 [K, words3, .str overS, u, zeroD K] st = .ok .non st := fun st => nd_ok (fun st => nw1 (s1 := false) (s2 := false) hk hu (zero_gd hk) st) (dd (by simp))
  cases hu with
  | w i hi => exact ex_ov hn (fun st => hov whole_mem st)
  | s a b h ha hb => exact exact_nought_s c_exact_deed 30 a b 1 st hn (fun st => hov share_mem st)
  | r m a hm h => exact callF_exc (of_exc (List.all_eq_true.mp (List.all_eq_true.mp t_ro m (List.mem_range.mpr hm)) a (List.mem_range.mpr h))) rfl st
theorem hasO_whole : hasO wholeD = false := by decide +kernel
/-- the first look: a deed of a good kind -/
theorem out1 {K u v d : D} {s1 s2 s3 : Bool} (h : K ∈ kindsL) (hu : Wo K s1 u) (hv : Wo K s2 v) (hd : De K s3 d v) (S : Sto) :
    match due1 K s1 s2 s3 d with
    | some n => callF P 38 32 [K, d, u, v] S = .exc n S
    | none => Val (callF P 38 32 [K, d, u, v] S) S := by
  have w := nw1 h hu hv
  unfold due1
  by_cases q : (s1 || s2) = true
  · rw [if_pos q]
    exact ex_nd fun st => nd_of fun st => by rw [w, if_pos q]
  · rw [if_neg q]
    have w : ∀ st, callF P 36 29 [K, words3, u, v] st = .ok .non st := fun st => by rw [w, if_neg q]
    have q1 : s1 = false := by cases s1 <;> simp_all
    have q2 : s2 = false := by cases s2 <;> simp_all
    subst q1 q2
    have hu : Gd K u := hu
    have hv : Gd K v := hv
    unfold De at hd
    cases s3 with
    | true =>
      rw [if_pos rfl] at hd
      rw [if_pos rfl]
      unfold badD at hd
      rcases List.mem_append.mp hd with hd | hd
      · exact ex_nd fun st => nd_no w (bd hd)
      · split at hd
        · cases hd
        · rename_i ho
          obtain rfl := List.eq_of_mem_replicate hd
          exact ex_ov (fun st => nd_ok w (dd (by simp))) (fun st => by rw [hov h]; simp [ho])
    | false =>
      rw [if_neg (by simp)] at hd
      rw [if_neg (by simp)]
      rcases hd with ⟨w', hw', rfl⟩ | ⟨rfl, rfl⟩
      · have no : isOv (.str w') = false := by
          simp only [deeds3, List.mem_cons, List.not_mem_nil, or_false] at hw'
          rcases hw' with rfl | rfl | rfl <;> decide +kernel
        rw [no]
        exact good_val hu hv hw' (fun st => nd_ok w (dd (by simp only [deeds3, List.mem_cons, List.not_mem_nil, or_false] at hw'; rcases hw' with rfl | rfl | rfl <;> simp))) S
      · rw [if_pos (by decide +kernel)]
        exact over_out hu S
/-- .. of a bad one -/
theorem out1b {b u v d : D} (h : b ∈ badL) (S : Sto) : callF P 38 32 [b, d, u, v] S = .exc 1 S :=
  ex_nd fun st => nd_of fun st => nw_kind (bad3 h)
def isRe (K : D) : Bool := (isR K).isSome
def due2 (K : D) (s1 s2 : Bool) : Option Nat := if isRe K then some 1 else if s1 || s2 then some 2 else none
theorem cmp3 (a b : Int) : cmpI a b ∈ [(-1 : Int), 0, 1] := by
  unfold cmpI
  split
  · simp
  · split <;> simp
/-- the second look: the order -/
theorem out2 {K u v : D} {s1 s2 : Bool} (h : K ∈ kindsL) (hu : Wo K s1 u) (hv : Wo K s2 v) (S : Sto) :
    match due2 K s1 s2 with
    | some n => callF P 38 37 [K, u, v] S = .exc n S
    | none => ∃ c ∈ [(-1 : Int), 0, 1], callF P 38 37 [K, u, v] S = .ok (.int c) S := by
  unfold due2
  by_cases r : isRe K = true
  · rw [if_pos r]
    rcases kinds_cases h with rfl | rfl | ⟨m, hm, rfl⟩
    · cases r
    · cases r
    · exact or_exc fun st => nw_kind (kdr hm)
  · rw [if_neg r]
    have hk : K = wholeD ∨ K = shareD := by
      rcases kinds_cases h with rfl | rfl | ⟨m, hm, rfl⟩
      · exact .inl rfl
      · exact .inr rfl
      · exact absurd rfl r
    have g36 : ∀ {u}, Gd K u → ∀ st, callF P 36 25 [K, u] st = .ok .non st := fun {u} g st => by
      cases g with
      | w i _ => exact gd36w i st
      | s a b f _ _ => exact gd36s f st
      | r => exact absurd rfl r
    unfold Wo at hu hv
    cases s1 with
    | true =>
      rw [if_pos rfl] at hu
      exact or_exc fun st => nw_u (kd2 hk) (bw h hu).2
    | false =>
      rw [if_neg (by simp)] at hu
      cases s2 with
      | true =>
        rw [if_pos rfl] at hv
        exact or_exc fun st => nw_v (kd2 hk) (g36 hu) (bw h hv).2
      | false =>
        rw [if_neg (by simp)] at hv
        have hn : ∀ st, callF P 37 29 [K, words2, u, v] st = .ok .non st := fun st => nw_ok (kd2 hk) (g36 hu) (g36 hv)
        cases hu with
        | w i hi =>
          obtain ⟨j, rfl, hj⟩ : ∃ j, v = .int j ∧ j.natAbs ≤ 1000 := by
            cases hv with
            | w j hj => exact ⟨j, rfl, hj⟩
          exact ⟨_, cmp3 i j, order_w c_exact_order 35 i j S hn (small_big (by omega)) (small_big (by omega))⟩
        | s a b f ha hb =>
          obtain ⟨a', b', rfl, f', ha', hb'⟩ : ∃ a' b', v = fr a' b' ∧ Fr a' b' ∧ a'.natAbs ≤ 2001 ∧ b' ≤ 1001 := by
            cases hv with
            | s a' b' h' ha' hb' => exact ⟨a', b', rfl, h', ha', hb'⟩
          have p1 := f.pos
          have p2 := f'.pos
          exact ⟨_, cmp3 _ _, order_s c_exact_order 35 a b a' b' S hn (small_big (by omega)) (small_big (by omega)) (small_big (by omega)) (small_big (by omega))⟩
        | r => exact absurd rfl r
theorem out2b {b u v : D} (h : b ∈ badL) (S : Sto) : callF P 38 37 [b, u, v] S = .exc 1 S :=
  or_exc fun st => nw_kind (bad2 h)
end K12
namespace K12
open PySem Itp FA
theorem idx_at {ds : List D} {v : Int} (h0 : 0 ≤ v) (h1 : v < ds.length) : ∃ d ∈ ds, idx (.lst ds) (.int v) = some d := by
  have hl : v.toNat < ds.length := by omega
  refine ⟨ds[v.toNat], List.getElem_mem hl, ?_⟩
  simp [idx, L2.atI, L2.ixN, h0, h1, hl]
theorem ev_ixv {C : Cfg} {e i : E} {env : Itp.Env} {st st1 st2 : Sto} {d v y : D} (h : ev C e env st = .ok d st1) (hi : ev C i env st1 = .ok y st2) (hx : idx (view st2 d) y = some v) : ev C (.ix e i) env st = .ok v st2 := by
  simp only [ev, h, hi, Out.bind, hx, Out.of]
def C8 (b : Sto) (n : Nat) : Cfg := cfg P (callF P n) b.length
theorem c8_call (b : Sto) (n i : Nat) (ds : List D) (st : Sto) : (C8 b n).call i ds st = callF P n i ds st := rfl
/-- a draw of the law's, ahead -/
theorem tk {st : Sto} {ce t : Nat} {m : Int} (n : Nat) (hT : TK st ce t) (ht : t < 900000) (h1 : 0 < m) (h2 : m < 10 ^ 9) : ∃ v st', callF P (n + 2) 41 [.obj ce, .int m] st = .ok (.int v) st' ∧ 0 ≤ v ∧ v < m ∧ Up ce (t + 1) st st' :=
  take c__law_take n ce t m st hT (by omega) h1 (by omega)
theorem no_kind {st : Sto} {ce t : Nat} (hT : TK st ce t) (ht : t < 900000) : ∃ b ∈ badL, ∃ st', callF P 38 43 [.obj ce] st = .ok b st' ∧ Up ce (t + 1) st st' := by
  have go : callF P 38 43 [.obj ce] st = endF false st.length (evSs (C8 st 37) b43 [some (.obj ce), none, none] st) := callF_fn (P := P) (fn := f43) rfl rfl
  obtain ⟨v, st1, e1, v0, v1, U1⟩ := tk (m := 26) 35 hT ht (by omega) (by omega)
  have e1 : callF P 37 41 [.obj ce, .int 26] st = .ok (.int v) st1 := e1
  obtain ⟨b, hb, hx⟩ := idx_at (ds := badL) v0 (by exact v1)
  have s1 : ∀ ss, evSs (C8 st 37) (b43.take 4 ++ ss) [some (.obj ce), none, none] st = evSs (C8 st 37) ss [some (.obj ce), some rowsD, some (.lst (badL.take 25))] st := fun ss =>
    evSs_app (show evSs (C8 st 37) (b43.take 4) [some (.obj ce), none, none] st = .nx [some (.obj ce), some rowsD, some (.lst (badL.take 25))] st by kernel_rfl)
  have hl : ∀ s, ev (C8 st 37) (.bin .add (.var 2) (.lst false [(.tup [(.lit (.str (Str.ofString "own"))), (.var 1), (.var 1)])])) [some (.obj ce), some rowsD, some (.lst (badL.take 25))] s = .ok (.lst badL) s := fun s => by kernel_rfl
  have hc : ev (C8 st 37) (.call 41 [(.var 0), (.lit (.int 26))]) [some (.obj ce), some rowsD, some (.lst (badL.take 25))] st = .ok (.int v) st1 := by
    simp [ev, evs, Out.bind, c8_call, e1]
  have s2 := evS_ret (ev_ixv (hl st) hc (show idx (view st1 (.lst badL)) (.int v) = some b from hx))
  refine ⟨b, hb, st1, ?_, U1⟩
  rw [go, show b43 = b43.take 4 ++ [.ret (.ix (.bin .add (.var 2) (.lst false [(.tup [(.lit (.str (Str.ofString "own"))), (.var 1), (.var 1)])])) (.call 41 [(.var 0), (.lit (.int 26))]))] from rfl, s1, rt_cons s2]
  exact endF_same U1.len
theorem all13 {p : D → Prop} (h : p wholeD ∧ p shareD ∧ p (restD 2) ∧ p (restD 3) ∧ p (restD 4) ∧ p (restD 5) ∧ p (restD 6) ∧ p (restD 7) ∧ p (restD 8) ∧ p (restD 9) ∧ p (restD 10) ∧ p (restD 11) ∧ p (restD 12)) : ∀ K ∈ kindsL, p K := by
  intro K hK
  obtain ⟨h1, h2, h3, h4, h5, h6, h7, h8, h9, h10, h11, h12, h13⟩ := h
  have : kindsL = [wholeD, shareD, restD 2, restD 3, restD 4, restD 5, restD 6, restD 7, restD 8, restD 9, restD 10, restD 11, restD 12] := rfl
  rw [this] at hK
  simp only [List.mem_cons, List.not_mem_nil, or_false] at hK
  rcases hK with rfl | rfl | rfl | rfl | rfl | rfl | rfl | rfl | rfl | rfl | rfl | rfl | rfl <;> assumption
theorem nw_list (C : Cfg) (ce : Nat) (st : Sto) : ∀ K ∈ kindsL, evSs C (b44.take 5) [some (.obj ce), some K, none] st = .nx [some (.obj ce), some K, some (.lst (badW K))] st :=
  all13 ⟨by kernel_rfl, by kernel_rfl, by kernel_rfl, by kernel_rfl, by kernel_rfl, by kernel_rfl, by kernel_rfl, by kernel_rfl, by kernel_rfl, by kernel_rfl, by kernel_rfl, by kernel_rfl, by kernel_rfl⟩
theorem nd_list (C : Cfg) (ce : Nat) (st : Sto) : ∀ K ∈ kindsL, evSs C (b46.take 2) [some (.obj ce), some K, none] st = .nx [some (.obj ce), some K, some (.lst (badD K))] st :=
  all13 ⟨by kernel_rfl, by kernel_rfl, by kernel_rfl, by kernel_rfl, by kernel_rfl, by kernel_rfl, by kernel_rfl, by kernel_rfl, by kernel_rfl, by kernel_rfl, by kernel_rfl, by kernel_rfl, by kernel_rfl⟩
theorem len_w (K : D) : (badW K).length = 24 := by
  unfold badW
  split
  · rfl
  · split <;> rfl
theorem len_d (K : D) : (badD K).length = 14 ∨ (badD K).length = 20 := by
  unfold badD
  split
  · exact .inl rfl
  · exact .inr rfl
theorem drawn {C : Cfg} {L : List D} {K : D} {ce : Nat} {st st1 : Sto} {v : Int} (he : C.call 41 [.obj ce, .int L.length] st = .ok (.int v) st1) (h0 : 0 ≤ v) (h1 : v < L.length) : ∃ d ∈ L, evS C (.ret (.ix (.var 2) (.call 41 [(.var 0), (.blt .len [(.var 2)])]))) [some (.obj ce), some K, some (.lst L)] st = .rt d st1 := by
  obtain ⟨d, hd, hx⟩ := idx_at h0 h1
  have hc : ev C (.call 41 [(.var 0), (.blt .len [(.var 2)])]) [some (.obj ce), some K, some (.lst L)] st = .ok (.int v) st1 := by
    simp [ev, evs, Out.bind, Out.of, allv, view, bltop, bLen, he]
  have hl : ev C (.var 2) [some (.obj ce), some K, some (.lst L)] st = .ok (.lst L) st := rfl
  exact ⟨d, hd, evS_ret (ev_ixv hl hc (show idx (view st1 (.lst L)) (.int v) = some d from hx))⟩
theorem no_worth {K : D} (hK : K ∈ kindsL) {st : Sto} {ce t : Nat} (hT : TK st ce t) (ht : t < 900000) : ∃ w ∈ badW K, ∃ st', callF P 38 44 [.obj ce, K] st = .ok w st' ∧ Up ce (t + 1) st st' := by
  have go : callF P 38 44 [.obj ce, K] st = endF false st.length (evSs (C8 st 37) b44 [some (.obj ce), some K, none] st) := callF_fn (P := P) (fn := f44) rfl rfl
  have hl := len_w K
  obtain ⟨v, st1, e1, v0, v1, U1⟩ := tk (m := ((badW K).length : Nat)) 35 hT ht (by omega) (by omega)
  obtain ⟨d, hd, s2⟩ := drawn (C := C8 st 37) (L := badW K) (K := K) (ce := ce) e1 v0 v1
  refine ⟨d, hd, st1, ?_, U1⟩
  rw [go, show b44 = b44.take 5 ++ [.ret (.ix (.var 2) (.call 41 [(.var 0), (.blt .len [(.var 2)])]))] from rfl, evSs_app (nw_list _ ce st K hK), rt_cons s2]
  exact endF_same U1.len
theorem no_deed {K : D} (hK : K ∈ kindsL) {st : Sto} {ce t : Nat} (hT : TK st ce t) (ht : t < 900000) : ∃ w ∈ badD K, ∃ st', callF P 38 46 [.obj ce, K] st = .ok w st' ∧ Up ce (t + 1) st st' := by
  have go : callF P 38 46 [.obj ce, K] st = endF false st.length (evSs (C8 st 37) b46 [some (.obj ce), some K, none] st) := callF_fn (P := P) (fn := f46) rfl rfl
  have hl := len_d K
  obtain ⟨v, st1, e1, v0, v1, U1⟩ := tk (m := ((badD K).length : Nat)) 35 hT ht (by omega) (by omega)
  obtain ⟨d, hd, s2⟩ := drawn (C := C8 st 37) (L := badD K) (K := K) (ce := ce) e1 v0 v1
  refine ⟨d, hd, st1, ?_, U1⟩
  rw [go, show b46 = b46.take 2 ++ [.ret (.ix (.var 2) (.call 41 [(.var 0), (.blt .len [(.var 2)])]))] from rfl, evSs_app (nd_list _ ce st K hK), rt_cons s2]
  exact endF_same U1.len
theorem qWS : eqD (.str (Str.ofString "whole")) (.str (Str.ofString "share")) = some false := by decide +kernel
theorem qSS : eqD (.str (Str.ofString "share")) (.str (Str.ofString "share")) = some true := by decide +kernel
theorem qRS : eqD (.str (Str.ofString "rest")) (.str (Str.ofString "share")) = some false := by decide +kernel
theorem qWR : eqD (.str (Str.ofString "whole")) (.str (Str.ofString "rest")) = some false := by decide +kernel
theorem qRR : eqD (.str (Str.ofString "rest")) (.str (Str.ofString "rest")) = some true := by decide +kernel
theorem worth {K : D} (hK : K ∈ kindsL) {st : Sto} {ce t : Nat} (hT : TK st ce t) (ht : t < 900000) : ∃ w st', callF P 38 45 [.obj ce, K] st = .ok w st' ∧ Gd K w ∧ Up ce (t + 2) st st' := by
  have go : callF P 38 45 [.obj ce, K] st = endF false st.length (evSs (C8 st 37) b45 [some (.obj ce), some K, none, none] st) := callF_fn (P := P) (fn := f45) rfl rfl
  obtain ⟨v, st1, e1, v0, v1, U1⟩ := tk (m := 2001) 35 hT ht (by omega) (by omega)
  have e1 : callF P 37 41 [.obj ce, .int 2001] st = .ok (.int v) st1 := e1
  obtain ⟨w, st2, e2, w0, w1, U2⟩ := take c__law_take 35 ce (t + 1) 3 st1 U1.tk (by omega) (by omega) (by omega)
  have e2 : callF P 37 41 [.obj ce, .int 3] st1 = .ok (.int w) st2 := e2
  have s0 : evS (C8 st 37) (b45.getD 0 .pass) [some (.obj ce), some K, none, none] st = .nx [some (.obj ce), some K, some (.int (v - 1000)), none] st1 := by
    simp [evS, ev, evs, b45, Out.bind, Out.thenS, Out.of, OutS.of, put, c8_call, e1, view, binop]
  have s1 : evS (C8 st 37) (b45.getD 1 .pass) [some (.obj ce), some K, some (.int (v - 1000)), none] st1 = .nx [some (.obj ce), some K, some (.int (v - 1000)), some (.int w)] st2 := by
    simp [evS, ev, evs, b45, Out.bind, Out.thenS, Out.of, OutS.of, put, c8_call, e2]
  have hn : (v - 1000).natAbs ≤ 1000 := by omega
  generalize v - 1000 = i at *
  rw [show b45 = [b45.getD 0 .pass, b45.getD 1 .pass, b45.getD 2 .pass, b45.getD 3 .pass] from rfl, nx_cons s0, nx_cons s1] at go
  have U := U1.trans U2
  have qWS := qWS
  have qSS := qSS
  have qRS := qRS
  have qWR := qWR
  have qRR := qRR
  rcases kinds_cases hK with rfl | rfl | ⟨m, hm, rfl⟩
  · have s2 : evS (C8 st 37) (b45.getD 2 .pass) [some (.obj ce), some wholeD, some (.int i), some (.int w)] st2 = .nx [some (.obj ce), some wholeD, some (.int i), some (.int w)] st2 := by
      simp [lim0, lim1, lim2, lim3, lim4, lim5, lim6, lim7, lim8, lim9, lim10, lim11, evSs, evS, ev, evs, evb, evo, evc, startD, Out.bind, Out.thenS, Out.of, OutS.of, put, puts, view, binop, cfg, tru, allv, bltop, cmpop, idx, L2.atI, L2.ixN, b45, wholeD, qWS]
    have s3 : evS (C8 st 37) (b45.getD 3 .pass) [some (.obj ce), some wholeD, some (.int i), some (.int w)] st2 = .rt (.int i) st2 := by
      simp [lim0, lim1, lim2, lim3, lim4, lim5, lim6, lim7, lim8, lim9, lim10, lim11, evSs, evS, ev, evs, evb, evo, evc, startD, Out.bind, Out.thenS, Out.of, OutS.of, put, puts, view, binop, cfg, tru, allv, bltop, cmpop, idx, L2.atI, L2.ixN, b45, wholeD, qWR]
    rw [nx_cons s2, rt_cons s3] at go
    exact ⟨_, st2, go.trans (endF_same U.len), .w i hn, U⟩
  · have m2 : mulOk 2 i = true := mulOk_l (by omega) (by omega)
    have ab : (if i < 0 then -i else i) = ((i.natAbs : Nat) : Int) := by split <;> omega
    have hw : w = 0 ∨ w = 1 ∨ w = 2 := by omega
    have s2 : evS (C8 st 37) (b45.getD 2 .pass) [some (.obj ce), some shareD, some (.int i), some (.int w)] st2 = .rt (if w = 0 then fr i 1 else if w = 1 then fr 1 (1 + (i.natAbs : Nat)) else fr (2 * i + 1) 2) st2 := by
      rcases hw with rfl | rfl | rfl
      · simp [lim0, lim1, lim2, lim3, lim4, lim5, lim6, lim7, lim8, lim9, lim10, lim11, evSs, evS, ev, evs, evb, evo, evc, startD, Out.bind, Out.thenS, Out.of, OutS.of, put, puts, view, binop, cfg, tru, allv, bltop, cmpop, idx, L2.atI, L2.ixN, b45, shareD, qSS, fr, m2, bAbs, ab]
      · simp [lim0, lim1, lim2, lim3, lim4, lim5, lim6, lim7, lim8, lim9, lim10, lim11, evSs, evS, ev, evs, evb, evo, evc, startD, Out.bind, Out.thenS, Out.of, OutS.of, put, puts, view, binop, cfg, tru, allv, bltop, cmpop, idx, L2.atI, L2.ixN, b45, shareD, qSS, fr, m2, bAbs, ab]
      · simp [lim0, lim1, lim2, lim3, lim4, lim5, lim6, lim7, lim8, lim9, lim10, lim11, evSs, evS, ev, evs, evb, evo, evc, startD, Out.bind, Out.thenS, Out.of, OutS.of, put, puts, view, binop, cfg, tru, allv, bltop, cmpop, idx, L2.atI, L2.ixN, b45, shareD, qSS, fr, m2, bAbs, ab]
    rw [rt_cons s2] at go
    refine ⟨_, st2, go.trans (endF_same U.len), ?_, U⟩
    rcases hw with rfl | rfl | rfl
    · exact .s i 1 ⟨by decide, Nat.gcd_one_right _⟩ (by omega) (by omega)
    · exact .s 1 (1 + (i.natAbs : Nat)) ⟨by omega, Nat.gcd_one_left _⟩ (by omega) (by omega)
    · refine .s (2 * i + 1) 2 ⟨by decide, ?_⟩ (by omega) (by omega)
      have : (2 * i + 1).natAbs % 2 = 1 := by omega
      rw [Nat.gcd_comm]
      show Nat.gcd 2 _ = 1
      rw [Nat.gcd_rec, this]
      rfl
  · have dm : divOk ((m + 2 : Nat) : Int) = true := divOk_of (k := 10) (by omega) (by rw [Int.natAbs_natCast]; omega) (by omega)
    have s2 : evS (C8 st 37) (b45.getD 2 .pass) [some (.obj ce), some (restD (m + 2)), some (.int i), some (.int w)] st2 = .nx [some (.obj ce), some (restD (m + 2)), some (.int i), some (.int w)] st2 := by
      simp [lim0, lim1, lim2, lim3, lim4, lim5, lim6, lim7, lim8, lim9, lim10, lim11, evSs, evS, ev, evs, evb, evo, evc, startD, Out.bind, Out.thenS, Out.of, OutS.of, put, puts, view, binop, cfg, tru, allv, bltop, cmpop, idx, L2.atI, L2.ixN, b45, restD, qRS]
    have s3 : evS (C8 st 37) (b45.getD 3 .pass) [some (.obj ce), some (restD (m + 2)), some (.int i), some (.int w)] st2 = .rt (.int (i.fmod ((m + 2 : Nat) : Int))) st2 := by
      have hz : ((m + 2 : Nat) : Int) ≠ 0 := by omega
      unfold restD
      generalize ((m + 2 : Nat) : Int) = z at *
      simp [lim0, lim1, lim2, lim3, lim4, lim5, lim6, lim7, lim8, lim9, lim10, lim11, evSs, evS, ev, evs, evb, evo, evc, startD, Out.bind, Out.thenS, Out.of, OutS.of, put, puts, view, binop, cfg, tru, allv, bltop, cmpop, idx, L2.atI, L2.ixN, b45, qRR, dm, hz]
    rw [nx_cons s2, rt_cons s3] at go
    have f0 : 0 ≤ i.fmod ((m + 2 : Nat) : Int) := Int.fmod_nonneg_of_pos _ (by omega)
    have f1 : i.fmod ((m + 2 : Nat) : Int) < ((m + 2 : Nat) : Int) := Int.fmod_lt_of_pos _ (by omega)
    have e : i.fmod ((m + 2 : Nat) : Int) = ((i.fmod ((m + 2 : Nat) : Int)).toNat : Nat) := by omega
    rw [e] at go
    exact ⟨_, st2, go.trans (endF_same U.len), .r m _ hm (by omega), U⟩
end K12
namespace K12
open PySem Itp FA
def C9 (b : Sto) : Cfg := cfg P (callF P 38) b.length
theorem c9_call (b : Sto) (i : Nat) (ds : List D) (st : Sto) : (C9 b).call i ds st = callF P 38 i ds st := rfl
theorem qi (i j : Int) : eqD (.int i) (.int j) = some (i == j) := rfl
theorem up_refl {st : Sto} {ce t : Nat} (h : TK st ce t) : Up ce t st st := ⟨h, rfl, fun _ _ => rfl⟩
theorem tk_lt {st : Sto} {ce t : Nat} (h : TK st ce t) : ce < st.length := by
  obtain ⟨a, s, h⟩ := h
  exact (List.getElem?_eq_some_iff.mp h).1
theorem draws {f : D → Sto → Out (Option D)} {ce : Nat} (hf : ∀ d st t, TK st ce t → t < 900000 → ∃ b st', f d st = .ok (some (.bl b)) st' ∧ Up ce (t + 1) st st') : ∀ (xs : List D) (t : Nat) (st : Sto), TK st ce t → t + xs.length < 900000 → ∃ bs : List Bool, bs.length = xs.length ∧ ∃ st', compD f xs st = .ok (bs.map D.bl) st' ∧ Up ce (t + xs.length) st st'
  | [], t, st, hT, _ => ⟨[], rfl, st, rfl, up_refl hT⟩
  | d :: xs, t, st, hT, h => by
    obtain ⟨b, st1, e1, U1⟩ := hf d st t hT (by omega)
    obtain ⟨bs, hl, st2, e2, U2⟩ := draws hf xs (t + 1) st1 U1.tk (by simp only [List.length_cons] at h; omega)
    refine ⟨b :: bs, by simp [hl], st2, ?_, ?_⟩
    · simp only [compD, e1, e2, Out.bind, List.map_cons]
    · have U := U1.trans U2
      rw [show t + (d :: xs).length = t + 1 + xs.length by simp only [List.length_cons]; omega]
      exact U
def spE : E := .comp false [11] (.name 11) .range [(.lit (.int 5))] [] (.cmp .eq (.call 41 [(.var 0), (.lit (.int 3))]) (.lit (.int 0)))
def spF (C : Cfg) (env : Itp.Env) : D → Sto → Out (Option D) := fun d st => match bnd (.name 11) d (wipeD env [11]) with
  | some env1 => (evc C [] env1 st).bind fun k st => if k then (ev C (.cmp .eq (.call 41 [(.var 0), (.lit (.int 3))]) (.lit (.int 0))) env1 st).bind fun y st => .ok (some y) st else .ok none st
  | none => .bad
theorem sp_eq (C : Cfg) (env : Itp.Env) (st : Sto) : ev C spE env st = (compD (spF C env) (upto 0 5) st).bind fun ys st => if lim ys.length then .ok (.lst ys) st else .bad := by
  have hi : items .range [.int 5] = some (upto 0 5) := rfl
  have hs : evs C [(.lit (.int 5))] env st = .ok [.int 5] st := rfl
  rw [spE, ev, hs, Out.bind]
  simp only [hi]
  rfl
theorem spoilt (b : Sto) {K : D} {ce t : Nat} {st : Sto} (hT : TK st ce t) (ht : t < 800000) : ∃ s0 s1 s2 s3 s4 : Bool, ∃ st', ev (C9 b) spE [some (.obj ce), some K, none, none, none, none, none, none, none, none, none, none, none] st = .ok (.lst [.bl s0, .bl s1, .bl s2, .bl s3, .bl s4]) st' ∧ Up ce (t + 5) st st' := by
  have hu : (upto 0 5).length = 5 := rfl
  obtain ⟨bs, hl, st', e, U⟩ := draws (ce := ce) (f := spF (C9 b) [some (.obj ce), some K, none, none, none, none, none, none, none, none, none, none, none]) (fun d st t hT ht => by
      obtain ⟨v, st1, e1, v0, v1, U1⟩ := tk (m := 3) 36 hT ht (by omega) (by omega)
      have e1 : callF P 38 41 [.obj ce, .int 3] st = .ok (.int v) st1 := e1
      refine ⟨v == 0, st1, ?_, U1⟩
      simp [spF, bnd, wipeD, put, evc, ev, evs, Out.bind, Out.of, view, cmpop, c9_call, e1, qi]) (upto 0 5) t st hT (by omega)
  rw [hu] at hl U
  match bs, hl with
  | [s0, s1, s2, s3, s4], _ =>
    refine ⟨s0, s1, s2, s3, s4, st', ?_, U⟩
    rw [sp_eq, e]
    simp [Out.bind, lim5]
def woE : E := .ite (.ix (.var 2) (.var 12)) (.call 44 [(.var 0), (.var 1)]) (.call 45 [(.var 0), (.var 1)])
theorem wo1 (b : Sto) {K : D} (hK : K ∈ kindsL) {ce t : Nat} {st : Sto} (hT : TK st ce t) (ht : t < 800000) (s : Bool) {L : List D} {i : Int} {e3 e4 e5 e6 e7 e8 e9 e10 e11 : Option D} (hx : idx (.lst L) (.int i) = some (.bl s)) :
    ∃ u t' st', ev (C9 b) woE [some (.obj ce), some K, some (.lst L), e3, e4, e5, e6, e7, e8, e9, e10, e11, some (.int i)] st = .ok u st' ∧ Wo K s u ∧ t' ≤ t + 2 ∧ Up ce t' st st' := by
  have hc : ev (C9 b) (.ix (.var 2) (.var 12)) [some (.obj ce), some K, some (.lst L), e3, e4, e5, e6, e7, e8, e9, e10, e11, some (.int i)] st = .ok (.bl s) st :=
    ev_ixv (st1 := st) (d := .lst L) rfl rfl hx
  rw [woE, ev_ite hc]
  cases s with
  | true =>
    obtain ⟨w, hw, st', e, U⟩ := no_worth hK hT (by omega)
    refine ⟨w, _, st', ?_, hw, by omega, U⟩
    rw [if_pos rfl]
    simp [ev, evs, Out.bind, c9_call, e]
  | false =>
    obtain ⟨w, st', e, hw, U⟩ := worth hK hT (by omega)
    refine ⟨w, _, st', ?_, hw, by omega, U⟩
    rw [if_neg (by simp)]
    simp [ev, evs, Out.bind, c9_call, e]
def wosE : E := .comp true [12] (.name 12) .seq [(.tup [(.lit (.int 1)), (.lit (.int 2))])] [] woE
theorem wos (b : Sto) {K bad z : D} (hK : K ∈ kindsL) {ce t : Nat} {st : Sto} (hT : TK st ce t) (ht : t < 700000) (s0 s1 s2 s3 s4 : Bool) :
    ∃ u v t' st', ev (C9 b) wosE [some (.obj ce), some K, some (.lst [.bl s0, .bl s1, .bl s2, .bl s3, .bl s4]), some bad, some z, none, none, none, none, none, none, none, none] st = .ok (.obj st.length) (st' ++ [.lst [u, v]]) ∧ Wo K s1 u ∧ Wo K s2 v ∧ t' ≤ t + 4 ∧ Up ce t' st st' := by
  obtain ⟨u, t1, st1, e1, hu, h1, U1⟩ := wo1 b hK hT (by omega) s1 (L := [.bl s0, .bl s1, .bl s2, .bl s3, .bl s4]) (i := 1) (e3 := some bad) (e4 := some z) (e5 := none) (e6 := none) (e7 := none) (e8 := none) (e9 := none) (e10 := none) (e11 := none) rfl
  obtain ⟨v, t2, st2, e2, hv, h2, U2⟩ := wo1 b hK U1.tk (by omega) s2 (L := [.bl s0, .bl s1, .bl s2, .bl s3, .bl s4]) (i := 2) (e3 := some bad) (e4 := some z) (e5 := none) (e6 := none) (e7 := none) (e8 := none) (e9 := none) (e10 := none) (e11 := none) rfl
  have U := U1.trans U2
  refine ⟨u, v, t2, st2, ?_, hu, hv, by omega, U⟩
  have hi : items .seq [.tup [.int 1, .int 2]] = some [.int 1, .int 2] := rfl
  have hs : evs (C9 b) [(.tup [(.lit (.int 1)), (.lit (.int 2))])] [some (.obj ce), some K, some (.lst [.bl s0, .bl s1, .bl s2, .bl s3, .bl s4]), some bad, some z, none, none, none, none, none, none, none, none] st = .ok [.tup [.int 1, .int 2]] st := rfl
  simp only [wosE, ev]
  rw [hs, Out.bind]
  simp only [hi]
  simp [compD, bnd, wipeD, put, evc, Out.bind, e1, e2, lim2, U.len]
def deE : E := .ite (.ix (.var 2) (.lit (.int 3))) (.call 46 [(.var 0), (.var 1)]) (.ix (.lst false [(.lit (.str (Str.ofString "plus"))), (.lit (.str (Str.ofString "less"))), (.lit (.str (Str.ofString "times")))]) (.call 41 [(.var 0), (.lit (.int 3))]))
theorem deed1 (b : Sto) {K : D} (hK : K ∈ kindsL) {ce t : Nat} {st : Sto} (hT : TK st ce t) (ht : t < 800000) (s : Bool) {x0 x1 x2 x4 : D} {e3 e4 e5 e6 e7 e8 e9 e10 e11 e12 : Option D} :
    ∃ d st', ev (C9 b) deE [some (.obj ce), some K, some (.lst [x0, x1, x2, .bl s, x4]), e3, e4, e5, e6, e7, e8, e9, e10, e11, e12] st = .ok d st' ∧ (if s then d ∈ badD K else ∃ w ∈ deeds3, d = .str w) ∧ Up ce (t + 1) st st' := by
  have hc : ev (C9 b) (.ix (.var 2) (.lit (.int 3))) [some (.obj ce), some K, some (.lst [x0, x1, x2, .bl s, x4]), e3, e4, e5, e6, e7, e8, e9, e10, e11, e12] st = .ok (.bl s) st := rfl
  rw [deE, ev_ite hc]
  cases s with
  | true =>
    obtain ⟨w, hw, st', e, U⟩ := no_deed hK hT (by omega)
    refine ⟨w, st', ?_, hw, U⟩
    rw [if_pos rfl]
    simp [ev, evs, Out.bind, c9_call, e]
  | false =>
    obtain ⟨v, st1, e1, v0, v1, U1⟩ := tk (m := 3) 36 hT (by omega) (by omega) (by omega)
    have e1 : callF P 38 41 [.obj ce, .int 3] st = .ok (.int v) st1 := e1
    obtain ⟨d, hd, hx⟩ := idx_at (ds := deeds3.map D.str) v0 (by exact v1)
    obtain ⟨w, hw, rfl⟩ := List.mem_map.mp hd
    have hL : ev (C9 b) (.lst false [(.lit (.str (Str.ofString "plus"))), (.lit (.str (Str.ofString "less"))), (.lit (.str (Str.ofString "times")))]) [some (.obj ce), some K, some (.lst [x0, x1, x2, .bl false, x4]), e3, e4, e5, e6, e7, e8, e9, e10, e11, e12] st = .ok (.lst (deeds3.map D.str)) st := rfl
    have hc : ev (C9 b) (.call 41 [(.var 0), (.lit (.int 3))]) [some (.obj ce), some K, some (.lst [x0, x1, x2, .bl false, x4]), e3, e4, e5, e6, e7, e8, e9, e10, e11, e12] st = .ok (.int v) st1 := by
      simp [ev, evs, Out.bind, c9_call, e1]
    refine ⟨.str w, st1, ?_, ⟨w, hw, rfl⟩, U1⟩
    rw [if_neg (by simp)]
    exact ev_ixv hL hc (show idx (view st1 (.lst (deeds3.map D.str))) (.int v) = some (.str w) from hx)
theorem zero_ev (b : Sto) {K : D} (hK : K ∈ kindsL) (st : Sto) {e0 e2 e3 e4 e5 e6 e7 e8 e9 e10 e11 e12 : Option D} : ev (C9 b) (.ite (.cmp .eq (.ix (.var 1) (.lit (.int 0))) (.lit (.str (Str.ofString "share")))) (.tup [(.lit (.int 0)), (.lit (.int 1))]) (.lit (.int 0))) [e0, some K, e2, e3, e4, e5, e6, e7, e8, e9, e10, e11, e12] st = .ok (zeroD K) st := by
  have qWS := qWS
  have qSS := qSS
  have qRS := qRS
  rcases kinds_cases hK with rfl | rfl | ⟨m, hm, rfl⟩
  · have z : zeroD wholeD = .int 0 := by unfold zeroD; rw [if_neg (by decide +kernel)]
    rw [z]
    simp [lim0, lim1, lim2, lim3, lim4, lim5, lim6, lim7, lim8, lim9, lim10, lim11, evSs, evS, ev, evs, evb, evo, evc, startD, Out.bind, Out.thenS, Out.of, OutS.of, put, puts, view, binop, cfg, tru, allv, bltop, cmpop, idx, L2.atI, L2.ixN, wholeD, qWS]
  · have z : zeroD shareD = fr 0 1 := by unfold zeroD; rw [if_pos (by decide +kernel)]
    rw [z]
    simp [lim0, lim1, lim2, lim3, lim4, lim5, lim6, lim7, lim8, lim9, lim10, lim11, evSs, evS, ev, evs, evb, evo, evc, startD, Out.bind, Out.thenS, Out.of, OutS.of, put, puts, view, binop, cfg, tru, allv, bltop, cmpop, idx, L2.atI, L2.ixN, shareD, qSS, fr]
  · have z : zeroD (restD (m + 2)) = .int 0 := rfl
    rw [z]
    simp [lim0, lim1, lim2, lim3, lim4, lim5, lim6, lim7, lim8, lim9, lim10, lim11, evSs, evS, ev, evs, evb, evo, evc, startD, Out.bind, Out.thenS, Out.of, OutS.of, put, puts, view, binop, cfg, tru, allv, bltop, cmpop, idx, L2.atI, L2.ixN, restD, qRS]
theorem ev_ixi0 {C : Cfg} {e : E} {i : Int} {env : Itp.Env} {st st1 : Sto} {d v : D} (h : ev C e env st = .ok d st1) (hx : idx (view st1 d) (.int i) = some v) : ev C (.ix e (.lit (.int i))) env st = .ok v st1 := by
  simp only [ev, h, Out.bind, hx, Out.of]
theorem rest_ev (C : Cfg) {K : D} (hK : K ∈ kindsL) (st : Sto) {e0 e2 e3 e4 e5 e6 e7 e8 e9 e10 e11 e12 : Option D} : ev C (.cmp .eq (.ix (.var 1) (.lit (.int 0))) (.lit (.str (Str.ofString "rest")))) [e0, some K, e2, e3, e4, e5, e6, e7, e8, e9, e10, e11, e12] st = .ok (.bl (isRe K)) st := by
  have qWR := qWR
  have qRR := qRR
  have qSR : eqD (.str (Str.ofString "share")) (.str (Str.ofString "rest")) = some false := by decide +kernel
  rcases kinds_cases hK with rfl | rfl | ⟨m, hm, rfl⟩
  · rw [show isRe wholeD = false from rfl]
    simp [lim0, lim1, lim2, lim3, lim4, lim5, lim6, lim7, lim8, lim9, lim10, lim11, evSs, evS, ev, evs, evb, evo, evc, startD, Out.bind, Out.thenS, Out.of, OutS.of, put, puts, view, binop, cfg, tru, allv, bltop, cmpop, idx, L2.atI, L2.ixN, wholeD, qWR]
  · rw [show isRe shareD = false from rfl]
    simp [lim0, lim1, lim2, lim3, lim4, lim5, lim6, lim7, lim8, lim9, lim10, lim11, evSs, evS, ev, evs, evb, evo, evc, startD, Out.bind, Out.thenS, Out.of, OutS.of, put, puts, view, binop, cfg, tru, allv, bltop, cmpop, idx, L2.atI, L2.ixN, shareD, qSR]
  · rw [show isRe (restD (m + 2)) = true from rfl]
    simp [lim0, lim1, lim2, lim3, lim4, lim5, lim6, lim7, lim8, lim9, lim10, lim11, evSs, evS, ev, evs, evb, evo, evc, startD, Out.bind, Out.thenS, Out.of, OutS.of, put, puts, view, binop, cfg, tru, allv, bltop, cmpop, idx, L2.atI, L2.ixN, restD, qRR]
def body7 : List S := [.set 10 (.bop false [(.cmp .eq (.ix (.var 1) (.lit (.int 0))) (.lit (.str (Str.ofString "share")))), (.bop true [(.cmp .eq (.ix (.var 1) (.lit (.int 0))) (.lit (.str (Str.ofString "rest")))), (.cmp .isin (.ix (.var 1) (.lit (.int 1))) (.tup [(.lit (.int 2)), (.lit (.int 3)), (.lit (.int 5)), (.lit (.int 7)), (.lit (.int 11))]))])]), .set 8 (.ite (.var 10) (.lst false [(.lit (.str (Str.ofString "nought")))]) (.lst false [(.lit (.str (Str.ofString "deed")))]))]
theorem has_ev (C : Cfg) (st : Sto) {e0 e2 e3 e4 e5 e6 e7 e8 e9 e10 e11 e12 : Option D} : ∀ K ∈ kindsL, evSs C body7 [e0, some K, e2, e3, e4, e5, e6, e7, e8, e9, e10, e11, e12] st = .nx [e0, some K, e2, e3, e4, e5, e6, e7, some (if hasO K then wordD "nought" else wordD "deed"), e9, some (.bl (hasO K)), e11, e12] st :=
  all13 ⟨by kernel_rfl, by kernel_rfl, by kernel_rfl, by kernel_rfl, by kernel_rfl, by kernel_rfl, by kernel_rfl, by kernel_rfl, by kernel_rfl, by kernel_rfl, by kernel_rfl, by kernel_rfl, by kernel_rfl⟩
end K12
namespace K12
open PySem Itp FA
/-- what a refusal's number is told as -/
def wordN : Nat → D
  | 1 => wordD "kind"
  | 2 => wordD "worth"
  | 12 => wordD "deed"
  | _ => wordD "nought"
def dueD : Option Nat → D
  | some n => wordN n
  | none => .non
theorem say_n {n : Nat} (hn : n ∈ [1, 2, 12, 16]) {act : Sto → Out D} {st : Sto} (h : act (st ++ [.dead]) = .exc n (st ++ [.dead])) : callA P (callF P 38) 42 act st = .ok (wordN n) st := by
  simp only [List.mem_cons, List.not_mem_nil, or_false] at hn
  rcases hn with rfl | rfl | rfl | rfl
  · exact said_exc c__law_said 38 st act 1 "kind" h sub_1 rfl
  · exact said_exc c__law_said 38 st act 2 "worth" h sub_2 rfl
  · exact said_exc c__law_said 38 st act 12 "deed" h sub_12 rfl
  · exact said_exc c__law_said 38 st act 16 "nought" h sub_16 rfl
theorem say_v {act : Sto → Out D} {st : Sto} (h : Val (act (st ++ [.dead])) (st ++ [.dead])) : ∃ p, callA P (callF P 38) 42 act st = .ok (.rep p) st := by
  obtain ⟨val, p, h1, h2, h3⟩ := h
  exact ⟨p, said_ok c__law_said 38 st act val p h1 h2 h3⟩
theorem callL_ev (b : Sto) (e : E) (env : Itp.Env) (st : Sto) : ev (C9 b) (.callL 42 e) env st = callA P (callF P 38) 42 (fun s => ev (C9 b) e env s) st := by simp only [ev]; rfl
theorem wq {n : Nat} : eqD (wordN n) (wordN n) = some true ∧ isO (wordN n) = false := by
  unfold wordN
  split <;> exact ⟨(eqs_w _).eqD, rfl⟩
theorem wl (n : Nat) : ∃ w, wordN n = .lst [.str w] := by
  unfold wordN
  split <;> exact ⟨_, rfl⟩
theorem at_dead {s : Sto} {n : Nat} {o : O} (h : s[n]? = some o) : (s ++ [O.dead])[n]? = some o := by
  rw [List.getElem?_append_left (List.getElem?_eq_some_iff.mp h).1]
  exact h
/-- the worths behind their name -/
theorem arg_ev (C : Cfg) {s : Sto} {n : Nat} {u v : D} (h : s[n]? = some (.lst [u, v])) {e0 e1 e2 e3 e4 e6 e7 e8 e9 e10 e11 e12 : Option D} : ev C (.ix (.var 5) (.lit (.int 0))) [e0, e1, e2, e3, e4, some (.obj n), e6, e7, e8, e9, e10, e11, e12] s = .ok u s ∧ ev C (.ix (.var 5) (.lit (.int 1))) [e0, e1, e2, e3, e4, some (.obj n), e6, e7, e8, e9, e10, e11, e12] s = .ok v s := by
  have hv : view s (.obj n) = .lst [u, v] := by simp only [view, h]
  constructor
  · exact ev_ixi0 (show ev C (.var 5) _ s = .ok (.obj n) s from rfl) (by rw [hv]; rfl)
  · exact ev_ixi0 (show ev C (.var 5) _ s = .ok (.obj n) s from rfl) (by rw [hv]; rfl)
theorem act1 (b : Sto) {s : Sto} {n : Nat} {u v own d : D} (h : s[n]? = some (.lst [u, v])) {e0 e1 e2 e3 e4 e8 e9 e10 e11 e12 : Option D} : ev (C9 b) (.call 32 [(.var 7), (.var 6), (.ix (.var 5) (.lit (.int 0))), (.ix (.var 5) (.lit (.int 1)))]) [e0, e1, e2, e3, e4, some (.obj n), some d, some own, e8, e9, e10, e11, e12] s = callF P 38 32 [own, d, u, v] s := by
  obtain ⟨h1, h2⟩ := arg_ev (C9 b) h (e0 := e0) (e1 := e1) (e2 := e2) (e3 := e3) (e4 := e4) (e6 := some d) (e7 := some own) (e8 := e8) (e9 := e9) (e10 := e10) (e11 := e11) (e12 := e12)
  have h3 : ev (C9 b) (.var 7) [e0, e1, e2, e3, e4, some (.obj n), some d, some own, e8, e9, e10, e11, e12] s = .ok own s := rfl
  have h4 : ev (C9 b) (.var 6) [e0, e1, e2, e3, e4, some (.obj n), some d, some own, e8, e9, e10, e11, e12] s = .ok d s := rfl
  rw [ev]
  simp only [evs, h1, h2, h3, h4, Out.bind]
  rfl
theorem act2 (b : Sto) {s : Sto} {n : Nat} {u v own d : D} (h : s[n]? = some (.lst [u, v])) {e0 e1 e2 e3 e4 e8 e9 e10 e11 e12 : Option D} : ev (C9 b) (.call 37 [(.var 7), (.ix (.var 5) (.lit (.int 0))), (.ix (.var 5) (.lit (.int 1)))]) [e0, e1, e2, e3, e4, some (.obj n), some d, some own, e8, e9, e10, e11, e12] s = callF P 38 37 [own, u, v] s := by
  obtain ⟨h1, h2⟩ := arg_ev (C9 b) h (e0 := e0) (e1 := e1) (e2 := e2) (e3 := e3) (e4 := e4) (e6 := some d) (e7 := some own) (e8 := e8) (e9 := e9) (e10 := e10) (e11 := e11) (e12 := e12)
  have h3 : ev (C9 b) (.var 7) [e0, e1, e2, e3, e4, some (.obj n), some d, some own, e8, e9, e10, e11, e12] s = .ok own s := rfl
  rw [ev]
  simp only [evs, h1, h2, h3, Out.bind]
  rfl
/-- by which the first look is refused -/
def n1 (K : D) (s0 s1 s2 s3 : Bool) (d : D) : Option Nat := if s0 then some 1 else due1 K s1 s2 s3 d
def n2 (K : D) (s0 s1 s2 : Bool) : Option Nat := if s0 then some 1 else due2 K s1 s2
theorem n1_in {K : D} {s0 s1 s2 s3 : Bool} {d : D} {n : Nat} (h : n1 K s0 s1 s2 s3 d = some n) : n ∈ [1, 2, 12, 16] := by
  unfold n1 due1 at h
  repeat' split at h
  all_goals first | (cases h; done) | (cases h; simp)
theorem n2_in {K : D} {s0 s1 s2 : Bool} {n : Nat} (h : n2 K s0 s1 s2 = some n) : n ∈ [1, 2, 12, 16] := by
  unfold n2 due2 at h
  repeat' split at h
  all_goals first | (cases h; done) | (cases h; simp)
section
variable {K bad u v d : D} {s0 s1 s2 s3 : Bool}
theorem told1 (b : Sto) (hK : K ∈ kindsL) (hb : bad ∈ badL) (hu : Wo K s1 u) (hv : Wo K s2 v) (hd : De K s3 d v) {s : Sto} {n : Nat} (h : s[n]? = some (.lst [u, v])) {e0 e1 e2 e3 e4 e8 e9 e10 e11 e12 : Option D} :
    match n1 K s0 s1 s2 s3 d with
    | some m => ev (C9 b) (.callL 42 (.call 32 [(.var 7), (.var 6), (.ix (.var 5) (.lit (.int 0))), (.ix (.var 5) (.lit (.int 1)))])) [e0, e1, e2, e3, e4, some (.obj n), some d, some (if s0 then bad else K), e8, e9, e10, e11, e12] s = .ok (wordN m) s
    | none => ∃ p, ev (C9 b) (.callL 42 (.call 32 [(.var 7), (.var 6), (.ix (.var 5) (.lit (.int 0))), (.ix (.var 5) (.lit (.int 1)))])) [e0, e1, e2, e3, e4, some (.obj n), some d, some (if s0 then bad else K), e8, e9, e10, e11, e12] s = .ok (.rep p) s := by
  have a := act1 b (at_dead h) (own := if s0 then bad else K) (d := d) (e0 := e0) (e1 := e1) (e2 := e2) (e3 := e3) (e4 := e4) (e8 := e8) (e9 := e9) (e10 := e10) (e11 := e11) (e12 := e12)
  rw [callL_ev]
  cases hn : n1 K s0 s1 s2 s3 d with
  | some m =>
    refine say_n (n1_in hn) ?_
    rw [a]
    unfold n1 at hn
    cases s0 with
    | true =>
      rw [if_pos rfl] at hn
      cases hn
      exact out1b hb _
    | false =>
      rw [if_neg (by simp)] at hn
      have o := out1 hK hu hv hd (s ++ [.dead])
      rw [hn] at o
      exact o
  | none =>
    refine say_v ?_
    rw [a]
    unfold n1 at hn
    cases s0 with
    | true =>
      rw [if_pos rfl] at hn
      cases hn
    | false =>
      rw [if_neg (by simp)] at hn
      have o := out1 hK hu hv hd (s ++ [.dead])
      rw [hn] at o
      exact o
theorem told2 (b : Sto) (hK : K ∈ kindsL) (hb : bad ∈ badL) (hu : Wo K s1 u) (hv : Wo K s2 v) {s : Sto} {n : Nat} (h : s[n]? = some (.lst [u, v])) {e0 e1 e2 e3 e4 e8 e9 e10 e11 e12 : Option D} :
    match n2 K s0 s1 s2 with
    | some m => ev (C9 b) (.callL 42 (.call 37 [(.var 7), (.ix (.var 5) (.lit (.int 0))), (.ix (.var 5) (.lit (.int 1)))])) [e0, e1, e2, e3, e4, some (.obj n), some d, some (if s0 then bad else K), e8, e9, e10, e11, e12] s = .ok (wordN m) s
    | none => ∃ c ∈ [(-1 : Int), 0, 1], ev (C9 b) (.callL 42 (.call 37 [(.var 7), (.ix (.var 5) (.lit (.int 0))), (.ix (.var 5) (.lit (.int 1)))])) [e0, e1, e2, e3, e4, some (.obj n), some d, some (if s0 then bad else K), e8, e9, e10, e11, e12] s = .ok (.rep (.int c)) s := by
  have a := act2 b (at_dead h) (own := if s0 then bad else K) (d := d) (e0 := e0) (e1 := e1) (e2 := e2) (e3 := e3) (e4 := e4) (e8 := e8) (e9 := e9) (e10 := e10) (e11 := e11) (e12 := e12)
  rw [callL_ev]
  cases hn : n2 K s0 s1 s2 with
  | some m =>
    refine say_n (n2_in hn) ?_
    rw [a]
    unfold n2 at hn
    cases s0 with
    | true =>
      rw [if_pos rfl] at hn
      cases hn
      exact out2b hb _
    | false =>
      rw [if_neg (by simp)] at hn
      have o := out2 hK hu hv (s ++ [.dead])
      rw [hn] at o
      exact o
  | none =>
    unfold n2 at hn
    cases s0 with
    | true =>
      rw [if_pos rfl] at hn
      cases hn
    | false =>
      rw [if_neg (by simp)] at hn
      have o := out2 hK hu hv (s ++ [.dead])
      rw [hn] at o
      obtain ⟨c, hc, o⟩ := o
      refine ⟨c, hc, said_ok c__law_said 38 s _ (.int c) (.int c) ?_ rfl (rep_int (by simp only [List.mem_cons, List.not_mem_nil, or_false] at hc; rcases hc with rfl | rfl | rfl <;> (unfold Sh; decide)))⟩
      rw [a]
      exact o
end
def n6 (s0 s1 s2 s3 : Bool) : Option Nat := if s0 then some 1 else if s1 || s2 then some 2 else if s3 then some 12 else none
section
variable (C : Cfg) (st : Sto) {e0 e1 e2 e3 e4 e5 e6 e7 e8 e9 e10 e11 e12 : Option D} {K bad d z : D} {s0 s1 s2 s3 s4 : Bool}
abbrev spD (s0 s1 s2 s3 s4 : Bool) : D := .lst [.bl s0, .bl s1, .bl s2, .bl s3, .bl s4]
theorem t5 : evS C (b47.getD 5 .pass) [e0, some K, some (spD s0 s1 s2 s3 s4), some bad, e4, e5, e6, e7, e8, e9, e10, e11, e12] st = .nx [e0, some K, some (spD s0 s1 s2 s3 s4), some bad, e4, e5, e6, some (if s0 then bad else K), e8, e9, e10, e11, e12] st := by
  cases s0 <;> simp [lim0, lim1, lim2, lim3, lim4, lim5, lim6, lim7, lim8, lim9, lim10, lim11, evSs, evS, ev, evs, evb, evo, evc, startD, Out.bind, Out.thenS, Out.of, OutS.of, put, puts, view, binop, cfg, tru, allv, bltop, cmpop, idx, L2.atI, L2.ixN, b47]
theorem t6 : evS C (b47.getD 6 .pass) [e0, e1, some (spD s0 s1 s2 s3 s4), e3, e4, e5, e6, e7, e8, e9, e10, e11, e12] st = .nx [e0, e1, some (spD s0 s1 s2 s3 s4), e3, e4, e5, e6, e7, some (dueD (n6 s0 s1 s2 s3)), e9, e10, e11, e12] st := by
  cases s0 <;> cases s1 <;> cases s2 <;> cases s3 <;> simp [lim0, lim1, lim2, lim3, lim4, lim5, lim6, lim7, lim8, lim9, lim10, lim11, evSs, evS, ev, evs, evb, evo, evc, startD, Out.bind, Out.thenS, Out.of, OutS.of, put, puts, view, binop, cfg, tru, allv, bltop, cmpop, idx, L2.atI, L2.ixN, b47, n6, dueD, wordN, wordD]
theorem t7_some {n : Nat} : evS C (b47.getD 7 .pass) [e0, e1, e2, e3, e4, e5, e6, e7, some (wordN n), e9, e10, e11, e12] st = .nx [e0, e1, e2, e3, e4, e5, e6, e7, some (wordN n), e9, e10, e11, e12] st := by
  obtain ⟨w, hw⟩ := wl n
  rw [hw]
  simp [lim0, lim1, lim2, lim3, lim4, lim5, lim6, lim7, lim8, lim9, lim10, lim11, evSs, evS, ev, evs, evb, evo, evc, startD, Out.bind, Out.thenS, Out.of, OutS.of, put, puts, view, binop, cfg, tru, allv, bltop, cmpop, idx, L2.atI, L2.ixN, b47, isNon]
theorem t7_no {w : Str} (hw : w ∈ deeds3) : evS C (b47.getD 7 .pass) [e0, e1, e2, e3, e4, e5, some (.str w), e7, some .non, e9, e10, e11, e12] st = .nx [e0, e1, e2, e3, e4, e5, some (.str w), e7, some .non, e9, e10, e11, e12] st := by
  have hq : eqD (.str w) (.str (Str.ofString "over")) = some false := by
    simp only [deeds3, List.mem_cons, List.not_mem_nil, or_false] at hw
    rcases hw with rfl | rfl | rfl <;> decide +kernel
  simp [lim0, lim1, lim2, lim3, lim4, lim5, lim6, lim7, lim8, lim9, lim10, lim11, evSs, evS, ev, evs, evb, evo, evc, startD, Out.bind, Out.thenS, Out.of, OutS.of, put, puts, view, binop, cfg, tru, allv, bltop, cmpop, idx, L2.atI, L2.ixN, b47, isNon, hq]
theorem t7_ov (hK : K ∈ kindsL) : evS C (b47.getD 7 .pass) [e0, some K, e2, e3, e4, e5, some (.str overS), e7, some .non, e9, e10, e11, e12] st = .nx [e0, some K, e2, e3, e4, e5, some (.str overS), e7, some (if hasO K then wordD "nought" else wordD "deed"), e9, some (.bl (hasO K)), e11, e12] st := by
  have hc : ev C (.bop true [(.cmp .is (.var 8) (.lit .non)), (.cmp .eq (.var 6) (.lit (.str (Str.ofString "over"))))]) [e0, some K, e2, e3, e4, e5, some (.str overS), e7, some .non, e9, e10, e11, e12] st = .ok (.bl true) st := by kernel_rfl
  rw [show b47.getD 7 .pass = .ifs (.bop true [(.cmp .is (.var 8) (.lit .non)), (.cmp .eq (.var 6) (.lit (.str (Str.ofString "over"))))]) body7 [] from rfl, evS_if hc, if_pos rfl]
  exact has_ev C st K hK
theorem t9_some {n : Nat} : evS C (b47.getD 9 .pass) [e0, e1, e2, e3, e4, e5, e6, e7, some (wordN n), some (wordN n), e10, e11, e12] st = .nx [e0, e1, e2, e3, e4, e5, e6, e7, some (wordN n), some (wordN n), e10, e11, e12] st := by
  have q := (wq (n := n)).1
  obtain ⟨w, hw⟩ := wl n
  rw [hw] at q ⊢
  simp [lim0, lim1, lim2, lim3, lim4, lim5, lim6, lim7, lim8, lim9, lim10, lim11, evSs, evS, ev, evs, evb, evo, evc, startD, Out.bind, Out.thenS, Out.of, OutS.of, put, puts, view, binop, cfg, tru, allv, bltop, cmpop, idx, L2.atI, L2.ixN, b47, isNon, q]
theorem t9_none {p : PyData} : evS C (b47.getD 9 .pass) [e0, e1, e2, e3, e4, e5, e6, e7, some .non, some (.rep p), e10, e11, e12] st = .nx [e0, e1, e2, e3, e4, e5, e6, e7, some .non, some (.rep p), e10, e11, e12] st := by
  simp [lim0, lim1, lim2, lim3, lim4, lim5, lim6, lim7, lim8, lim9, lim10, lim11, evSs, evS, ev, evs, evb, evo, evc, startD, Out.bind, Out.thenS, Out.of, OutS.of, put, puts, view, binop, cfg, tru, allv, bltop, cmpop, idx, L2.atI, L2.ixN, b47, isNon, bIsi, Itp.isI, tyNm, tyIs, Ty.nm]
theorem t10 (hK : K ∈ kindsL) : evS C (b47.getD 10 .pass) [e0, some K, some (spD s0 s1 s2 s3 s4), e3, e4, e5, e6, e7, e8, e9, e10, e11, e12] st = .nx [e0, some K, some (spD s0 s1 s2 s3 s4), e3, e4, e5, e6, e7, some (dueD (n2 K s0 s1 s2)), e9, e10, e11, e12] st := by
  have r := rest_ev C hK st (e0 := e0) (e2 := some (spD s0 s1 s2 s3 s4)) (e3 := e3) (e4 := e4) (e5 := e5) (e6 := e6) (e7 := e7) (e8 := e8) (e9 := e9) (e10 := e10) (e11 := e11) (e12 := e12)
  have hs0 : ev C (.ix (.var 2) (.lit (.int 0))) [e0, some K, some (spD s0 s1 s2 s3 s4), e3, e4, e5, e6, e7, e8, e9, e10, e11, e12] st = .ok (.bl s0) st := rfl
  have hs1 : ev C (.ix (.var 2) (.lit (.int 1))) [e0, some K, some (spD s0 s1 s2 s3 s4), e3, e4, e5, e6, e7, e8, e9, e10, e11, e12] st = .ok (.bl s1) st := rfl
  have hs2 : ev C (.ix (.var 2) (.lit (.int 2))) [e0, some K, some (spD s0 s1 s2 s3 s4), e3, e4, e5, e6, e7, e8, e9, e10, e11, e12] st = .ok (.bl s2) st := rfl
  have h1 : ev C (.bop false [(.ix (.var 2) (.lit (.int 0))), (.cmp .eq (.ix (.var 1) (.lit (.int 0))) (.lit (.str (Str.ofString "rest"))))]) [e0, some K, some (spD s0 s1 s2 s3 s4), e3, e4, e5, e6, e7, e8, e9, e10, e11, e12] st = .ok (.bl (s0 || isRe K)) st := by
    rw [ev]
    simp only [evb, hs0, r, Out.bind, view, tru]
    cases s0 <;> simp
  have h2 : ev C (.bop false [(.ix (.var 2) (.lit (.int 1))), (.ix (.var 2) (.lit (.int 2)))]) [e0, some K, some (spD s0 s1 s2 s3 s4), e3, e4, e5, e6, e7, e8, e9, e10, e11, e12] st = .ok (.bl (s1 || s2)) st := by
    rw [ev]
    simp only [evb, hs1, hs2, Out.bind, view, tru]
    cases s1 <;> simp
  refine evS_set (d := dueD (n2 K s0 s1 s2)) (i := 8) ?_ (by simp)
  rw [ev_ite h1]
  unfold n2 due2
  cases s0 with
  | true => rfl
  | false =>
    cases hr : isRe K with
    | true => rfl
    | false =>
      rw [Bool.false_or, if_neg (by simp), if_neg (by simp), if_neg (by simp), ev_ite h2]
      cases s1 <;> cases s2 <;> rfl
theorem t12_some {n : Nat} : evS C (b47.getD 12 .pass) [e0, e1, e2, e3, e4, e5, e6, e7, some (wordN n), some (wordN n), e10, e11, e12] st = .rt (.bl true) st := by
  have q := (wq (n := n)).1
  obtain ⟨w, hw⟩ := wl n
  rw [hw] at q ⊢
  simp [lim0, lim1, lim2, lim3, lim4, lim5, lim6, lim7, lim8, lim9, lim10, lim11, evSs, evS, ev, evs, evb, evo, evc, startD, Out.bind, Out.thenS, Out.of, OutS.of, put, puts, view, binop, cfg, tru, allv, bltop, cmpop, idx, L2.atI, L2.ixN, b47, isNon, q]
theorem t12_none {c : Int} (hc : c ∈ [(-1 : Int), 0, 1]) : evS C (b47.getD 12 .pass) [e0, e1, e2, e3, e4, e5, e6, e7, some .non, some (.rep (.int c)), e10, e11, e12] st = .rt (.bl true) st := by
  simp only [List.mem_cons, List.not_mem_nil, or_false] at hc
  rcases hc with rfl | rfl | rfl <;> kernel_rfl
end
end K12
namespace K12
open PySem Itp FA
theorem endF_cut {n : Nat} {d : D} {s : Sto} (hd : nob d = true) : endF false n (.rt d s) = .ok d (s.take n) := by
  show fin false n d s = _
  unfold fin
  by_cases h : s.length = n
  · rw [if_pos (by simp [h]), List.take_of_length_le (by omega)]
  · rw [if_neg (by simp [h]), frz_nob hd]
theorem tk_app {st : Sto} {ce t : Nat} (h : TK st ce t) (xs : Sto) : TK (st ++ xs) ce t := by
  obtain ⟨a, s, h⟩ := h
  refine ⟨a, s, ?_⟩
  rw [List.getElem?_append_left (List.getElem?_eq_some_iff.mp h).1]
  exact h
theorem t4 (b st4 : Sto) {K bad u v d : D} {s0 s1 s2 s3 s4 : Bool} {n ce : Nat} (hK : K ∈ kindsL) (hn : st4[n]? = some (.lst [u, v])) (hb : b.length = n) (hv : Wo K s2 v) (hd : if s3 then d ∈ badD K else ∃ w ∈ deeds3, d = .str w) :
    ∃ v' d' st5, evS (C9 b) (b47.getD 4 .pass) [some (.obj ce), some K, some (spD s0 s1 s2 s3 s4), some bad, some (zeroD K), some (.obj n), some d, none, none, none, none, none, none] st4 = .nx [some (.obj ce), some K, some (spD s0 s1 s2 s3 s4), some bad, some (zeroD K), some (.obj n), some d', none, none, none, none, none, none] st5 ∧ st5[n]? = some (.lst [u, v']) ∧ st5.length = st4.length ∧ (∀ c, c ≠ n → st5[c]? = st4[c]?) ∧ Wo K s2 v' ∧ De K s3 d' v' := by
  have c1 : ev (C9 b) (.bop true [(.ix (.var 2) (.lit (.int 4))), (.not (.ix (.var 2) (.lit (.int 2))))]) [some (.obj ce), some K, some (spD s0 s1 s2 s3 s4), some bad, some (zeroD K), some (.obj n), some d, none, none, none, none, none, none] st4 = .ok (.bl (s4 && !s2)) st4 := by
    cases s4 <;> cases s2 <;> rfl
  have hs : b47.getD 4 .pass = .ifs (.bop true [(.ix (.var 2) (.lit (.int 4))), (.not (.ix (.var 2) (.lit (.int 2))))]) [.setIx (.var 5) (.lit (.int 1)) (.var 4), .set 6 (.ite (.ix (.var 2) (.lit (.int 3))) (.var 6) (.lit (.str (Str.ofString "over"))))] [] := rfl
  rw [hs, evS_if c1]
  by_cases q : (s4 && !s2) = true
  · have q2 : s2 = false := by cases s4 <;> cases s2 <;> simp_all
    subst q2
    rw [if_pos q]
    have hp : canPut (C9 b).base n (zeroD K) = true := by
      have hz : canPut n n (zeroD K) = true := by
        unfold zeroD
        split <;> simp [canPut, nob, nobs, fr]
      show canPut b.length n (zeroD K) = true
      rw [hb]
      exact hz
    have hset : setop (C9 b).base (.obj n) (.int 1) (zeroD K) st4 = some (st4.set n (.lst [u, zeroD K])) := by
      have hj : L2.ixN ([u, v] : List D).length 1 = some 1 := rfl
      simp only [setop, hn, hj, hp, if_true]
      rfl
    have hlt := (List.getElem?_eq_some_iff.mp hn).1
    refine ⟨zeroD K, if s3 then d else .str overS, st4.set n (.lst [u, zeroD K]), ?_, ?_, List.length_set, ?_, ?_, ?_⟩
    · have h1 : evS (C9 b) (.setIx (.var 5) (.lit (.int 1)) (.var 4)) [some (.obj ce), some K, some (spD s0 s1 false s3 s4), some bad, some (zeroD K), some (.obj n), some d, none, none, none, none, none, none] st4 = .nx [some (.obj ce), some K, some (spD s0 s1 false s3 s4), some bad, some (zeroD K), some (.obj n), some d, none, none, none, none, none, none] (st4.set n (.lst [u, zeroD K])) := by
        have a1 : ev (C9 b) (.var 4) [some (.obj ce), some K, some (spD s0 s1 false s3 s4), some bad, some (zeroD K), some (.obj n), some d, none, none, none, none, none, none] st4 = .ok (zeroD K) st4 := rfl
        have a2 : ev (C9 b) (.var 5) [some (.obj ce), some K, some (spD s0 s1 false s3 s4), some bad, some (zeroD K), some (.obj n), some d, none, none, none, none, none, none] st4 = .ok (.obj n) st4 := rfl
        have a3 : ev (C9 b) (.lit (.int 1)) [some (.obj ce), some K, some (spD s0 s1 false s3 s4), some bad, some (zeroD K), some (.obj n), some d, none, none, none, none, none, none] st4 = .ok (.int 1) st4 := rfl
        simp only [evS, a1, a2, a3, Out.thenS, hset]
      rw [nx_cons h1]
      cases s3 <;> rfl
    · rw [List.getElem?_set_self hlt]
    · intro c hc
      rw [List.getElem?_set_ne (Ne.symm hc)]
    · exact zero_gd hK
    · unfold De
      cases s3 with
      | true => exact hd
      | false => exact .inr ⟨rfl, rfl⟩
  · rw [if_neg q]
    refine ⟨v, d, st4, rfl, hn, rfl, fun _ _ => rfl, hv, ?_⟩
    unfold De
    cases s3 with
    | true => exact hd
    | false => exact .inl hd
theorem right {K : D} (hK : K ∈ kindsL) {st : Sto} {ce t : Nat} (hT : TK st ce t) (ht : t < 600000) : ∃ t' st', callF P 39 47 [.obj ce, K] st = .ok (.bl true) st' ∧ t' ≤ t + 11 ∧ Up ce t' st st' := by
  have go : callF P 39 47 [.obj ce, K] st = endF false st.length (evSs (C9 st) b47 [some (.obj ce), some K, none, none, none, none, none, none, none, none, none, none, none] st) := callF_fn (P := P) (fn := f47) rfl rfl
  have hce := tk_lt hT
  obtain ⟨s0, s1, s2, s3, s4, st1, e0, U1⟩ := spoilt st (K := K) hT (by omega)
  have h0 : evS (C9 st) (b47.getD 0 .pass) [some (.obj ce), some K, none, none, none, none, none, none, none, none, none, none, none] st = .nx [some (.obj ce), some K, some (spD s0 s1 s2 s3 s4), none, none, none, none, none, none, none, none, none, none] st1 := evS_set e0 (by simp)
  obtain ⟨bad, hbad, st2, e1, U2⟩ := no_kind U1.tk (by omega)
  have h1 : evS (C9 st) (b47.getD 1 .pass) [some (.obj ce), some K, some (spD s0 s1 s2 s3 s4), none, none, none, none, none, none, none, none, none, none] st1 = .nx [some (.obj ce), some K, some (spD s0 s1 s2 s3 s4), some bad, some (zeroD K), none, none, none, none, none, none, none, none] st2 := by
    have a1 : ev (C9 st) (.call 43 [(.var 0)]) [some (.obj ce), some K, some (spD s0 s1 s2 s3 s4), none, none, none, none, none, none, none, none, none, none] st1 = .ok bad st2 := by
      simp [ev, evs, Out.bind, c9_call, e1]
    have a2 := zero_ev st hK st2 (e0 := some (.obj ce)) (e2 := some (spD s0 s1 s2 s3 s4)) (e3 := none) (e4 := none) (e5 := none) (e6 := none) (e7 := none) (e8 := none) (e9 := none) (e10 := none) (e11 := none) (e12 := none)
    have hs : evs (C9 st) [(.call 43 [(.var 0)]), (.ite (.cmp .eq (.ix (.var 1) (.lit (.int 0))) (.lit (.str (Str.ofString "share")))) (.tup [(.lit (.int 0)), (.lit (.int 1))]) (.lit (.int 0)))] [some (.obj ce), some K, some (spD s0 s1 s2 s3 s4), none, none, none, none, none, none, none, none, none, none] st1 = .ok [bad, zeroD K] st2 := by
      simp only [evs, a1, a2, Out.bind]
    show (evs (C9 st) [(.call 43 [(.var 0)]), (.ite (.cmp .eq (.ix (.var 1) (.lit (.int 0))) (.lit (.str (Str.ofString "share")))) (.tup [(.lit (.int 0)), (.lit (.int 1))]) (.lit (.int 0)))] [some (.obj ce), some K, some (spD s0 s1 s2 s3 s4), none, none, none, none, none, none, none, none, none, none] st1).thenS _ _ = _
    rw [hs]
    rfl
  have V2 := U1.trans U2
  obtain ⟨u, v, t3, st3, e2, hu, hv, ht3, U3⟩ := wos st (bad := bad) (z := zeroD K) hK U2.tk (by omega) s0 s1 s2 s3 s4
  rw [V2.len] at e2
  have h2 : evS (C9 st) (b47.getD 2 .pass) [some (.obj ce), some K, some (spD s0 s1 s2 s3 s4), some bad, some (zeroD K), none, none, none, none, none, none, none, none] st2 = .nx [some (.obj ce), some K, some (spD s0 s1 s2 s3 s4), some bad, some (zeroD K), some (.obj st.length), none, none, none, none, none, none, none] (st3 ++ [.lst [u, v]]) := evS_set e2 (by simp)
  have V3 := V2.trans U3
  obtain ⟨d, st4, e3, hd, U4⟩ := deed1 st hK (tk_app U3.tk [.lst [u, v]]) (by omega) s3 (x0 := .bl s0) (x1 := .bl s1) (x2 := .bl s2) (x4 := .bl s4) (e3 := some bad) (e4 := some (zeroD K)) (e5 := some (.obj st.length)) (e6 := none) (e7 := none) (e8 := none) (e9 := none) (e10 := none) (e11 := none) (e12 := none)
  have h3 : evS (C9 st) (b47.getD 3 .pass) [some (.obj ce), some K, some (spD s0 s1 s2 s3 s4), some bad, some (zeroD K), some (.obj st.length), none, none, none, none, none, none, none] (st3 ++ [.lst [u, v]]) = .nx [some (.obj ce), some K, some (spD s0 s1 s2 s3 s4), some bad, some (zeroD K), some (.obj st.length), some d, none, none, none, none, none, none] st4 := evS_set e3 (by simp)
  have l4 : st4.length = st.length + 1 := by rw [U4.len, List.length_append, V3.len]; rfl
  have hn4 : st4[st.length]? = some (.lst [u, v]) := by
    rw [U4.ot _ (by omega), ← V3.len, List.getElem?_append_right (Nat.le_refl _), Nat.sub_self]
    rfl
  obtain ⟨v', d', st5, h4, hn5, l5, o5, hv', hd'⟩ := t4 st st4 (bad := bad) (s0 := s0) (s1 := s1) (s4 := s4) (ce := ce) hK hn4 rfl hv hd
  have h5 := t5 (C9 st) st5 (e0 := some (.obj ce)) (K := K) (bad := bad) (s0 := s0) (s1 := s1) (s2 := s2) (s3 := s3) (s4 := s4) (e4 := some (zeroD K)) (e5 := some (.obj st.length)) (e6 := some d') (e7 := none) (e8 := none) (e9 := none) (e10 := none) (e11 := none) (e12 := none)
  have h6 := t6 (C9 st) st5 (e0 := some (.obj ce)) (e1 := some K) (s0 := s0) (s1 := s1) (s2 := s2) (s3 := s3) (s4 := s4) (e3 := some bad) (e4 := some (zeroD K)) (e5 := some (.obj st.length)) (e6 := some d') (e7 := some (if s0 then bad else K)) (e8 := none) (e9 := none) (e10 := none) (e11 := none) (e12 := none)
  obtain ⟨y10, h7⟩ : ∃ y10, evS (C9 st) (b47.getD 7 .pass) [some (.obj ce), some K, some (spD s0 s1 s2 s3 s4), some bad, some (zeroD K), some (.obj st.length), some d', some (if s0 then bad else K), some (dueD (n6 s0 s1 s2 s3)), none, none, none, none] st5 = .nx [some (.obj ce), some K, some (spD s0 s1 s2 s3 s4), some bad, some (zeroD K), some (.obj st.length), some d', some (if s0 then bad else K), some (dueD (n1 K s0 s1 s2 s3 d')), none, y10, none, none] st5 := by
    cases s0 with
    | true => exact ⟨_, t7_some (C9 st) st5 (n := 1)⟩
    | false =>
      cases q : s1 || s2 with
      | true =>
        have a1 : dueD (n6 false s1 s2 s3) = wordN 2 := by unfold n6; rw [q]; rfl
        have a2 : dueD (n1 K false s1 s2 s3 d') = wordN 2 := by unfold n1 due1; rw [q]; rfl
        rw [a1, a2]
        exact ⟨_, t7_some (C9 st) st5⟩
      | false =>
        cases s3 with
        | true =>
          have a1 : dueD (n6 false s1 s2 true) = wordN 12 := by unfold n6; rw [q]; rfl
          have a2 : dueD (n1 K false s1 s2 true d') = wordN 12 := by unfold n1 due1; rw [q]; rfl
          rw [a1, a2]
          exact ⟨_, t7_some (C9 st) st5⟩
        | false =>
          have a1 : dueD (n6 false s1 s2 false) = .non := by unfold n6; rw [q]; rfl
          rw [a1]
          rcases hd' with ⟨w, hw, rfl⟩ | ⟨rfl, rfl⟩
          · have a2 : dueD (n1 K false s1 s2 false (.str w)) = .non := by
              unfold n1 due1
              rw [q]
              have : isOv (.str w) = false := by
                simp only [deeds3, List.mem_cons, List.not_mem_nil, or_false] at hw
                rcases hw with rfl | rfl | rfl <;> decide +kernel
              rw [this]
              rfl
            rw [a2]
            exact ⟨_, t7_no (C9 st) st5 hw⟩
          · have a2 : dueD (n1 K false s1 s2 false (.str overS)) = if hasO K then wordD "nought" else wordD "deed" := by
              unfold n1 due1
              rw [q]
              have : isOv (.str overS) = true := by decide +kernel
              rw [this]
              cases hasO K <;> rfl
            rw [a2]
            exact ⟨_, t7_ov (C9 st) st5 hK⟩
  have g1 := told1 (s0 := s0) st hK hbad hu hv' hd' hn5 (e0 := some (.obj ce)) (e1 := some K) (e2 := some (spD s0 s1 s2 s3 s4)) (e3 := some bad) (e4 := some (zeroD K)) (e8 := some (dueD (n1 K s0 s1 s2 s3 d'))) (e9 := none) (e10 := y10) (e11 := none) (e12 := none)
  obtain ⟨r1, h8, h9⟩ : ∃ r1, evS (C9 st) (b47.getD 8 .pass) [some (.obj ce), some K, some (spD s0 s1 s2 s3 s4), some bad, some (zeroD K), some (.obj st.length), some d', some (if s0 then bad else K), some (dueD (n1 K s0 s1 s2 s3 d')), none, y10, none, none] st5 = .nx [some (.obj ce), some K, some (spD s0 s1 s2 s3 s4), some bad, some (zeroD K), some (.obj st.length), some d', some (if s0 then bad else K), some (dueD (n1 K s0 s1 s2 s3 d')), some r1, y10, none, none] st5 ∧ evS (C9 st) (b47.getD 9 .pass) [some (.obj ce), some K, some (spD s0 s1 s2 s3 s4), some bad, some (zeroD K), some (.obj st.length), some d', some (if s0 then bad else K), some (dueD (n1 K s0 s1 s2 s3 d')), some r1, y10, none, none] st5 = .nx [some (.obj ce), some K, some (spD s0 s1 s2 s3 s4), some bad, some (zeroD K), some (.obj st.length), some d', some (if s0 then bad else K), some (dueD (n1 K s0 s1 s2 s3 d')), some r1, y10, none, none] st5 := by
    cases hn : n1 K s0 s1 s2 s3 d' with
    | some m =>
      rw [hn] at g1
      exact ⟨wordN m, evS_set g1 (by simp), t9_some (C9 st) st5⟩
    | none =>
      rw [hn] at g1
      obtain ⟨p, g1⟩ := g1
      exact ⟨.rep p, evS_set g1 (by simp), t9_none (C9 st) st5⟩
  have h10 := t10 (C9 st) st5 (K := K) (s0 := s0) (s1 := s1) (s2 := s2) (s3 := s3) (s4 := s4) hK (e0 := some (.obj ce)) (e3 := some bad) (e4 := some (zeroD K)) (e5 := some (.obj st.length)) (e6 := some d') (e7 := some (if s0 then bad else K)) (e8 := some (dueD (n1 K s0 s1 s2 s3 d'))) (e9 := some r1) (e10 := y10) (e11 := none) (e12 := none)
  have g2 := told2 (s0 := s0) (d := d') st hK hbad hu hv' hn5 (e0 := some (.obj ce)) (e1 := some K) (e2 := some (spD s0 s1 s2 s3 s4)) (e3 := some bad) (e4 := some (zeroD K)) (e8 := some (dueD (n2 K s0 s1 s2))) (e9 := some r1) (e10 := y10) (e11 := none) (e12 := none)
  obtain ⟨r2, h11, h12⟩ : ∃ r2, evS (C9 st) (b47.getD 11 .pass) [some (.obj ce), some K, some (spD s0 s1 s2 s3 s4), some bad, some (zeroD K), some (.obj st.length), some d', some (if s0 then bad else K), some (dueD (n2 K s0 s1 s2)), some r1, y10, none, none] st5 = .nx [some (.obj ce), some K, some (spD s0 s1 s2 s3 s4), some bad, some (zeroD K), some (.obj st.length), some d', some (if s0 then bad else K), some (dueD (n2 K s0 s1 s2)), some r2, y10, none, none] st5 ∧ evS (C9 st) (b47.getD 12 .pass) [some (.obj ce), some K, some (spD s0 s1 s2 s3 s4), some bad, some (zeroD K), some (.obj st.length), some d', some (if s0 then bad else K), some (dueD (n2 K s0 s1 s2)), some r2, y10, none, none] st5 = .rt (.bl true) st5 := by
    cases hn : n2 K s0 s1 s2 with
    | some m =>
      rw [hn] at g2
      exact ⟨wordN m, evS_set g2 (by simp), t12_some (C9 st) st5⟩
    | none =>
      rw [hn] at g2
      obtain ⟨c, hc, g2⟩ := g2
      exact ⟨.rep (.int c), evS_set g2 (by simp), t12_none (C9 st) st5 hc⟩
  rw [show b47 = [b47.getD 0 .pass, b47.getD 1 .pass, b47.getD 2 .pass, b47.getD 3 .pass, b47.getD 4 .pass, b47.getD 5 .pass, b47.getD 6 .pass, b47.getD 7 .pass, b47.getD 8 .pass, b47.getD 9 .pass, b47.getD 10 .pass, b47.getD 11 .pass, b47.getD 12 .pass] from rfl, nx_cons h0, nx_cons h1, nx_cons h2, nx_cons h3, nx_cons h4, nx_cons h5, nx_cons h6, nx_cons h7, nx_cons h8, nx_cons h9, nx_cons h10, nx_cons h11, rt_cons h12, endF_cut rfl] at go
  refine ⟨_, _, go, (show t3 + 1 ≤ t + 11 by omega), ⟨?_, ?_, ?_⟩⟩
  · obtain ⟨a, s, h⟩ := U4.tk
    refine ⟨a, s, ?_⟩
    rw [List.getElem?_take_of_lt hce, o5 _ (by omega)]
    exact h
  · rw [List.length_take, l5, l4]
    omega
  · intro c hc
    by_cases q : c < st.length
    · rw [List.getElem?_take_of_lt q, o5 _ (by omega), U4.ot _ hc, List.getElem?_append_left (by rw [V3.len]; exact q)]
      exact V3.ot _ hc
    · rw [List.getElem?_eq_none (by rw [List.length_take]; omega), List.getElem?_eq_none (by omega)]
end K12
namespace K12
open PySem Itp FA
def LC : Cfg := cfg P (callF P 39) 0
theorem lc_call (i : Nat) (ds : List D) (st : Sto) : LC.call i ds st = callF P 39 i ds st := rfl
def body3 : List S := [.set 4 (.ix (.lst false [(.tup [(.lit (.str (Str.ofString "whole")))]), (.tup [(.lit (.str (Str.ofString "share")))]), (.tup [(.lit (.str (Str.ofString "rest"))), (.bin .add (.lit (.int 2)) (.call 41 [(.var 2), (.lit (.int 11))]))])]) (.call 41 [(.var 2), (.lit (.int 3))])), .ifs (.not (.call 47 [(.var 2), (.var 4)])) [.ret (.lit (.bl false))] []]
theorem step3 {ns : List Int} {k : Int} {ce t : Nat} {st : Sto} (hT : TK st ce t) (ht : t < 500000) (y3 y4 : Option D) : ∃ y4' t' s', evSs LC body3 [some (.lst (ns.map D.int)), some (.int k), some (.obj ce), y3, y4] st = .nx [some (.lst (ns.map D.int)), some (.int k), some (.obj ce), y3, y4'] s' ∧ t' ≤ t + 13 ∧ Up ce t' st s' := by
  obtain ⟨m, st1, e1, m0, m1, U1⟩ := tk (m := 11) 37 hT (by omega) (by omega) (by omega)
  have e1 : callF P 39 41 [.obj ce, .int 11] st = .ok (.int m) st1 := e1
  obtain ⟨w, st2, e2, w0, w1, U2⟩ := tk (m := 3) 37 U1.tk (by omega) (by omega) (by omega)
  have e2 : callF P 39 41 [.obj ce, .int 3] st1 = .ok (.int w) st2 := e2
  obtain ⟨K, hx, hK⟩ : ∃ K, idx (.lst [wholeD, shareD, .tup [.str (Str.ofString "rest"), .int (2 + m)]]) (.int w) = some K ∧ K ∈ kindsL := by
    have hw : w = 0 ∨ w = 1 ∨ w = 2 := by omega
    rcases hw with rfl | rfl | rfl
    · exact ⟨_, rfl, whole_mem⟩
    · exact ⟨_, rfl, share_mem⟩
    · refine ⟨_, rfl, ?_⟩
      have : (.tup [.str (Str.ofString "rest"), .int (2 + m)] : D) = restD (m.toNat + 2) := by
        unfold restD
        rw [show (2 + m) = ((m.toNat + 2 : Nat) : Int) by omega]
      rw [this]
      exact rests_mem (by omega)
  obtain ⟨t', st3, e3, ht', U3⟩ := right hK U2.tk (by omega)
  have h0 : evS LC (body3.getD 0 .pass) [some (.lst (ns.map D.int)), some (.int k), some (.obj ce), y3, y4] st = .nx [some (.lst (ns.map D.int)), some (.int k), some (.obj ce), y3, some K] st2 := by
    have a1 : ev LC (.lst false [(.tup [(.lit (.str (Str.ofString "whole")))]), (.tup [(.lit (.str (Str.ofString "share")))]), (.tup [(.lit (.str (Str.ofString "rest"))), (.bin .add (.lit (.int 2)) (.call 41 [(.var 2), (.lit (.int 11))]))])]) [some (.lst (ns.map D.int)), some (.int k), some (.obj ce), y3, y4] st = .ok (.lst [wholeD, shareD, .tup [.str (Str.ofString "rest"), .int (2 + m)]]) st1 := by
      simp [ev, evs, Out.bind, Out.of, view, binop, lc_call, e1, lim1, lim2, lim3, wholeD, shareD]
    have a2 : ev LC (.call 41 [(.var 2), (.lit (.int 3))]) [some (.lst (ns.map D.int)), some (.int k), some (.obj ce), y3, y4] st1 = .ok (.int w) st2 := by
      simp [ev, evs, Out.bind, lc_call, e2]
    exact evS_set (ev_ixv a1 a2 (show idx (view st2 (.lst [wholeD, shareD, .tup [.str (Str.ofString "rest"), .int (2 + m)]])) (.int w) = some K from hx)) (by simp)
  have h1 : evS LC (body3.getD 1 .pass) [some (.lst (ns.map D.int)), some (.int k), some (.obj ce), y3, some K] st2 = .nx [some (.lst (ns.map D.int)), some (.int k), some (.obj ce), y3, some K] st3 := by
    simp [body3, evS, evSs, ev, evs, Out.bind, Out.thenS, Out.of, view, tru, lc_call, e3]
  refine ⟨some K, t', st3, ?_, by omega, (U1.trans U2).trans U3⟩
  rw [show body3 = [body3.getD 0 .pass, body3.getD 1 .pass] from rfl, nx_cons h0, nx_cons h1]
  simp only [evSs]
def bodyL : List S := [.set 2 (.call 40 [(.var 0), (.var 1)]), .fors (.name 3) .range [(.lit (.int 4))] body3]
theorem stepL (ns : List Int) (k : Nat) (hk : k < 22) (y2 y3 y4 : Option D) (st : Sto) :
    ∃ y2' y3' y4' s', evSs LC bodyL [some (.lst (ns.map D.int)), some (.int k), y2, y3, y4] st = .nx [some (.lst (ns.map D.int)), some (.int k), y2', y3', y4'] s' := by
  obtain ⟨a, s, e0⟩ := begun c__law_begun 37 ns k st (by omega)
  have e0 : LC.call 40 [.lst (ns.map D.int), .int k] st = .ok (.obj st.length) (st ++ [dr a s 0]) := e0
  have T0 : TK (st ++ [dr a s 0]) st.length 0 := ⟨a, s, by simp⟩
  have h0 : evS LC (.set 2 (.call 40 [(.var 0), (.var 1)])) [some (.lst (ns.map D.int)), some (.int k), y2, y3, y4] st = .nx [some (.lst (ns.map D.int)), some (.int k), some (.obj st.length), y3, y4] (st ++ [dr a s 0]) := by
    simp [evS, ev, evs, Out.bind, Out.thenS, OutS.of, put, e0]
  obtain ⟨e4, s4, h4, ⟨z3, z4, rfl⟩, t4, T4, _⟩ := forD_cnt (f := fun d env st => match bnd (.name 3) d env with | some env1 => evSs LC body3 env1 st | none => .bad)
    (Inv := fun n env s => (∃ z3 z4, env = [some (.lst (ns.map D.int)), some (.int k), some (.obj st.length), z3, z4]) ∧ ∃ t, TK s st.length t ∧ t ≤ 13 * n) (xs := upto 0 4) 0
    (fun i d hd env s hI => by
      obtain ⟨⟨z3, z4, rfl⟩, t, hT, ht⟩ := hI
      have hi := (List.getElem?_eq_some_iff.mp hd).1
      have hi : i < 4 := hi
      obtain ⟨y4', t', s', h, h', U⟩ := step3 (ns := ns) (k := k) hT (by omega) (some d) z4
      exact ⟨_, s', h, ⟨_, _, rfl⟩, t', U.tk, by omega⟩)
    (env := [some (.lst (ns.map D.int)), some (.int k), some (.obj st.length), y3, y4]) (st := st ++ [dr a s 0]) ⟨⟨_, _, rfl⟩, 0, T0, by omega⟩
  have h1 : evS LC (.fors (.name 3) .range [(.lit (.int 4))] body3) [some (.lst (ns.map D.int)), some (.int k), some (.obj st.length), y3, y4] (st ++ [dr a s 0]) = .nx [some (.lst (ns.map D.int)), some (.int k), some (.obj st.length), z3, z4] s4 := by
    rw [fors_eq]
    have hs : evs LC [(.lit (.int 4))] [some (.lst (ns.map D.int)), some (.int k), some (.obj st.length), y3, y4] (st ++ [dr a s 0]) = .ok [.int 4] (st ++ [dr a s 0]) := rfl
    have hi : items .range [.int 4] = some (upto 0 4) := rfl
    rw [hs, Out.thenS, hi]
    exact h4
  refine ⟨some (.obj st.length), z3, z4, s4, ?_⟩
  rw [bodyL, nx_cons h0, nx_cons h1]
  simp only [evSs]
theorem endL0 (s : Sto) : ∃ st', endF false 0 (.rt (.bl true) s) = .ok (.bl true) st' := by
  show ∃ st', fin false 0 (.bl true) s = .ok (.bl true) st'
  unfold fin
  by_cases h : (false || decide (s.length = 0)) = true
  · exact ⟨s, if_pos h⟩
  · exact ⟨s.take 0, if_neg h⟩
theorem go (ns : List Int) : callF P 40 48 [.lst (ns.map D.int)] [] = endF false 0 (evSs LC b48 [some (.lst (ns.map D.int)), none, none, none, none] []) := callF_fn (P := P) (fn := f48) rfl rfl
theorem count (m : Nat) (L : List D) (env : Itp.Env) (he : env[0]? = some (some (.lst L))) (st : Sto) : evs LC [(.blt .max [(.lit (.int 1)), (.blt .min [(.lit (.int (m : Nat))), (.blt .len [(.var 0)])])])] env st = .ok [.int (max 1 (min m L.length) : Nat)] st := by
  have e : (if (if (L.length : Int) < (m : Int) then (L.length : Int) else (m : Int)) > 1 then (if (L.length : Int) < (m : Int) then (L.length : Int) else (m : Int)) else 1) = ((max 1 (min m L.length) : Nat) : Int) := by
    split <;> split <;> omega
  simp only [evs, ev, he, Out.bind, Out.of, allv, List.map_cons, List.map_nil, view, bltop, bMax, bMin, bLen, e]
theorem all (ns : List Int) (hl : ns.length ≤ 63) (_ : ∀ z ∈ ns, Builtin.Int.intBits z ≤ 1048576) : ∃ st', callF (mkP fns globs kds subT 5000) 40 48 [.lst (ns.map D.int)] [] = .ok (.bl true) st' := by
  show ∃ st', callF P 40 48 [.lst (ns.map D.int)] [] = .ok (.bl true) st'
  obtain ⟨e, s, h1, y1, y2, y3, y4, rfl⟩ := forD_inv (f := fun d env st => match bnd (.name 1) d env with | some env1 => evSs LC bodyL env1 st | none => .bad) (Inv := fun env _ => ∃ y1 y2 y3 y4, env = [some (.lst (ns.map D.int)), y1, y2, y3, y4]) (xs := upto 0 (max 1 (min 21 ns.length)))
    (fun d hd env st hI => by
      obtain ⟨y1, y2, y3, y4, rfl⟩ := hI
      simp only [upto, List.mem_map, List.mem_range] at hd
      obtain ⟨k, hk, rfl⟩ := hd
      obtain ⟨y2', y3', y4', s', h⟩ := stepL ns k (by omega) y2 y3 y4 st
      rw [show ((0 : Int) + (k : Nat)) = (k : Int) by omega]
      exact ⟨_, s', h, _, _, _, _, rfl⟩)
    (env := [some (.lst (ns.map D.int)), none, none, none, none]) (st := []) ⟨_, _, _, _, rfl⟩
  have h1 : evS LC (.fors (.name 1) .range [(.blt .max [(.lit (.int 1)), (.blt .min [(.lit (.int 21)), (.blt .len [(.var 0)])])])] bodyL) [some (.lst (ns.map D.int)), none, none, none, none] [] = .nx [some (.lst (ns.map D.int)), y1, y2, y3, y4] s := by
    have hm := count 21 (ns.map D.int) [some (.lst (ns.map D.int)), none, none, none, none] rfl []
    rw [List.length_map] at hm
    have sm : small62 ((max 1 (min 21 ns.length) : Nat) : Int) = true := by simp [small62]; omega
    have hi : items .range [.int ((max 1 (min 21 ns.length) : Nat) : Int)] = some (upto 0 (max 1 (min 21 ns.length))) := by
      simp only [items, sm, if_true, Int.toNat_natCast]
    rw [fors_eq]
    show (evs LC [(.blt .max [(.lit (.int 1)), (.blt .min [(.lit (.int ((21 : Nat) : Int))), (.blt .len [(.var 0)])])])] [some (.lst (ns.map D.int)), none, none, none, none] []).thenS _ _ = _
    rw [hm, Out.thenS, hi]
    exact h1
  have h2 : evS LC (.ret (.lit (.bl true))) [some (.lst (ns.map D.int)), y1, y2, y3, y4] s = .rt (.bl true) s := rfl
  have hb : b48 = [.fors (.name 1) .range [(.blt .max [(.lit (.int 1)), (.blt .min [(.lit (.int 21)), (.blt .len [(.var 0)])])])] bodyL, .ret (.lit (.bl true))] := rfl
  rw [go, hb, nx_cons h1, rt_cons h2]
  exact endL0 s
end K12
section
set_option maxHeartbeats 0
open PyProof.Rows PySem.W PySem
theorem PySem.Challenge.cw_towerwise_k12_exact_refused_holds : PySem.Challenge.rw_towerwise_k12_exact_refused.Holds := by
  w_on
  o_law
  refine HT.holds_behind (r := OpenLaw.row PySem.Challenge.rw_towerwise_k12_exact_refused) (q := K12.qv) (loose := K12.loo) (d := HeadRun.topDef (OpenLaw.row PySem.Challenge.rw_towerwise_k12_exact_refused).prog 84) (kwd := []) (HT.behind_disp K12.dsOk (by decide +kernel) K12.eqs) HT.yp_keeps XL.keeps (by kernel_rfl) (by kernel_rfl) (by kernel_rfl) rfl (by first | assumption | decide +kernel) (by decide +kernel) (by decide +kernel) ⟨rfl, rfl, rfl, rfl, rfl, by decide +kernel⟩ ?hw ?hc
  case hw => w_witness2
  case hc => exact Itp.walk_mkK (l := PySem.Challenge.rw_towerwise_k12_exact_refused) (n := 63) (kk := 40) (i := 48) (T := K12.tab) (rows := K12.rows) (fns := K12.fns) (globs := K12.globs) (kds := K12.kds) (cs := K12.cs) (es := K12.es) (subT := K12.subT) (fuel := 5000) (r := K12.r48) rfl (by decide) (by kernel_rfl) ⟨rfl, by decide, by decide⟩ (by kernel_rfl) rfl rfl rfl (fun w h Y => Y) K12.data K12.hck K12.binds K12.all
end
