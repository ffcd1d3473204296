import PyProof.Rows.All
import Wide.All
import OpenK.AllK
import Wide.FinOn
import HandS.ForMost
import HandS.IsInst
import HandS.DictComp
import HandS.SetFor
import HandS.Codes
import HandS.Iter
import HandS.ListItems
import HandS.Strs
import HandS.TupSets
import HandS.AnyAll
import HandS.GenList
import HandS.EndTab
import HandS.Rev
import HandS.Walk
import HandS.EndOwn
import KE.KNest
import KE.GoesSet
import KE.KDictList
import PySem.Challenge.RW_forkedshelves_k01_changes_lead_back
set_option Elab.async false
set_option linter.all false
set_option maxRecDepth 100000
set_option maxHeartbeats 4000000
namespace GxP
open PySem PySem.Spec PyProof.Rows L2 GxR GenW
/-- the context of a generator expression's frame that begins at s, its iterator's objects at fp -/
abbrev _root_.L2.Cx.gen (X : Cx) (s : Shared) (H : Hp) (cenv : Env) (A' : Around) (fp : List Addr) : Cx :=
  { X with s_0 := s, H_0 := H, env := cenv, outer := X.stack, stack := cenv :: X.stack, A := A', ex := fp, fn := fun _ => false, pn := [], xe := fun _ _ => False }
section
variable {X : Cx} {pins : List (Addr × Obj)} {σ : L2.St} {H : Hp} {s : Shared}
theorem gen_start {scope : Scope} {own : List (Str × Nat)} {fp : List Addr} {A' : Around} {code it : Value} {h' : Heap} {go : Obj} {gs : GenState} {tk : Nat} {cenv : Env}
    (I : Inv X pins σ H s) (ok : BlkOk X.N X.env.scope scope own) (hncell : ∀ y ∈ scope.names, y.2 ≠ .cell) (hN : X.N.Nodup) (hfp : ∀ b ∈ fp, FpOk X pins H b ∧ b < s.heap.objs.size)
    (hce : cenv = genEnv scope (cloFrom X.env.cells scope.names []) s.heap.objs.size code builtinsNs X.env)
    (hA : A'.frames = some (cenv :: X.stack)) (hAh : X.calm = true → A'.handled = none)
    (hn' : h'.Ns s.heap.objs.size (fun y => if y = ".0" then some it else none)) (hs' : Heap.SameBut s.heap.objs.size (s.heap.push { cls := .type "frame", data := .dict #[] }) h')
    (hgo : ∀ v, go.data ≠ .cell v) (hgf : (h'.push go).get? h'.objs.size = some go) (hgb : gs.bare = true) :
    Inv (X.gen s H cenv A' fp) [(h'.objs.size, go)] (wipe σ (own.map (·.2))) H { s with gens := s.gens.push gs, toks := tk, heap := h'.push go } := by
  have hfree : ∀ y ∈ scope.names, y.2 = .free → ∃ c, X.env.cells.lookup y.1 = some c := fun y hy e => by
    rcases ok.free y hy e with k | k
    · exact I.ok.has _ (.inl k)
    · exact I.ok.has _ (.inr k)
  have hsz : h'.objs.size = s.heap.objs.size + 1 := by rw [hs'.1, Heap.size_push]
  have kp0 : ∀ b o, s.heap.get? b = some o → h'.get? b = some o := fun b o e => hs'.extBut b o (Nat.ne_of_lt (Heap.lt_size e)) (Heap.get?_push_of_some _ e)
  have kp : ∀ b o, s.heap.get? b = some o → (h'.push go).get? b = some o := fun b o e => Heap.get?_push_of_some _ (kp0 b o e)
  have hL : cenv.locals = s.heap.objs.size := by rw [hce]; rfl
  have hcl : cenv.cells = cloFrom X.env.cells scope.names [] := by rw [hce]; rfl
  have hsc : cenv.scope = scope := by rw [hce]; rfl
  have cm : ∀ {y c}, cenv.cells.lookup y = some c → X.env.cells.lookup y = some c ∧ c < s.heap.objs.size ∧ (y, NameKind.free) ∈ scope.names := fun {y c} e => by
    rw [hcl] at e
    rcases cloFrom_mem (PySem.mem_of_lookup e) with hm | ⟨h1, rfl⟩
    · cases hm
    · obtain ⟨c, hc⟩ := hfree _ h1 rfl
      rw [hc]
      obtain ⟨w, z⟩ := I.cell _ _ hc
      exact ⟨rfl, z.lt, h1⟩
  have look : ∀ {y}, scope.names.lookup y = some .free → ∃ c, cenv.cells.lookup y = some c ∧ X.env.cells.lookup y = some c := fun {y} hl => by
    have hy : (y, NameKind.free) ∈ scope.names := PySem.mem_of_lookup hl
    obtain ⟨c', e'⟩ := mem_lookup (cloFrom_has (cells := X.env.cells) (acc := []) hy)
    rw [← hcl] at e'
    exact ⟨c', e', (cm e').1⟩
  have nocell : ∀ {y}, scope.names.lookup y ≠ some .cell := fun {y} e => hncell _ (PySem.mem_of_lookup e) rfl
  have okB : (X.gen s H cenv A' fp).Ok := by
    refine ⟨I.ok.mod, by show cenv.scope.kind = _; rw [hsc]; exact ok.kind, by show cenv.globals = _; rw [hce]; exact I.ok.glob, by show cenv.builtins = _; rw [hce]; rfl, by show s.heap.objs.size ≤ cenv.locals; rw [hL]; exact Nat.le_refl _,
      fun y z c e1 e2 => I.ok.inj y z c (cm e1).1 (cm e2).1, fun y hy => ?_, fun y c z e => (by cases z), hAh, hA, .inr ⟨rfl, by show cenv.frame = some cenv.locals; rw [hce]; rfl⟩, fun b hb => ⟨?_, fun y c e z => ?_⟩, I.bs, Nat.le_trans I.ok.bsz I.sz, fun b o e hb => ?_, fun b hb z => ?_, I.stack, I.stkFree⟩
    · have hy : cenv.scope.names.lookup y = some .cell ∨ cenv.scope.names.lookup y = some .free := hy
      rw [hsc] at hy
      rcases hy with hy | hy
      · exact absurd hy nocell
      · obtain ⟨c, h1, _⟩ := look hy
        exact ⟨c, h1⟩
    · show b ≠ cenv.locals
      rw [hL]; exact Nat.ne_of_lt (hfp b hb).2
    · exact (hfp b hb).1.2.2.2.2.1 y c (cm e).1 z
    · rcases (hfp b hb).1.2.2.2.1 with z | z
      · exact I.ok.noex b o e z
      · exact absurd (Nat.lt_of_lt_of_le (Heap.lt_size e) (Nat.le_trans I.ok.bsz z)) (Nat.lt_irrefl _)
    · rcases List.mem_cons.mp (I.stkSub b z) with z | z
      · exact (hfp b hb).1.2.1 z
      · exact (hfp b hb).1.2.2.1 z
  have hok' : HOk X.prog X.w H (h'.push go) := I.hok.kept kp
  have young : ∀ b, s.heap.objs.size ≤ b → H b = none ∧ b ∉ frs X.stack := fun b hb => by
    refine ⟨I.hok.fresh hb, fun z => ?_⟩
    rcases List.mem_cons.mp (I.stkSub b z) with z | z
    · have := I.lt
      rw [z] at hb
      exact absurd (Nat.lt_of_lt_of_le this hb) (Nat.lt_irrefl _)
    · exact I.nofs hb z
  refine ⟨okB, rfl, I.bare.push hgb, Un.kept kp, ⟨fun y => if y = ".0" then some it else none, ?_, fun i y av e1 e2 e3 => ?_⟩, fun y c e => ?_, ?_, fun y c e => ?_, fun p hp => ?_, hok', by rw [wipe_length]; exact I.len⟩
  · show Heap.Ns _ cenv.locals _
    rw [hL]
    exact hn'.push _
  · obtain ⟨e2, hne⟩ := wipe_some e2
    have e3 : Vis cenv.scope y := e3
    rw [hsc] at e3
    have no : ∀ k, scope.names.lookup y = some k → ¬ (k = .local ∨ k = .cell) := fun k e hh => by
      rcases ok.own _ (PySem.mem_of_lookup e) hh with e' | e'
      · obtain ⟨p, hp, hpy⟩ := List.mem_map.mp e'
        have e3 := ok.ix p hp
        have : p.1 = y := hpy
        rw [this] at e3
        exact hne (List.mem_map.mpr ⟨p, hp, nodup_ix hN e3 e1⟩)
      · exact e' (List.mem_of_getElem? e1)
    have hfr : scope.names.lookup y = some .free := by
      rcases e3 with e3 | e3 | e3
      · exact absurd (.inl rfl) (no _ e3)
      · exact absurd (.inr rfl) (no _ e3)
      · exact e3
    obtain ⟨m, hn, hl⟩ := I.loc
    have hvis : Vis X.env.scope y := (ok.free _ (PySem.mem_of_lookup hfr) rfl).elim (fun k => .inr (.inl k)) (fun k => .inr (.inr k))
    obtain ⟨w, r, q⟩ := hl i y av e1 e2 hvis
    refine ⟨w, r, .inr ⟨.inr (by show cenv.scope.names.lookup y = _; rw [hsc]; exact hfr), ?_⟩⟩
    obtain ⟨c, h1, h2⟩ := look hfr
    rcases q with ⟨k, _⟩ | ⟨_, c', e', z⟩
    · have k : X.env.scope.names.lookup y = some .local := k
      rcases ok.free _ (PySem.mem_of_lookup hfr) rfl with k' | k' <;> rw [show X.env.scope.names.lookup y = _ from k'] at k <;> cases k
    · rw [h2] at e'; cases e'
      exact ⟨c, h1, z.keeps kp⟩
  · obtain ⟨h1, _, _⟩ := cm e
    obtain ⟨w, z⟩ := I.cell y c h1
    exact ⟨w, z.keeps kp⟩
  · show H cenv.locals = none
    rw [hL]; exact I.hok.fresh (Nat.le_refl _)
  · exact I.freeC y c (cm e).1
  · have hp : p ∈ [(h'.objs.size, go)] := hp
    rw [List.mem_singleton.mp hp]
    have hy := young h'.objs.size (by omega)
    exact ⟨hgf, hy.1, by show h'.objs.size ≠ cenv.locals; rw [hL]; omega, hy.2, hgo⟩
end
/-- what a turn hands out: a bool; where it is the one that stops, the end holds; else the frame goes on -/
def GYb (Xg : Cx) (pins : List (Addr × Obj)) (b0 : Bool) (Q : VK) : Protocol := fun _ _ v s kap =>
  ∃ (b : Bool) (σ : L2.St) (H : Hp), v = .bool b ∧ Inv Xg pins σ H s ∧ (b = b0 → Q (.bl b0) H) ∧ (b ≠ b0 → ∀ s' : Shared, s'.heap = s.heap → s'.os = s.os → AllBare s'.gens → kap (.send .none) s')
def GFb (Xg : Cx) (pins : List (Addr × Obj)) (b0 : Bool) (Q : VK) : Nat → Shared → Shared → Prop := fun _ _ s => ∃ (σ : L2.St) (H : Hp), Inv Xg pins σ H s ∧ Q (.bl (!b0)) H
abbrev GRb (Xg : Cx) (pins : List (Addr × Obj)) (b0 : Bool) (Q : VK) : GenEnd := fun n s₀ r s₁ => r = .ok .next ∧ GFb Xg pins b0 Q n s₀ s₁
/-- only the table of generators (the counters) is another one -/
theorem inv_slept {X : Cx} {pins : List (Addr × Obj)} {σ : L2.St} {H : Hp} {s s' : Shared} (I : Inv X pins σ H s) (hh : s'.heap = s.heap) (ho : s'.os = s.os) (hb : AllBare s'.gens) : Inv X pins σ H s' :=
  ⟨I.ok, ho.trans I.os, hb, by rw [hh]; exact I.base, by rw [hh]; exact I.loc, by rw [hh]; exact I.cell, I.free, I.freeC, by rw [hh]; exact I.pin, by rw [hh]; exact I.hok, I.len⟩
section
variable {X : Cx}
theorem seg_gen {A₀ : Around} {elt tg iter : Expr} {ifs : List Expr} {scope : Scope} {pos : Pos} {it : Addr} {cenv : Env} {fp : List Addr} {tn : Nat → Heap → Prop} {J : It} {g : TG} {tt : TT} {te : TE} {vs : List Nat} {b0 : Bool} {Q : VK} {σ : L2.St} {pins : List (Addr × Obj)} {s4 : Shared} {H4 : Hp}
    (W : Nat → Nat → Hp → Prop) (hc : X.calm = true) (hco : cenv.scope.isCoroutine = false)
    (T : Turn X.prog X.w X.K tg J fp it tn)
    (pg : PG (X.gen s4 H4 cenv (A₀.over (.compLoop (.GeneratorExp elt [⟨tg, iter, ifs, 0⟩] scope pos) 0 (.ref it) .none cenv) []) fp) tg g)
    (pt : PTs (X.gen s4 H4 cenv (A₀.over (.compLoop (.GeneratorExp elt [⟨tg, iter, ifs, 0⟩] scope pos) 0 (.ref it) .none cenv) []) fp) ifs tt)
    (pe : PE (X.gen s4 H4 cenv (A₀.over (.compLoop (.GeneratorExp elt [⟨tg, iter, ifs, 0⟩] scope pos) 0 (.ref it) .none cenv) []) fp) elt te)
    (hpin : ∀ p ∈ pins, p.1 ∉ fp)
    (turn : ∀ i m H, W i m H → (J.stop i H ∧ Q (.bl (!b0)) H) ∨ (J.go i H ∧ ∃ Nx : Hp → Prop, (∀ H', Nx H' → ∃ m', m' < m ∧ W (i + 1) m' H') ∧ ∀ x H', J.yld i H x H' → g x (wipe σ vs) H' fun σ2 H2 => wipe σ2 vs = wipe σ vs ∧ tt σ2 H2 fun b H3 =>
      if b = true then te σ2 H3 fun y H4 => ∃ c, y = .bl c ∧ (c = b0 → Q (.bl b0) H4) ∧ (c ≠ b0 → Nx H4) else Nx H3)) :
    ∀ (m n i : Nat) (H : Hp) (s₀ s : Shared), m < n → Inv (X.gen s4 H4 cenv (A₀.over (.compLoop (.GeneratorExp elt [⟨tg, iter, ifs, 0⟩] scope pos) 0 (.ref it) .none cenv) []) fp) pins (wipe σ vs) H s → tn i s.heap → (∀ b ∈ fp, H b = none) → W i m H →
      Seg (model X.prog X.w) A₀ (GRb (X.gen s4 H4 cenv (A₀.over (.compLoop (.GeneratorExp elt [⟨tg, iter, ifs, 0⟩] scope pos) 0 (.ref it) .none cenv) []) fp) pins b0 Q)
        (GYb (X.gen s4 H4 cenv (A₀.over (.compLoop (.GeneratorExp elt [⟨tg, iter, ifs, 0⟩] scope pos) 0 (.ref it) .none cenv) []) fp) pins b0 Q) n s₀
        (.compLoop (.GeneratorExp elt [⟨tg, iter, ifs, 0⟩] scope pos) 0 (.ref it) .none cenv)
        ((model X.prog X.w).den (.compLoop (.GeneratorExp elt [⟨tg, iter, ifs, 0⟩] scope pos) 0 (.ref it) .none cenv)) [] s := by
  generalize hXg : X.gen s4 H4 cenv (A₀.over (.compLoop (.GeneratorExp elt [⟨tg, iter, ifs, 0⟩] scope pos) 0 (.ref it) .none cenv) []) fp = Xg at pg pt pe ⊢
  have eA : Xg.A = A₀.over (.compLoop (.GeneratorExp elt [⟨tg, iter, ifs, 0⟩] scope pos) 0 (.ref it) .none cenv) [] := by subst hXg; rfl
  have eP : Xg.prog = X.prog := by subst hXg; rfl
  have eW : Xg.w = X.w := by subst hXg; rfl
  have eK : Xg.K = X.K := by subst hXg; rfl
  have eC : Xg.calm = true := by subst hXg; exact hc
  have eE : Xg.env = cenv := by subst hXg; rfl
  have eX : Xg.ex = fp := by subst hXg; rfl
  have epn : Xg.pn = [] := by subst hXg; rfl
  have exe : Xg.xe = fun _ _ => False := by subst hXg; rfl
  have stat : ∀ {σ' : L2.St} {H' : Hp} {s' : Shared}, Inv Xg pins σ' H' s' → (∀ b ∈ fp, H' b = none) → ∀ b ∈ fp, FpOk Xg pins H' b := fun {σ' H' s'} I' hn b hb =>
    ⟨hn b hb, (I'.ok.exf b (by rw [eX]; exact hb)).1, I'.ok.exfs b (by rw [eX]; exact hb), .inl (by rw [eX]; exact hb), fun x c e => (I'.ok.exf b (by rw [eX]; exact hb)).2 x c e, fun p hp => by
      rw [epn] at hp
      exact fun z => hpin p hp (by rw [z]; exact hb)⟩
  intro m
  induction m using Nat.strongRecOn with
  | ind m ih =>
  intro n i H s₀ s hmn I st hn w
  show Seg _ A₀ _ _ _ s₀ _ ((compTurn (.GeneratorExp elt [⟨tg, iter, ifs, 0⟩] scope pos) 0 (.ref it) .none cenv).onRaise (leaving cenv)) [] s
  rw [compTurn_gen, Sem.onRaise_eq_wrap]
  refine seg_bind_wrap (wpAny_standAt ?_)
  rcases turn i m H w with ⟨stop, qq⟩ | ⟨go, Nx, hNx, step⟩
  · have td := T.done Xg eP eW eK eC i pins s _ H (fun _ _ => False) I (stat I hn) st stop
    rw [eA] at td
    refine seg_bind_wrap (thnF td fun r s6 ⟨hr, I6⟩ => ?_)
    subst hr
    exact seg_end (.ok .next) ⟨rfl, _, H, I6, qq⟩
  · have ti := T.item Xg eP eW eK eC i pins s _ H (fun _ _ => False) I (stat I hn) st go
    rw [eA] at ti
    refine seg_bind_wrap (thnF ti fun r s6 ⟨u, hr, h6⟩ => ?_)
    subst hr
    refine seg_bind_wrap (thnF h6 fun _ s7 ⟨x, H7, I7, r7, y7, st7, n7⟩ => ?_)
    have I7' := I7.pinned (stat I7 n7) (T.obj _ _ st7)
    have pgr := pg.run _ s7 _ H7 x u _ I7' r7 (step x H7 y7)
    rw [eA, eP, eW, eE, exe] at pgr
    refine seg_bind_wrap (thnF pgr fun _ s8 ⟨σ8, H8, I8, hw8, q8⟩ => ?_)
    have ptr := pt.run _ s8 σ8 H8 _ I8 q8
    rw [eA, eP, eW, eE, exe] at ptr
    refine seg_bind_wrap (thnF ptr fun b s9 ⟨H9, I9, q9⟩ => ?_)
    have fin : ∀ {s' : Shared} {H' : Hp}, Inv Xg (pins ++ pinsAt fp s7.heap) σ8 H' s' → Nx H' → ∃ m', m' < m ∧ ∀ (n' : Nat) (s₀' : Shared), m' < n' → Seg (model X.prog X.w) A₀ (GRb Xg pins b0 Q) (GYb Xg pins b0 Q) n' s₀'
        (.compLoop (.GeneratorExp elt [⟨tg, iter, ifs, 0⟩] scope pos) 0 (.ref it) .none cenv) ((model X.prog X.w).den (.compLoop (.GeneratorExp elt [⟨tg, iter, ifs, 0⟩] scope pos) 0 (.ref it) .none cenv)) [] s' := fun {s' H'} I' nx => by
      obtain ⟨m', hm, w'⟩ := hNx H' nx
      have pin' : ∀ b ∈ fp, ∀ o, s7.heap.get? b = some o → s'.heap.get? b = some o ∧ H' b = none := fun b hb o e =>
        let z := I'.pin (b, o) (List.mem_append_right _ (List.mem_append_right _ (mem_pinsAt hb e)))
        ⟨z.1, z.2.1⟩
      have hl : (wipe σ vs).length = σ8.length := by rw [← hw8, wipe_length]
      refine ⟨m', hm, fun n' s₀' hn' => ih m' hm n' (i + 1) H' s₀' s' hn' ((I'.unpinned (pins := pins)).weak hl (fun j v e => ?_)) (T.keep _ _ _ st7 fun b hb o e => (pin' b hb o e).1) (fun b hb => ?_) w'⟩
      · rw [← hw8] at e
        exact (wipe_some e).1
      · obtain ⟨o, e, _⟩ := T.obj _ _ st7 b hb
        exact (pin' b hb o e).2
    cases b with
    | false =>
      simp only [Bool.false_eq_true, if_false] at q9 ⊢
      obtain ⟨m', hm, k⟩ := fin I9 q9
      exact seg_again rfl (k n s₀ (by omega))
    | true =>
      simp only [if_true] at q9 ⊢
      have hy : ∀ v, yieldOut cenv v = yieldValue v := fun v => by simp only [yieldOut, hco, Bool.false_eq_true, if_false]
      simp only [hy]
      rw [Sem.bind_eq_wrap', Sem.bind_eq_wrap', Sem.wrap_wrap, Sem.wrap_wrap]
      have per := pe.run _ s9 σ8 H9 _ I9 q9
      rw [eA, eP, eW, eE, exe] at per
      refine seg_wrap (thnF per fun z s10 ⟨yv, H10, I10, r10, c, hyv, hstop, hgo⟩ => ?_)
      subst hyv
      have ez : z = .bool c := r10
      subst ez
      obtain ⟨n', rfl⟩ : ∃ n', n = n' + 1 := ⟨n - 1, by omega⟩
      refine seg_at (seg_yield rfl rfl rfl ⟨c, σ8, H10, rfl, I10.unpinned, hstop, fun hcb s'' h1 h2 h3 => ?_⟩)
      obtain ⟨m', hm, k⟩ := fin (inv_slept I10 h1 h2 h3) (hgo hcb)
      exact seg_again rfl (k n' s'' (by omega))
end
section
theorem loop_all {A : Around} {Xg : Cx} {pins : List (Addr × Obj)} {Q : VK} {a : Addr} {g : Nat} {R : Result → Shared → Prop} (hh : A.handled = none) (hroom : A.depth < recursionLimit)
    (hg : ∀ (σ : L2.St) (H : Hp) (s : Shared), Inv Xg pins σ H s → s.heap.IsGen a g)
    (hfin : ∀ (b : Bool) (σ : L2.St) (H : Hp) (s1 s' : Shared), Inv Xg pins σ H s1 → (∀ b o, s1.heap.get? b = some o → s'.heap.get? b = some o) → s'.os = s1.os → AllBare s'.gens → Q (.bl b) H → R (.ok (.ret (.bool b))) s') :
    ∀ (n : Nat) (gs : GenState) (s : Shared), s.heap.NoLimit → s.heap.IsGen a g → s.gens[g]? = some gs → gs.Goes (model Xg.prog Xg.w) A.in1.in1 (GRb Xg pins false Q) (GYb Xg pins false Q) n (.send .none) (s.setGen g .running) →
      codeAny (model Xg.prog Xg.w) A (.builtin "all.loop" ⟨[.ref a], []⟩) R s := by
  intro n
  induction n with
  | zero =>
    intro gs s hl hga hgs hgo
    refine codeAny_builtin F.entry_all_loop ?_
    rw [Around.under_plainId F.plain_all_loop _]
    show wpAny _ A.in1 (pyNext (.ref a) >>= _) _ _ s
    refine wpAny_bind (wpAny_gsz (n := s.gens.size) (Nat.le_refl _) (wpAny_pyNext_genexpQ (P := GFb Xg pins false Q) hh hl hroom hga hgs hgo (fun v s₁ gs' hb hv hsz => ?_) (fun s₁ hp h' hk hsz => ?_)))
    · obtain ⟨b, σ, H, rfl, I, hs, hn⟩ := hv
      refine wpAny_bind (wpAny_holding (wpAny_truthy_bool ?_))
      refine wpAny_bind (wpAny_letGo ?_)
      by_cases hb0 : b = false
      · subst hb0
        simp only [Bool.false_eq_true, if_false]
        refine wpAny_bind (wpAny_rule (wpAny_pure ?_))
        exact hfin false σ H s₁ _ I (fun _ _ e => e) rfl (allBare_setGen I.bare hb) (hs rfl)
      · exact False.elim (hn hb0 s₁ rfl rfl I.bare)
    · obtain ⟨σ, H, I, hq⟩ := hp
      refine wpAny_bind (wpAny_rule (wpAny_pure ?_))
      exact hfin true σ H s₁ _ I hk rfl (allBare_setGen I.bare rfl) hq
  | succ n ih =>
    intro gs s hl hga hgs hgo
    have hlt : g < s.gens.size := (Array.getElem?_eq_some_iff.mp hgs).1
    refine codeAny_builtin F.entry_all_loop ?_
    rw [Around.under_plainId F.plain_all_loop _]
    show wpAny _ A.in1 (pyNext (.ref a) >>= _) _ _ s
    refine wpAny_bind (wpAny_gsz (n := s.gens.size) (Nat.le_refl _) (wpAny_pyNext_genexpQ (P := GFb Xg pins false Q) hh hl hroom hga hgs hgo (fun v s₁ gs' hb hv hsz => ?_) (fun s₁ hp h' hk hsz => ?_)))
    · obtain ⟨b, σ, H, rfl, I, hs, hn⟩ := hv
      refine wpAny_bind (wpAny_holding (wpAny_truthy_bool ?_))
      refine wpAny_bind (wpAny_letGo ?_)
      have hb1 : AllBare (s₁.setGen g gs').gens := allBare_setGen I.bare hb
      by_cases hb0 : b = false
      · subst hb0
        simp only [Bool.false_eq_true, if_false]
        refine wpAny_bind (wpAny_rule (wpAny_pure ?_))
        exact hfin false σ H s₁ _ I (fun _ _ e => e) rfl hb1 (hs rfl)
      · have hbo : b = true := by cases b <;> first | rfl | exact absurd rfl hb0
        subst hbo
        simp only [if_true]
        have hk := hn hb0 ((s₁.setGen g gs').setGen g .running) rfl rfl (allBare_setGen hb1 rfl)
        rw [setGen_size] at hsz
        exact wpAny_pure ⟨plainId_quiet F.plain_all_loop _, ih gs' (s₁.setGen g gs') I.nolimit (show s₁.heap.IsGen a g from hg _ _ _ I) (setGen_at (by omega)) hk⟩
    · obtain ⟨σ, H, I, hq⟩ := hp
      refine wpAny_bind (wpAny_rule (wpAny_pure ?_))
      exact hfin true σ H s₁ _ I hk rfl (allBare_setGen I.bare rfl) hq

theorem loop_any {A : Around} {Xg : Cx} {pins : List (Addr × Obj)} {Q : VK} {a : Addr} {g : Nat} {R : Result → Shared → Prop} (hh : A.handled = none) (hroom : A.depth < recursionLimit)
    (hg : ∀ (σ : L2.St) (H : Hp) (s : Shared), Inv Xg pins σ H s → s.heap.IsGen a g)
    (hfin : ∀ (b : Bool) (σ : L2.St) (H : Hp) (s1 s' : Shared), Inv Xg pins σ H s1 → (∀ b o, s1.heap.get? b = some o → s'.heap.get? b = some o) → s'.os = s1.os → AllBare s'.gens → Q (.bl b) H → R (.ok (.ret (.bool b))) s') :
    ∀ (n : Nat) (gs : GenState) (s : Shared), s.heap.NoLimit → s.heap.IsGen a g → s.gens[g]? = some gs → gs.Goes (model Xg.prog Xg.w) A.in1.in1 (GRb Xg pins true Q) (GYb Xg pins true Q) n (.send .none) (s.setGen g .running) →
      codeAny (model Xg.prog Xg.w) A (.builtin "any.loop" ⟨[.ref a], []⟩) R s := by
  intro n
  induction n with
  | zero =>
    intro gs s hl hga hgs hgo
    refine codeAny_builtin F.entry_any_loop ?_
    rw [Around.under_plainId F.plain_any_loop _]
    show wpAny _ A.in1 (pyNext (.ref a) >>= _) _ _ s
    refine wpAny_bind (wpAny_gsz (n := s.gens.size) (Nat.le_refl _) (wpAny_pyNext_genexpQ (P := GFb Xg pins true Q) hh hl hroom hga hgs hgo (fun v s₁ gs' hb hv hsz => ?_) (fun s₁ hp h' hk hsz => ?_)))
    · obtain ⟨b, σ, H, rfl, I, hs, hn⟩ := hv
      refine wpAny_bind (wpAny_holding (wpAny_truthy_bool ?_))
      refine wpAny_bind (wpAny_letGo ?_)
      by_cases hb0 : b = true
      · subst hb0
        simp only [if_true]
        refine wpAny_bind (wpAny_rule (wpAny_pure ?_))
        exact hfin true σ H s₁ _ I (fun _ _ e => e) rfl (allBare_setGen I.bare hb) (hs rfl)
      · exact False.elim (hn hb0 s₁ rfl rfl I.bare)
    · obtain ⟨σ, H, I, hq⟩ := hp
      refine wpAny_bind (wpAny_rule (wpAny_pure ?_))
      exact hfin false σ H s₁ _ I hk rfl (allBare_setGen I.bare rfl) hq
  | succ n ih =>
    intro gs s hl hga hgs hgo
    have hlt : g < s.gens.size := (Array.getElem?_eq_some_iff.mp hgs).1
    refine codeAny_builtin F.entry_any_loop ?_
    rw [Around.under_plainId F.plain_any_loop _]
    show wpAny _ A.in1 (pyNext (.ref a) >>= _) _ _ s
    refine wpAny_bind (wpAny_gsz (n := s.gens.size) (Nat.le_refl _) (wpAny_pyNext_genexpQ (P := GFb Xg pins true Q) hh hl hroom hga hgs hgo (fun v s₁ gs' hb hv hsz => ?_) (fun s₁ hp h' hk hsz => ?_)))
    · obtain ⟨b, σ, H, rfl, I, hs, hn⟩ := hv
      refine wpAny_bind (wpAny_holding (wpAny_truthy_bool ?_))
      refine wpAny_bind (wpAny_letGo ?_)
      have hb1 : AllBare (s₁.setGen g gs').gens := allBare_setGen I.bare hb
      by_cases hb0 : b = true
      · subst hb0
        simp only [if_true]
        refine wpAny_bind (wpAny_rule (wpAny_pure ?_))
        exact hfin true σ H s₁ _ I (fun _ _ e => e) rfl hb1 (hs rfl)
      · have hbo : b = false := by cases b <;> first | rfl | exact absurd rfl hb0
        subst hbo
        simp only [Bool.false_eq_true, if_false]
        have hk := hn hb0 ((s₁.setGen g gs').setGen g .running) rfl rfl (allBare_setGen hb1 rfl)
        rw [setGen_size] at hsz
        exact wpAny_pure ⟨plainId_quiet F.plain_any_loop _, ih gs' (s₁.setGen g gs') I.nolimit (show s₁.heap.IsGen a g from hg _ _ _ I) (setGen_at (by omega)) hk⟩
    · obtain ⟨σ, H, I, hq⟩ := hp
      refine wpAny_bind (wpAny_rule (wpAny_pure ?_))
      exact hfin false σ H s₁ _ I hk rfl (allBare_setGen I.bare rfl) hq
end

/-- all(..), any(..) of a generator expression: b0 stops it; P the table of the def's code objects -/
def tGx (P : Addr) (b0 : Bool) (wi : TI) (g : TG) (tt : TT) (te : TE) (vs : List Nat) : TE := fun σ H Q => wi σ H fun J H1 => TabG H1 P ∧ ∀ H1', Tabbed P H1 H1' → ∃ W : Nat → Nat → Hp → Prop, (∃ m, W 0 m H1') ∧ ∀ i m H, W i m H →
  (J.stop i H ∧ Q (.bl (!b0)) H) ∨ (J.go i H ∧ ∃ Nx : Hp → Prop, (∀ H', Nx H' → ∃ m', m' < m ∧ W (i + 1) m' H') ∧ ∀ x H', J.yld i H x H' → g x (wipe σ vs) H' fun σ2 H2 => wipe σ2 vs = wipe σ vs ∧ tt σ2 H2 fun b H3 =>
    if b = true then te σ2 H3 fun y H4 => ∃ c, y = .bl c ∧ (c = b0 → Q (.bl b0) H4) ∧ (c ≠ b0 → Nx H4) else Nx H3)
/-- a generator expression's scope: no cell of its own, the walked thing at «.0» -/
structure GenSc (scope : Scope) : Prop where
  co : scope.isCoroutine = false
  cell : ∀ y ∈ scope.names, y.2 ≠ .cell
  dot : scope.names.lookup (".0" : Str) = some NameKind.local
section
variable {X : Cx} {pins : List (Addr × Obj)} {σ : L2.St} {H : Hp} {s : Shared}
/-- the generator is made; it is ready to be walked -/
def Made (X : Cx) (pins : List (Addr × Obj)) (σ : L2.St) (b0 : Bool) (Q : VK) (u : Value) (s5 : Shared) : Prop :=
  ∃ (a : Addr) (gi n : Nat) (gs : GenState) (Xg : Cx) (pl : List (Addr × Obj)), u = .ref a ∧ Xg.prog = X.prog ∧ Xg.w = X.w ∧ s5.heap.NoLimit ∧ s5.heap.IsGen a gi ∧ s5.gens[gi]? = some gs ∧
    gs.Goes (model X.prog X.w) X.A.in1.in1 (GRb Xg pl b0 Q) (GYb Xg pl b0 Q) n (.send .none) (s5.setGen gi .running) ∧
    (∀ (σ : L2.St) (H : Hp) (s : Shared), Inv Xg pl σ H s → s.heap.IsGen a gi) ∧
    (∀ (b : Bool) (σ' : L2.St) (H : Hp) (s1 s' : Shared), Inv Xg pl σ' H s1 → (∀ b o, s1.heap.get? b = some o → s'.heap.get? b = some o) → s'.os = s1.os → AllBare s'.gens → Q (.bl b) H → Inv X pins σ H s')
theorem gen_make {c P : Addr} {elt tg iter : Expr} {ifs : List Expr} {scope : Scope} {own : List (Str × Nat)} {gpos : Pos} {wi : TI} {g : TG} {tt : TT} {te : TE} {k : Nat} {b0 : Bool} {Q : VK} {Q' : Value → Shared → Prop}
    (hr : Room (k + 1) X.A) (TB : TabB X.base X.mg c P) (hcode : X.env.code = .ref c) (hc : X.calm = true) (hN : X.N.Nodup) (S : GenSc scope) (ok : BlkOk X.N X.env.scope scope own) (hi : PI X tg iter wi)
    (hg : ∀ (s : Shared) (H : Hp) (C : Addr) (code : Value) (A' : Around) (fp : List Addr), Room k A' → PG (X.gen s H (genEnv scope (cloFrom X.env.cells scope.names []) C code builtinsNs X.env) A' fp) tg g)
    (ht : ∀ (s : Shared) (H : Hp) (C : Addr) (code : Value) (A' : Around) (fp : List Addr), Room k A' → PTs (X.gen s H (genEnv scope (cloFrom X.env.cells scope.names []) C code builtinsNs X.env) A' fp) ifs tt)
    (he : ∀ (s : Shared) (H : Hp) (C : Addr) (code : Value) (A' : Around) (fp : List Addr), Room k A' → PE (X.gen s H (genEnv scope (cloFrom X.env.cells scope.names []) C code builtinsNs X.env) A' fp) elt te)
    (hs : ∀ v, genFold iter X.env v = pure v) (I : Inv X pins σ H s) (h : tGx P b0 wi g tt te (own.map (·.2)) σ H Q) (hQ : ∀ u s5, Made X pins σ b0 Q u s5 → Q' u s5) :
    wpAny (model X.prog X.w) X.A (eval (.GeneratorExp elt [⟨tg, iter, ifs, 0⟩] scope gpos) X.env) Q' X.xe s := by
  have hfree : ∀ y ∈ scope.names, y.2 = .free → ∃ c, X.env.cells.lookup y.1 = some c := fun y hy e => by
    rcases ok.free y hy e with k | k
    · exact I.ok.has _ (.inl k)
    · exact I.ok.has _ (.inr k)
  refine wpAny_GeneratorExp_make S.co (closure_ok hfree) S.cell S.dot ok.kind (by have := hr.dp; omega) ?_ hs
  refine thn (hi.run pins s σ H _ I h) fun xv s1 hx => thn hx fun itv s2 h2 => ?_
  obtain ⟨it, fp, tn, J, H2, e, I2, T, st2, f2, ⟨ps, hP, htri⟩, q⟩ := h2
  subst e
  have hPs : s2.heap.get? P = some { cls := .none, data := .fields ps } := I2.hok P _ hP
  have cd : PySem.W.CodeHd s2.heap c P := TB.code.keeps I2.bk
  have fpP : ∀ b ∈ fp, b ≠ P := fun b hb z => by
    have := (f2 b hb).1
    rw [z, hP] at this
    cases this
  have cont : ∀ (code : Value) (h3 : Heap) (tk : Nat) (ps' : Array Value), Heap.ExtBut P s2.heap h3 → h3.get? P = some { cls := .none, data := .fields ps' } → (∃ more, ps' = ps ++ more) → TriplesOk ps'.toList →
      wpAny (model X.prog X.w) X.A (builtinsFor X.env.globals X.env.builtins) (fun bi s₄ =>
        ∀ h', h'.Ns s₄.heap.objs.size (fun y => if y = ".0" then some (.ref it) else none) → Heap.SameBut s₄.heap.objs.size (s₄.heap.push { cls := .type "frame", data := .dict #[] }) h' →
          Q' (.ref h'.objs.size) { s₄ with
            gens := s₄.gens.push (.fresh (.compStart (.GeneratorExp elt [⟨tg, iter, ifs, 0⟩] scope gpos) 0 (.ref it) .none (genEnv scope (cloFrom X.env.cells scope.names []) s₄.heap.objs.size code bi X.env))),
            toks := s₄.toks + 1 + 1 + 1,
            heap := h'.push { cls := .type "generator", data := .fields #[.int s₄.gens.size 0, .str "<genexpr>" (s₄.toks + 1), .str (X.env.qual ++ "<genexpr>") (s₄.toks + 1 + 1)] } }) X.xe { s2 with heap := h3, toks := tk } := by
    intro code h3 tk ps' hx hP3 hmore ht3
    obtain ⟨more, rfl⟩ := hmore
    obtain ⟨bm, ob, e1, e2, e3, e4, e5, e6, e7, e8⟩ := TB.bm
    have keep3 : ∀ b u, b ≠ P → s2.heap.get? b = some u → h3.get? b = some u := fun b u hb e => hx b u hb e
    refine wpAny_builtinsFor (m := X.mg) (by rw [I2.ok.glob]; exact (I2.mod.glob.keeps I2.bk).extBut hx TB.gP) e1 e2 (keep3 _ _ e4 (I2.bk _ _ e5)) e6 e7 e8 ?_
    intro h' hn' hs'
    have I4 : Inv X pins σ (upd H2 P (.tbl (ps ++ more))) { s2 with heap := h3, toks := tk } := inv_tab (more := more) (h' := h3) (g' := s2.gens) (d' := s2.drawn) (t' := tk) I2 hP (fun b u hb e => keep3 b u hb e) hP3 I2.bare
    generalize hs4 : ({ s2 with heap := h3, toks := tk } : Shared) = s4 at I4 hn' hs' ⊢
    have h34 : s4.heap = h3 := by rw [← hs4]
    have TBD : Tabbed P H2 (upd H2 P (.tbl (ps ++ more))) := ⟨⟨ps ++ more, upd_same, ht3⟩, fun b hb => upd_ne hb⟩
    generalize hH4 : upd H2 P (.tbl (ps ++ more)) = H4 at I4 TBD
    obtain ⟨W, ⟨m0, w0⟩, turn⟩ := q H4 TBD
    have f4 : ∀ b ∈ fp, FpOk X pins H4 b ∧ b < s4.heap.objs.size := fun b hb => by
      obtain ⟨o, e, _⟩ := T.obj _ _ st2 b hb
      refine ⟨⟨?_, (f2 b hb).2⟩, by rw [h34]; exact Heap.lt_size (keep3 b o (fpP b hb) e)⟩
      rw [TBD.2 b (fpP b hb)]
      exact (f2 b hb).1
    have st4 : tn 0 s4.heap := T.keep _ _ _ st2 fun b hb o e => by rw [h34]; exact keep3 b o (fpP b hb) e
    have hsz : h'.objs.size = s4.heap.objs.size + 1 := by rw [hs'.1, Heap.size_push]
    generalize hce : genEnv scope (cloFrom X.env.cells scope.names []) s4.heap.objs.size code builtinsNs X.env = cenv
    generalize hgo : ({ cls := .type "generator", data := .fields #[.int s4.gens.size 0, .str "<genexpr>" (s4.toks + 1), .str (X.env.qual ++ "<genexpr>") (s4.toks + 1 + 1)] } : Obj) = go
    have hgd : ∀ v, go.data ≠ .cell v := fun v => by rw [← hgo]; exact fun z => by cases z
    have hgf : (h'.push go).get? h'.objs.size = some go := by rw [← hgo]; exact Heap.get?_push_size _ rfl
    have hgen : ∀ h : Heap, h.get? h'.objs.size = some go → h.IsGen h'.objs.size s4.gens.size := fun h e => ⟨go, _, _, e, by rw [← hgo], by rw [← hgo], by rw [← hgo]⟩
    -- the frame's around
    have Rg : Room k ((X.A.in1.in1).over (.compLoop (.GeneratorExp elt [⟨tg, iter, ifs, 0⟩] scope gpos) 0 (.ref it) .none cenv) []) := ⟨hr.hd, by have := hr.dp; show X.A.depth + 0 + 1 + 3 * k + 5 < _; omega, by have := hr.un; show X.A.units + 1 + 1 + 0 + 3 + 16 * k + 200 < _; omega⟩
    have hfr : ((X.A.in1.in1).over (.compLoop (.GeneratorExp elt [⟨tg, iter, ifs, 0⟩] scope gpos) 0 (.ref it) .none cenv) []).frames = some (cenv :: X.stack) := by
      show pushEnvs [cenv] (pushEnvs [] X.A.frames) = _
      rw [I4.ok.frames]
      rfl
    have I5 := gen_start (gs := .fresh (.compStart (.GeneratorExp elt [⟨tg, iter, ifs, 0⟩] scope gpos) 0 (.ref it) .none cenv)) (tk := s4.toks + 1 + 1 + 1) I4 ok S.cell hN f4 hce.symm hfr (fun _ => Rg.hd) hn' hs' hgd hgf rfl
    have kp : ∀ b o, s4.heap.get? b = some o → (h'.push go).get? b = some o := fun b o e => Heap.get?_push_of_some _ (hs'.extBut b o (Nat.ne_of_lt (Heap.lt_size e)) (Heap.get?_push_of_some _ e))
    have pgx := hg s4 H4 s4.heap.objs.size code _ fp Rg
    have ptx := ht s4 H4 s4.heap.objs.size code _ fp Rg
    have pex := he s4 H4 s4.heap.objs.size code _ fp Rg
    rw [hce] at pgx ptx pex
    refine hQ _ _ ⟨h'.objs.size, s4.gens.size, m0 + 1, _, X.gen s4 H4 cenv ((X.A.in1.in1).over (.compLoop (.GeneratorExp elt [⟨tg, iter, ifs, 0⟩] scope gpos) 0 (.ref it) .none cenv) []) fp, [(h'.objs.size, go)], rfl, rfl, rfl, I5.nolimit, hgen _ hgf, Array.getElem?_push_size .., ⟨rfl, ?_⟩, fun σ' H' s' I' => hgen _ (I'.pin (h'.objs.size, go) (List.mem_append_right _ (List.mem_singleton.mpr rfl))).1, fun b σ' H' s1' s' I' hk ho hb hq => ?_⟩
    · have hco : cenv.scope.isCoroutine = false := by rw [← hce]; exact S.co
      have loop := fun (s₀ s : Shared) I st => seg_gen (A₀ := X.A.in1.in1) (Q := Q) (b0 := b0) W hc hco T pgx ptx pex (pins := [(h'.objs.size, go)]) (fun p hp => by
        rw [List.mem_singleton.mp hp]
        exact fun z => by
          have h9 : (h'.objs.size : Nat) < s4.heap.objs.size := (f4 h'.objs.size z).2
          omega) turn m0 (m0 + 1) 0 H4 s₀ s (Nat.lt_succ_self _) I st (fun b hb => (f4 b hb).1.1) w0
      have st5 : tn 0 (h'.push go) := T.keep _ _ _ st4 fun b hb o e => kp b o e
      generalize hs6 : (({ s4 with gens := s4.gens.push (.fresh (.compStart (.GeneratorExp elt [⟨tg, iter, ifs, 0⟩] scope gpos) 0 (.ref it) .none cenv)), toks := s4.toks + 1 + 1 + 1, heap := h'.push go } : Shared).setGen s4.gens.size .running) = s6
      have loop6 := loop s6 s6 (inv_slept I5 (by rw [← hs6]; rfl) (by rw [← hs6]; rfl) (by rw [← hs6]; exact allBare_setGen I5.bare rfl)) (by rw [← hs6]; exact st5)
      show Seg _ X.A.in1.in1 _ _ _ s6 _ ((compStart (.GeneratorExp elt [⟨tg, iter, ifs, 0⟩] scope gpos) 0 (.ref it) .none cenv).onRaise (leaving cenv)) [] s6
      unfold compStart
      rw [Sem.onRaise_eq_wrap]
      show Seg _ X.A.in1.in1 _ _ _ s6 _ ((ask >>= _).wrap _ _ _ _) [] s6
      refine seg_bind_wrap (wpAny_askSetting ?_)
      split
      · exact seg_again rfl loop6
      · have st6 : tn 0 s6.heap := by rw [← hs6]; exact st5
        first
          | exact seg_bind_wrap (wpAny_rule (seg_bind_wrap (wpAny_standAt (seg_bind_wrap (T.self _ 0 s6 _ _ st6 (seg_again rfl loop6))))))
          | (refine seg_bind_wrap (wpAny_rule ?_); show Seg _ X.A.in1.in1 _ _ _ s6 _ ((standAt iter.pos >>= _).wrap _ _ _ _) [] s6; exact seg_bind_wrap (wpAny_standAt (seg_bind_wrap (T.self _ 0 s6 _ _ st6 (seg_again rfl loop6)))))
    · refine I4.call' (ch := fp) (ho.trans I'.os) (I'.base.trans (Un.kept hk)) (I'.hok.kept hk) hb fun b hb => ⟨(f4 b hb).1.2.2.2.1, (f4 b hb).1.2.1, (f4 b hb).1.2.2.2.2.1, (f4 b hb).1.2.2.2.2.2⟩
  refine ⟨I2.nolimit, ?_⟩
  cases hf : codeAmong gpos ps.toList with
  | none =>
    refine wpAny_genexprCodeX hcode (cd.code hPs htri) (cd.tab hPs) hf fun c' h' tk hx hge hlt hco' _ htab' _ => ?_
    obtain ⟨o1, vs, f1, tf, fl, tg, inF, tx, tt, op, _, _, _, _, _, _, _, _, _, htr, _⟩ := hco'
    exact cont _ h' tk _ hx htab'.2 ⟨_, rfl⟩ htr
  | some cv =>
    refine wpAny_genexprCode_hit hcode (cd.code hPs htri) hf ?_
    exact cont cv s2.heap s2.toks ps (Heap.ExtBut.refl _ _) hPs ⟨#[], by simp⟩ htri

theorem pe_allG {c P : Addr} {elt tg iter : Expr} {ifs : List Expr} {scope : Scope} {own : List (Str × Nat)} {p pos gpos : Pos} {wi : TI} {g : TG} {tt : TT} {te : TE} {k : Nat}
    (hr : Room (k + 1) X.A) (hgl : Gl X "all") (hm : X.mg "all" = none) (hbt : bootBuiltins "all" = some (.builtin "all")) (TB : TabB X.base X.mg c P) (hcode : X.env.code = .ref c) (hc : X.calm = true) (hN : X.N.Nodup) (S : GenSc scope) (ok : BlkOk X.N X.env.scope scope own) (hi : PI X tg iter wi)
    (hg : ∀ (s : Shared) (H : Hp) (C : Addr) (code : Value) (A' : Around) (fp : List Addr), Room k A' → PG (X.gen s H (genEnv scope (cloFrom X.env.cells scope.names []) C code builtinsNs X.env) A' fp) tg g)
    (ht : ∀ (s : Shared) (H : Hp) (C : Addr) (code : Value) (A' : Around) (fp : List Addr), Room k A' → PTs (X.gen s H (genEnv scope (cloFrom X.env.cells scope.names []) C code builtinsNs X.env) A' fp) ifs tt)
    (he : ∀ (s : Shared) (H : Hp) (C : Addr) (code : Value) (A' : Around) (fp : List Addr), Room k A' → PE (X.gen s H (genEnv scope (cloFrom X.env.cells scope.names []) C code builtinsNs X.env) A' fp) elt te)
    (hs : ∀ v, genFold iter X.env v = pure v := by intro _; rfl)
    (hst : starEach [.GeneratorExp elt [⟨tg, iter, ifs, 0⟩] scope gpos] X.env = (false, eval (.GeneratorExp elt [⟨tg, iter, ifs, 0⟩] scope gpos) X.env) :: starEach [] X.env := by rfl) :
    PE X (.Call (.Name "all" p) [.GeneratorExp elt [⟨tg, iter, ifs, 0⟩] scope gpos] [] pos) (tGx P false wi g tt te (own.map (·.2))) := by
  refine ⟨fun pins s σ H Q I h => ?_⟩
  refine wpAny_Call_Name_kw (ld_blt I hgl hm hbt ?_)
  refine PyProof.Rows.callWith_builtin1 ?_ hst (by rfl)
  rw [hst]
  show wpAny _ _ (spliced ((false, eval (.GeneratorExp elt [⟨tg, iter, ifs, 0⟩] scope gpos) X.env) :: backTo pos (starEach [] X.env))) _ _ s
  refine Calls.spliced_cons (gen_make hr TB hcode hc hN S ok hi hg ht he hs I h fun u s5 hM => ?_)
  obtain ⟨a, gi, n, gs, Xg, pl, rfl, eP, eW, hl, hga, hgs, hgo, hgen, hfin⟩ := hM
  refine Calls.spliced_nil ?_
  refine call_function_tree F.kind_all F.plain_all F.entry_all (F.args_all1 _) ?_
  unfold Builtin.«all»
  refine wpAny_bind (m := oneArg "all" _) (wpAny_pure ?_)
  refine wpAny_bind (wpAny_pyIter_gen hga ?_)
  rw [← eP, ← eW] at hgo ⊢
  exact wpAny_pure ⟨plainId_quiet F.plain_all_loop _, loop_all (Q := Q) hr.hd hr.depth hgen (fun b σ' H' s1 s' I' hk ho hb hq => ⟨.bl b, H', hfin b σ' H' s1 s' I' hk ho hb hq, rfl, hq⟩) n gs s5 hl hga hgs hgo⟩

theorem pe_anyG {c P : Addr} {elt tg iter : Expr} {ifs : List Expr} {scope : Scope} {own : List (Str × Nat)} {p pos gpos : Pos} {wi : TI} {g : TG} {tt : TT} {te : TE} {k : Nat}
    (hr : Room (k + 1) X.A) (hgl : Gl X "any") (hm : X.mg "any" = none) (hbt : bootBuiltins "any" = some (.builtin "any")) (TB : TabB X.base X.mg c P) (hcode : X.env.code = .ref c) (hc : X.calm = true) (hN : X.N.Nodup) (S : GenSc scope) (ok : BlkOk X.N X.env.scope scope own) (hi : PI X tg iter wi)
    (hg : ∀ (s : Shared) (H : Hp) (C : Addr) (code : Value) (A' : Around) (fp : List Addr), Room k A' → PG (X.gen s H (genEnv scope (cloFrom X.env.cells scope.names []) C code builtinsNs X.env) A' fp) tg g)
    (ht : ∀ (s : Shared) (H : Hp) (C : Addr) (code : Value) (A' : Around) (fp : List Addr), Room k A' → PTs (X.gen s H (genEnv scope (cloFrom X.env.cells scope.names []) C code builtinsNs X.env) A' fp) ifs tt)
    (he : ∀ (s : Shared) (H : Hp) (C : Addr) (code : Value) (A' : Around) (fp : List Addr), Room k A' → PE (X.gen s H (genEnv scope (cloFrom X.env.cells scope.names []) C code builtinsNs X.env) A' fp) elt te)
    (hs : ∀ v, genFold iter X.env v = pure v := by intro _; rfl)
    (hst : starEach [.GeneratorExp elt [⟨tg, iter, ifs, 0⟩] scope gpos] X.env = (false, eval (.GeneratorExp elt [⟨tg, iter, ifs, 0⟩] scope gpos) X.env) :: starEach [] X.env := by rfl) :
    PE X (.Call (.Name "any" p) [.GeneratorExp elt [⟨tg, iter, ifs, 0⟩] scope gpos] [] pos) (tGx P true wi g tt te (own.map (·.2))) := by
  refine ⟨fun pins s σ H Q I h => ?_⟩
  refine wpAny_Call_Name_kw (ld_blt I hgl hm hbt ?_)
  refine PyProof.Rows.callWith_builtin1 ?_ hst (by rfl)
  rw [hst]
  show wpAny _ _ (spliced ((false, eval (.GeneratorExp elt [⟨tg, iter, ifs, 0⟩] scope gpos) X.env) :: backTo pos (starEach [] X.env))) _ _ s
  refine Calls.spliced_cons (gen_make hr TB hcode hc hN S ok hi hg ht he hs I h fun u s5 hM => ?_)
  obtain ⟨a, gi, n, gs, Xg, pl, rfl, eP, eW, hl, hga, hgs, hgo, hgen, hfin⟩ := hM
  refine Calls.spliced_nil ?_
  refine call_function_tree F.kind_any F.plain_any F.entry_any (F.args_any1 _) ?_
  unfold Builtin.«any»
  refine wpAny_bind (m := oneArg "any" _) (wpAny_pure ?_)
  refine wpAny_bind (wpAny_pyIter_gen hga ?_)
  rw [← eP, ← eW] at hgo ⊢
  exact wpAny_pure ⟨plainId_quiet F.plain_any_loop _, loop_any (Q := Q) hr.hd hr.depth hgen (fun b σ' H' s1 s' I' hk ho hb hq => ⟨.bl b, H', hfin b σ' H' s1 s' I' hk ho hb hq, rfl, hq⟩) n gs s5 hl hga hgs hgo⟩
end
end GxP
namespace SuP
open PySem PySem.Spec PyProof.Rows L2
/-! ### a clean table is laid -/
def MaskA (m : Nat) : Prop := m = 7 ∨ m = 15 ∨ m = 31 ∨ m = 63 ∨ m = 127 ∨ m = 255
theorem all7 : ((List.range 8).all fun j => (List.range 8).any fun b => lcgN 7 b == j) = true := by decide +kernel
theorem all15 : ((List.range 16).all fun j => (List.range 16).any fun b => lcgN 15 b == j) = true := by decide +kernel
theorem all31 : ((List.range 32).all fun j => (List.range 32).any fun b => lcgN 31 b == j) = true := by decide +kernel
theorem all63 : ((List.range 64).all fun j => (List.range 64).any fun b => lcgN 63 b == j) = true := by decide +kernel
theorem all127 : ((List.range 128).all fun j => (List.range 128).any fun b => lcgN 127 b == j) = true := by decide +kernel
theorem all255 : ((List.range 256).all fun j => (List.range 256).any fun b => lcgN 255 b == j) = true := by decide +kernel
theorem allA {m : Nat} (hm : MaskA m) : ((List.range (m + 1)).all fun j => (List.range (m + 1)).any fun b => lcgN m b == j) = true := by
  rcases hm with e | e | e | e | e | e <;> subst e
  · exact all7
  · exact all15
  · exact all31
  · exact all63
  · exact all127
  · exact all255
theorem reach {m : Nat} (hm : MaskA m) {j : Nat} (hj : j ≤ m) : ∃ b, b ≤ m ∧ lcgN m b = j := by
  have h1 := List.all_eq_true.mp (allA hm) j (List.mem_range.mpr (Nat.lt_succ_of_le hj))
  obtain ⟨b, hb, e⟩ := List.any_eq_true.mp h1
  exact ⟨b, Nat.le_of_lt_succ (List.mem_range.mp hb), beq_iff_eq.mp e⟩
theorem round {m : Nat} (hm : MaskA m) : lcgN m (m + 1) = 0 := by
  rcases hm with e | e | e | e | e | e <;> subst e <;> decide +kernel
theorem rmod {m : Nat} (hm : MaskA m) : ∀ k, lcgN m (m + 1 + k) = lcgN m k
  | 0 => round hm
  | k + 1 => by
    show (lcgN m (m + 1 + k) * 5 + 1) % (m + 1) = (lcgN m k * 5 + 1) % (m + 1)
    rw [rmod hm k]
theorem from_any {m : Nat} (hm : MaskA m) {i j : Nat} (hi : i ≤ m) (hj : j ≤ m) : ∃ k, k ≤ m ∧ lcgI m i k = j := by
  obtain ⟨a, ha, ea⟩ := reach hm hi
  obtain ⟨b, hb, eb⟩ := reach hm hj
  rw [← ea]
  rcases Nat.lt_or_ge b a with c | c
  · refine ⟨b + (m + 1) - a, by omega, ?_⟩
    rw [lcgN_add, show a + (b + (m + 1) - a) = m + 1 + b by omega, rmod hm, eb]
  · refine ⟨b - a, by omega, ?_⟩
    rw [lcgN_add, show a + (b - a) = b by omega, eb]
theorem meets {m : Nat} (hm : MaskA m) (h : Int) {j : Nat} (hj : j ≤ m) : ∃ n, n ≤ m + 12 ∧ runI m (SetTable.bits h) n = j := by
  obtain ⟨k, hk, e⟩ := from_any hm (runI_le m (SetTable.bits h) 12) hj
  exact ⟨12 + k, by omega, by rw [runI_tail (bits_lt h)]; exact e⟩
theorem free_any (m : Nat) (owner : Array (Option Nat)) {j : Nat} (hf : oAt owner j = none) : ∀ (f n i b : Nat), n < f → (itL m i b n).1 = j → ∃ r, SetTable.layClean.free m owner f i b = some r ∧ oAt owner r = none
  | 0, _, _, _, hn, _ => absurd hn (Nat.not_lt_zero _)
  | f + 1, n, i, b, hn, e => by
    rw [free_succ]
    cases q : (List.range (SetTable.runEnd m i + 1 - i)).find? fun k => (oAt owner (i + k)).isNone with
    | some k =>
      have z := List.find?_some q
      exact ⟨i + k, rfl, Option.isNone_iff_eq_none.mp z⟩
    | none =>
      cases n with
      | zero =>
        have z := List.find?_eq_none.mp q 0 (List.mem_range.mpr (by have := runEnd_ge m i; omega))
        have e' : i = j := e
        rw [Nat.add_zero, e', hf] at z
        exact absurd rfl z
      | succ n => exact free_any m owner hf f n _ _ (by omega) e
/-- who sits where: each of the first k once -/
structure Sits (m k : Nat) (owner : Array (Option Nat)) : Prop where
  sz : owner.size = m + 1
  low : ∀ j i, oAt owner j = some i → j ≤ m → i < k
  inj : ∀ j j' i, j ≤ m → j' ≤ m → oAt owner j = some i → oAt owner j' = some i → j = j'
  all : ∀ i, i < k → ∃ j, j ≤ m ∧ oAt owner j = some i
  ps : ∃ ps : List Nat, ps.length = k ∧ ∀ j, j ≤ m → oAt owner j ≠ none → j ∈ ps
theorem Sits.init (m : Nat) : Sits m 0 (Array.replicate (m + 1) none) where
  sz := by simp
  low := fun j i e hj => by rw [oAt_init hj] at e; cases e
  inj := fun j j' i hj _ e _ => by rw [oAt_init hj] at e; cases e
  all := fun i hi => absurd hi (Nat.not_lt_zero _)
  ps := ⟨[], rfl, fun j hj e => absurd (oAt_init hj) e⟩
theorem oAt_out {owner : Array (Option Nat)} {j : Nat} (h : oAt owner j = none) : j < owner.size := by
  by_cases c : j < owner.size
  · exact c
  · have z : owner.getD j (some 0) = none := h
    rw [Array.getD_eq_getD_getElem?, Array.getElem?_eq_none (by omega)] at z
    cases z
theorem Sits.step {m k : Nat} (hm : MaskA m) {owner : Array (Option Nat)} (S : Sits m k owner) (hk : k ≤ m) (h : Int) :
    ∃ j, SetTable.layClean.free m owner (SetTable.turns m) (SetTable.bits h % (m + 1)) (SetTable.bits h) = some j ∧ Sits m (k + 1) (owner.setIfInBounds j (some k)) := by
  obtain ⟨ps, hps, hin⟩ := S.ps
  obtain ⟨j0, h0, hn0⟩ := st_missing ps (m + 1) (by omega)
  have hj0 : oAt owner j0 = none := by
    cases z : oAt owner j0 with
    | none => rfl
    | some i => exact absurd (hin j0 (Nat.le_of_lt_succ h0) (by rw [z]; exact fun e => nomatch e)) hn0
  obtain ⟨n, hn, e⟩ := meets hm h (Nat.le_of_lt_succ h0)
  obtain ⟨r, e1, e2⟩ := free_any m owner hj0 (SetTable.turns m) n (SetTable.bits h % (m + 1)) (SetTable.bits h) (by unfold SetTable.turns; omega) (by rw [itL_run]; exact e)
  have hrs := oAt_out e2
  have hrm : r ≤ m := by rw [S.sz] at hrs; omega
  have hself := oAt_set_self (some k) hrs
  refine ⟨r, e1, by rw [Array.size_setIfInBounds]; exact S.sz, fun j i q hj => ?_, fun j j' i hj hj' q q' => ?_, fun i hi => ?_, ⟨r :: ps, by rw [List.length_cons, hps], fun j hj q => ?_⟩⟩
  · by_cases c : j = r
    · rw [c, hself] at q; cases q; omega
    · rw [oAt_set_ne _ c] at q
      have := S.low j i q hj
      omega
  · by_cases c : j = r <;> by_cases c' : j' = r
    · rw [c, c']
    · rw [c, hself] at q; cases q
      rw [oAt_set_ne _ c'] at q'
      have := S.low j' k q' hj'
      omega
    · rw [c', hself] at q'; cases q'
      rw [oAt_set_ne _ c] at q
      have := S.low j k q hj
      omega
    · rw [oAt_set_ne _ c] at q
      rw [oAt_set_ne _ c'] at q'
      exact S.inj j j' i hj hj' q q'
  · by_cases c : i = k
    · rw [c]; exact ⟨r, hrm, hself⟩
    · obtain ⟨j, hj, q⟩ := S.all i (by omega)
      refine ⟨j, hj, ?_⟩
      rw [oAt_set_ne _ (fun z => by rw [z, e2] at q; cases q)]
      exact q
  · by_cases c : j = r
    · rw [c]; exact List.mem_cons_self
    · rw [oAt_set_ne _ c] at q
      exact List.mem_cons_of_mem _ (hin j hj q)
theorem fold_sits {m : Nat} (hm : MaskA m) : ∀ (rest : List Int) (k : Nat) (owner : Array (Option Nat)), Sits m k owner → k + rest.length ≤ m →
    ∃ owner', rest.foldl (stepF m) (some (owner, k)) = some (owner', k + rest.length) ∧ Sits m (k + rest.length) owner'
  | [], k, owner, S, _ => ⟨owner, rfl, S⟩
  | h :: rest, k, owner, S, hl => by
    rw [List.length_cons] at hl
    obtain ⟨j, e, S'⟩ := S.step hm (by omega) h
    obtain ⟨owner', f, S2⟩ := fold_sits hm rest (k + 1) _ S' (by omega)
    refine ⟨owner', ?_, ?_⟩
    · rw [List.foldl_cons, stepF_some e, f, List.length_cons]
      congr 2
      omega
    · rw [List.length_cons]
      have : k + (rest.length + 1) = k + 1 + rest.length := by omega
      rw [this]
      exact S2
/-- laid: every entry once -/
theorem laid_ok {m fg mv : Nat} {ld pl : Bool} {hs : Array Int} (hm : MaskA m) (hn : hs.size ≤ m) :
    ∃ t order, SetTable.laid m fg mv ld pl hs = some (t, order) ∧ order.toList.Perm (List.range hs.size) ∧ Ris t.place.toList ∧ t.place.size = hs.size ∧ t.dummies = #[] ∧ t.mask = m ∧ t.led = ld ∧ t.plain = pl := by
  obtain ⟨owner, f, S⟩ := fold_sits hm hs.toList 0 _ (Sits.init m) (by rw [Array.length_toList]; omega)
  have e : SetTable.layClean m hs = some owner := by
    rw [layClean_eq, f]
    rfl
  have hz : 0 + hs.toList.length = hs.size := by rw [Array.length_toList]; omega
  rw [hz] at S
  have hr : SetTable.laid m fg mv ld pl hs = some ({ mask := m, place := ((liveOf m owner).map (·.1)).toArray, dummies := #[], finger := fg, led := ld, moves := mv, plain := pl }, ((liveOf m owner).map (·.2)).toArray) := by
    unfold SetTable.laid
    rw [e]
    rfl
  have ris := ris_live (fun j => owner.getD j none) (List.range (m + 1)) (by
    unfold Ris
    first | exact List.pairwise_lt_range | exact List.pairwise_lt_range _)
  have r1 : Ris ((liveOf m owner).map (·.1)) := ris.1
  have nd : ((liveOf m owner).map (·.1)).Nodup := List.Pairwise.imp (fun h => Nat.ne_of_lt h) r1
  have hlen : (liveOf m owner).length = hs.size := by
    obtain ⟨ps, p1, p2⟩ := S.ps
    have a := nat_nodup_len ((liveOf m owner).map (·.1)) ps nd fun x hx => by
      obtain ⟨⟨y, k⟩, hq, eq1⟩ := List.mem_map.mp hx
      have ey : y = x := eq1
      subst ey
      obtain ⟨b1, b2⟩ := (mem_live S.sz).1 hq
      exact p2 y b1 (by rw [b2]; exact fun z => nomatch z)
    have b := nat_nodup_len (List.range hs.size) ((liveOf m owner).map (·.2)) List.nodup_range fun k hk => by
      obtain ⟨j, b1, b2⟩ := S.all k (List.mem_range.mp hk)
      exact List.mem_map.mpr ⟨(j, k), (mem_live S.sz).2 ⟨b1, b2⟩, rfl⟩
    rw [List.length_map] at a
    rw [List.length_map, List.length_range] at b
    omega
  refine ⟨_, _, hr, ?_, r1, by show ((liveOf m owner).map (·.1)).toArray.size = hs.size; rw [List.size_toArray, List.length_map]; exact hlen, rfl, rfl, rfl, rfl⟩
  refine perm_range hs.size _ ?_ fun k hk => ?_
  · show ((liveOf m owner).map (·.2)).length = hs.size
    rw [List.length_map]
    exact hlen
  · obtain ⟨j, b1, b2⟩ := S.all k hk
    exact List.mem_map.mpr ⟨(j, k), (mem_live S.sz).2 ⟨b1, b2⟩, rfl⟩

/-! ### the set of ints at a, with its table -/
structure SetT (w : World) (h : Heap) (a : Addr) (S : Int → Bool) (ep : Nat) (es : Array (Int × Value)) (t : SetTable) : Prop where
  ob : ∃ o, h.get? a = some o ∧ o.ExactSet ∧ o.data = .set es ep t
  good : ∀ e ∈ es.toList, GoodE e
  nd : (es.toList.map keyOf).Nodup
  mem : ∀ k, S k = true ↔ k ∈ es.toList.map keyOf
  bd : es.size < scanBound
  fits : t.fits es.size = true
  ris : Ris t.place.toList
  led : w.params.followText "set-order" = true ∨ t.led = true
theorem SetT.r {w : World} {h : Heap} {a : Addr} {S : Int → Bool} {ep : Nat} {es : Array (Int × Value)} {t : SetTable} (R : SetT w h a S ep es t) : SetR w h a S es.size := by
  obtain ⟨o, ho, hx, hd⟩ := R.ob
  exact ⟨o, es, ep, t, ho, hx, hd, R.good, R.nd, R.mem, R.bd, R.fits, rfl, R.ris, R.led⟩
theorem SetT.of {w : World} {h : Heap} {a : Addr} {S : Int → Bool} {n : Nat} (R : SetR w h a S n) : ∃ ep es t, SetT w h a S ep es t ∧ es.size = n := by
  obtain ⟨o, es, ep, t, ho, hx, hd, g, nd, hm, hb, hf, hn, hr, hl⟩ := R
  exact ⟨ep, es, t, ⟨⟨o, ho, hx, hd⟩, g, nd, hm, hb, hf, hr, hl⟩, hn⟩
theorem SetT.at {w : World} {h h' : Heap} {a : Addr} {S : Int → Bool} {ep : Nat} {es : Array (Int × Value)} {t : SetTable} (R : SetT w h a S ep es t) (k : ∀ o, h.get? a = some o → h'.get? a = some o) : SetT w h' a S ep es t := by
  obtain ⟨⟨o, ho, hx, hd⟩, g, nd, hm, hb, hf, hr, hl⟩ := R
  exact ⟨⟨o, k o ho, hx, hd⟩, g, nd, hm, hb, hf, hr, hl⟩
section
variable {P : Program} {w : World} {A : Around} {E : Value → Shared → Prop} {s : Shared} {a : Addr} {S : Int → Bool} {ep : Nat} {es : Array (Int × Value)} {t : SetTable}
theorem putT {es' : Array (Int × Value)} {t' : SetTable} {S' : Int → Bool} (ho : ∃ o, s.heap.get? a = some o ∧ o.ExactSet ∧ ∃ es ep0 t, o.data = .set es ep0 t ∧ ep0 = ep) (g : ∀ e ∈ es'.toList, GoodE e) (nd : (es'.toList.map keyOf).Nodup) (hm : ∀ k, S' k = true ↔ k ∈ es'.toList.map keyOf) (hb : es'.size < scanBound)
    (hf : t'.fits es'.size = true) (hr : Ris t'.place.toList) (hl : w.params.followText "set-order" = true ∨ t'.led = true) {Q : Unit → Shared → Prop}
    (hQ : ∀ h', Heap.SameBut a s.heap h' → SetT w h' a S' (ep + 1) es' t' → Q () { s with heap := h' }) : wpAny (model P w) A (storeSet a es' t') Q E s := by
  obtain ⟨o, ho, hx, es0, ep0, t0, hd, rfl⟩ := ho
  refine wpAny_storeSet_of ho hd ?_ (fits_of_scanBound hb)
  exact hQ _ (Heap.SameBut.update ..) ⟨⟨_, store_at ho hd, ⟨hx.1, hx.2.1, hx.2.2⟩, rfl⟩, g, nd, hm, hb, hf, hr, hl⟩
theorem order_perm {order : Array Nat} {es : Array (Int × Value)} (hp : order.toList.Perm (List.range es.size)) : (order.filterMap (es[·]?)).toList.Perm es.toList := by
  rw [Array.toList_filterMap]
  exact (hp.filterMap _).trans (by rw [filterMap_getElem?_range])
theorem SetT.place {hh : Heap} (R : SetT w hh a S ep es t) : t.place.size = es.size ∧ t.fill ≤ t.mask := by
  have h := R.fits
  unfold SetTable.fits at h
  rw [Bool.and_eq_true, beq_iff_eq, decide_eq_true_eq] at h
  exact h
theorem relay_T (R : SetT w s.heap a S ep es t) {wanted : Nat} (hM : MaskA (SetTable.sizeAbove wanted - 1)) (hn : es.size ≤ SetTable.sizeAbove wanted - 1) {Q : Unit → Shared → Prop}
    (hQ : ∀ h' es' t', Heap.SameBut a s.heap h' → SetT w h' a S (ep + 1) es' t' → es'.size = es.size → t'.mask = SetTable.sizeAbove wanted - 1 → t'.dummies = #[] → Q () { s with heap := h' }) : wpAny (model P w) A (setRelay a wanted) Q E s := by
  obtain ⟨o, ho, hx, hd⟩ := R.ob
  obtain ⟨t', order, e, hp, hr, hps, hdm, hmk, hld, hpl⟩ := laid_ok (fg := t.finger) (mv := t.movedTo (SetTable.sizeAbove wanted - 1)) (ld := t.led) (pl := t.plain) (hs := es.map (·.1)) hM (by rw [Array.size_map]; exact hn)
  rw [Array.size_map] at hp hps
  have e : t.relaid (es.map (·.1)) wanted = some (t', order) := e
  have pm := order_perm hp
  have hs2 : (order.filterMap (es[·]?)).size = es.size := by
    have h := pm.length_eq
    rw [Array.length_toList, Array.length_toList] at h
    exact h
  have pk : ((order.filterMap (es[·]?)).toList.map keyOf).Perm (es.toList.map keyOf) := pm.map keyOf
  rw [setRelay_eq]
  refine wpAny_bind (wpAny_setState_of ho hd R.fits ?_)
  dsimp only
  have big : SetTable.sizeAbove wanted ≤ sizeLine := by
    rw [sizeLine_eq]
    rcases hM with z | z | z | z | z | z <;> omega
  refine wp_if_neg (by omega) ?_
  try refine wpAny_bind (wpAny_pure ?_)
  rw [e]
  dsimp only
  refine wpAny_bind ?_
  refine wp_if_neg (by rw [hs2]; simp) ?_
  try refine wpAny_bind (wpAny_pure ?_)
  refine wpAny_pure ?_
  dsimp only
  refine putT (ep := ep) ⟨o, ho, hx, es, ep, t, hd, rfl⟩ (fun x hx => R.good x (pm.mem_iff.mp hx)) (pk.nodup_iff.mpr R.nd) (fun k => (R.mem k).trans pk.mem_iff.symm) (by rw [hs2]; exact R.bd) ?_ hr (by rw [hld]; exact R.led) fun h' sb T => hQ h' _ _ sb T hs2 hmk hdm
  unfold SetTable.fits SetTable.fill
  rw [hs2, hps, hdm, hmk, Bool.and_eq_true, beq_iff_eq, decide_eq_true_eq]
  exact ⟨rfl, by show es.size + 0 ≤ _; omega⟩
theorem above_ok : ((List.range 128).all fun k => decide (2 * k ≤ SetTable.sizeAbove (k * 2) - 1) && [7, 15, 31, 63, 127, 255].contains (SetTable.sizeAbove (k * 2) - 1)) = true := by decide +kernel
theorem above {k : Nat} (h : k < 128) : 2 * k ≤ SetTable.sizeAbove (k * 2) - 1 ∧ MaskA (SetTable.sizeAbove (k * 2) - 1) := by
  have z := List.all_eq_true.mp above_ok k (List.mem_range.mpr h)
  rw [Bool.and_eq_true, decide_eq_true_eq] at z
  refine ⟨z.1, ?_⟩
  have y := List.contains_iff_mem.mp z.2
  simp only [List.mem_cons, List.not_mem_nil, or_false] at y
  exact y
/-- room is made -/
theorem room_T (R : SetT w s.heap a S ep es t) {m : Nat} (hn : es.size + m < 128) {Q : Unit → Shared → Prop}
    (hQ : ∀ h' ep' es' t', Heap.SameBut a s.heap h' → SetT w h' a S ep' es' t' → es'.size = es.size → (MaskA t.mask → MaskA t'.mask) → (t.dummies = #[] → t'.dummies = #[]) → (t.fill = 0 → t.mask = 7 → m ≤ t'.mask) → Q () { s with heap := h' }) : wpAny (model P w) A (setRoomFor a m) Q E s := by
  obtain ⟨o, ho, hx, hd⟩ := R.ob
  have hp := R.place
  unfold setRoomFor
  refine wpAny_bind (wpAny_setState_of ho hd R.fits ?_)
  dsimp only
  unfold SetTable.roomFor
  by_cases c : (t.fill + m) * 5 ≥ t.mask * 3
  · rw [if_pos c]
    obtain ⟨h1, h2⟩ := above (k := t.place.size + m) (by omega)
    exact relay_T R h2 (by omega) fun h' es' t' sb T e1 e2 e3 => hQ h' _ es' t' sb T e1 (fun _ => by rw [e2]; exact h2) (fun _ => e3) fun _ _ => by omega
  · rw [if_neg c]
    refine wpAny_pure ?_
    exact hQ s.heap ep es t (Heap.SameBut.refl a s.heap) R rfl id id fun _ _ => by omega
/-- a walk that nobody sees the order of -/
theorem walk_T (R : SetT w s.heap a S ep es t) {Q : Array (Int × Value) → Shared → Prop} (hQ : ∀ xs d, xs.toList.Perm es.toList → Q xs { s with drawn := d }) : wpAny (model P w) A (setWalk a) Q E s := by
  obtain ⟨o, ho, hx, hd⟩ := R.ob
  unfold setWalk
  refine wpAny_bind (wpAny_setState_of ho hd R.fits ?_)
  dsimp only
  refine wpAny_bind (wpAny_byText ?_)
  cases hbt : w.params.followText "set-order" with
  | true =>
    refine wp_if_pos rfl ?_
    exact wpAny_bind (wpAny_askSetting (wpAny_pure (hQ _ s.drawn (pick_perm _ _))))
  | false =>
    refine wp_if_neg Bool.false_ne_true ?_
    try refine wpAny_bind (wpAny_pure ?_)
    cases hdr : (!t.plain && decide (es.size > 1)) with
    | true =>
      refine wp_if_pos hdr ?_
      exact wpAny_bind (drawOrder_at es.size es.toList s _ (by rw [Array.length_toList]; exact Nat.le_refl _) fun ys d p => wpAny_pure (hQ ys.toArray d p))
    | false =>
      refine wp_if_neg (by show ¬ ((!t.plain && decide (es.size > 1)) = true); rw [hdr]; exact Bool.false_ne_true) ?_
      try refine wpAny_bind (wpAny_pure ?_)
      have hl : t.led = true := by
        rcases R.led with z | z
        · rw [hbt] at z; cases z
        · exact z
      refine wpAny_bind (wpAny_of_eq (a := ()) ?_ ?_)
      · show (if (!t.led && decide (es.size > 1)) = true then unsupported "set:maker-not-led" else pure ()) = pure ()
        rw [hl] <;> rfl
      · exact wpAny_pure (hQ es s.drawn (List.Perm.refl _))

theorem forIn_still {β : Type} (f : (Int × Value) → β → Sem (ForInStep β)) (b : β) : ∀ (l : List (Int × Value)), (∀ e ∈ l, f e b = pure (.yield b)) → forIn l b f = pure b
  | [], _ => by rw [List.forIn_nil]
  | e :: l, h => by
    rw [List.forIn_cons, h e List.mem_cons_self]
    exact forIn_still f b l fun x hx => h x (List.mem_cons_of_mem _ hx)
theorem entries_T (R : SetT w s.heap a S ep es t) {Q : Array (Int × Value) → Shared → Prop} (h : Q es s) : wpAny (model P w) A (setEntries a) Q E s := by
  obtain ⟨o, ho, hx, hd⟩ := R.ob
  unfold setEntries
  exact wpAny_bind (wpAny_setState_of ho hd R.fits (wpAny_pure h))
variable {o : Addr} {So : Int → Bool} {epo : Nat} {eso : Array (Int × Value)} {to : SetTable}
theorem quiet_T (Ro : SetT w s.heap o So epo eso to) (Rs : SetT w s.heap a S ep es t) {Q : Bool → Shared → Prop} (h : Q true s) : wpAny (model P w) A (setsQuiet [o, a]) Q E s := by
  unfold setsQuiet
  simp only [List.forIn_cons, List.forIn_nil]
  have still : ∀ {es : Array (Int × Value)} (g : ∀ e ∈ es.toList, GoodE e) {β : Type} (b : β) (f : (Int × Value) → β → Sem (ForInStep β)), (∀ h k tk, f (h, Value.int k tk) b = pure (.yield b)) → forIn es b f = pure b := fun {es} g {β} b f hf => by
    rw [← Array.forIn_toList]
    refine forIn_still f b _ fun e he => ?_
    obtain ⟨k, tk, h1, _⟩ := g e he
    obtain ⟨e1, e2⟩ := e
    have h1 : e2 = Value.int k tk := h1
    subst h1
    exact hf e1 k tk
  refine wpAny_bind (wpAny_bind (wpAny_bind (entries_T Ro ?_)))
  rw [still Ro.good _ _ (fun _ _ _ => rfl)]
  refine wpAny_bind (wpAny_pure ?_)
  dsimp only
  refine wpAny_pure ?_
  dsimp only
  refine wpAny_bind (wpAny_bind (entries_T Rs ?_))
  rw [still Rs.good _ _ (fun _ _ _ => rfl)]
  refine wpAny_bind (wpAny_pure ?_)
  dsimp only
  refine wpAny_pure ?_
  dsimp only
  refine wpAny_pure ?_
  dsimp only
  exact wpAny_pure h
theorem unseen_T (Ro : SetT w s.heap o So epo eso to) (Rs : SetT w s.heap a S ep es t) {Q : Array (Int × Value) → Shared → Prop}
    (hQ : ∀ xs h' d ep' t', xs.toList.Perm eso.toList → Heap.SameBut a s.heap h' → SetT w h' a S ep' es t' → Q xs { s with heap := h', drawn := d }) : wpAny (model P w) A (setWalkUnseen o [a] (some a)) Q E s := by
  obtain ⟨oo, ho, hx, hd⟩ := Ro.ob
  unfold setWalkUnseen
  refine wpAny_bind (wpAny_setState_of ho hd Ro.fits ?_)
  dsimp only
  refine wpAny_bind (wpAny_byText ?_)
  by_cases c : (w.params.followText "set-order" || (to.led && to.plain) || decide (eso.size ≤ 1)) = true
  · refine wp_if_pos c ?_
    exact walk_T Ro fun xs d p => hQ xs s.heap d ep t p (Heap.SameBut.refl a s.heap) Rs
  · refine wp_if_neg c ?_
    try refine wpAny_bind (wpAny_pure ?_)
    refine wpAny_bind (quiet_T Ro Rs ?_)
    refine wp_if_neg (by simp) ?_
    try refine wpAny_bind (wpAny_pure ?_)
    refine wpAny_bind (wpAny_rule ?_)
    try dsimp only
    obtain ⟨oa, ha, hxa, hda⟩ := Rs.ob
    refine wpAny_bind (wpAny_setState_of ha hda Rs.fits ?_)
    dsimp only
    by_cases c2 : ((t.led && !to.led) || (t.plain && !to.plain)) = true
    · refine wp_if_pos c2 ?_
      have hled : w.params.followText "set-order" = true ∨ (t.led && to.led) = true := by
        rcases Rs.led with z | z
        · exact .inl z
        · rcases Ro.led with y | y
          · exact .inl y
          · exact .inr (by rw [z, y]; rfl)
      refine wpAny_bind (putT (t' := { t with led := t.led && to.led, plain := t.plain && to.plain }) (ep := ep) ⟨oa, ha, hxa, es, ep, t, hda, rfl⟩ Rs.good Rs.nd Rs.mem Rs.bd Rs.fits Rs.ris hled fun h' sb T => ?_)
      exact wpAny_pure (hQ eso h' s.drawn _ _ (List.Perm.refl _) sb T)
    · refine wp_if_neg c2 ?_
      first
        | exact wpAny_pure (hQ eso s.heap s.drawn ep t (List.Perm.refl _) (Heap.SameBut.refl a s.heap) Rs)
        | exact wpAny_bind (wpAny_pure (wpAny_pure (hQ eso s.heap s.drawn ep t (List.Perm.refl _) (Heap.SameBut.refl a s.heap) Rs)))

theorem loop_T {f : (Int × Value) → PUnit → Sem (ForInStep PUnit)} (ne : a ≠ o)
    (step : ∀ (e : Int × Value) (s1 : Shared) (n : Nat) (S1 : Int → Bool) (Q1 : ForInStep PUnit → Shared → Prop), GoodE e → SetT w s1.heap o So epo eso to → SetR w s1.heap a S1 n → n + 1 < scanBound →
      (∀ h' n', Heap.SameBut a s1.heap h' → SetR w h' a (fun j => S1 j || decide (j = keyOf e)) n' → n' ≤ n + 1 → Q1 (.yield ⟨⟩) { s1 with heap := h' }) → wpAny (model P w) A (f e ⟨⟩) Q1 E s1) :
    ∀ (l : List (Int × Value)) (s1 : Shared) (S1 : Int → Bool) (n : Nat) (Q : PUnit → Shared → Prop), (∀ e ∈ l, GoodE e) → SetT w s1.heap o So epo eso to → SetR w s1.heap a S1 n → n + l.length < scanBound →
      (∀ h' n' S', Heap.SameBut a s1.heap h' → SetR w h' a S' n' → (∀ k, S' k = true ↔ S1 k = true ∨ k ∈ l.map keyOf) → Q ⟨⟩ { s1 with heap := h' }) → wpAny (model P w) A (forIn l ⟨⟩ f) Q E s1 := by
  intro l
  induction l with
  | nil =>
    intro s1 S1 n Q _ _ R _ hQ
    rw [List.forIn_nil]
    exact wpAny_pure (hQ s1.heap n S1 (Heap.SameBut.refl a s1.heap) R fun k => by simp)
  | cons e l ih =>
    intro s1 S1 n Q g Ro R hl hQ
    rw [List.length_cons] at hl
    rw [List.forIn_cons]
    refine wpAny_bind (step e s1 n S1 _ (g e List.mem_cons_self) Ro R (by omega) fun h' n' sb R' hn' => ?_)
    refine ih { s1 with heap := h' } _ n' Q (fun x hx => g x (List.mem_cons_of_mem _ hx)) (Ro.at fun u hu => (sb.2 o (Ne.symm ne)).trans hu) R' (by omega) fun h2 n2 S2 sb2 R2 hm => ?_
    refine hQ h2 n2 S2 (sb.trans sb2) R2 fun k => ?_
    rw [hm k, Bool.or_eq_true, decide_eq_true_eq, List.map_cons, List.mem_cons, or_assoc]
/-- a set that may be filled on -/
def Fresh (w : World) (h : Heap) (a : Addr) (S : Int → Bool) (n : Nat) : Prop := ∃ ep es t, SetT w h a S ep es t ∧ es.size = n ∧ MaskA t.mask ∧ t.dummies = #[] ∧ (t.fill = 0 → t.mask = 7)
/-- s |= o, for a set of ints o that is another one -/
theorem merge_T {each : Sem Unit} (Ro : SetT w s.heap o So epo eso to) (Rs : SetT w s.heap a S ep es t) (ne : a ≠ o) (hn : es.size + eso.size < 128) (hm : MaskA t.mask) (hd : t.dummies = #[]) (h0 : t.fill = 0 → t.mask = 7)
    (hea : ∀ (s' : Shared) (Q' : Unit → Shared → Prop), SetT w s'.heap o So epo eso to → Q' () s' → wpAny (model P w) A each Q' E s') {Q : Unit → Shared → Prop}
    (hQ : ∀ h' d n S', Heap.SameBut a s.heap h' → SetR w h' a S' n → (∀ k, S' k = true ↔ S k = true ∨ So k = true) → (es.size = 0 → Fresh w h' a S' n) → Q () { s with heap := h', drawn := d }) : wpAny (model P w) A (setMerge a o each) Q E s := by
  obtain ⟨oo, ho, hox, hod⟩ := Ro.ob
  unfold setMerge
  refine wp_if_neg (by simpa using ne) ?_
  try refine wpAny_bind (wpAny_pure ?_)
  refine wpAny_bind (wpAny_setState_of ho hod Ro.fits ?_)
  dsimp only
  by_cases hem : eso.isEmpty = true
  · refine wp_if_pos hem ?_
    have e0 : eso = #[] := by simpa using hem
    refine wpAny_pure (hQ s.heap s.drawn es.size S (Heap.SameBut.refl a s.heap) Rs.r (fun k => ⟨.inl, fun z => z.elim id fun z => by
    have z := (Ro.mem k).1 z
    rw [e0] at z
    simp at z⟩) fun _ => ⟨ep, es, t, Rs, rfl, hm, hd, h0⟩)
  · refine wp_if_neg hem ?_
    have hne : eso.size ≠ 0 := fun z => hem (by simpa using Array.eq_empty_of_size_eq_zero z)
    try refine wpAny_bind (wpAny_pure ?_)
    refine wpAny_bind (room_T Rs hn fun h1 ep1 es1 t1 sb1 R1 hz1 hm1 hd1 hf1 => ?_)
    have Ro1 : SetT w h1 o So epo eso to := Ro.at fun u hu => (sb1.2 o (Ne.symm ne)).trans hu
    obtain ⟨o1, ho1, hx1, hdt1⟩ := R1.ob
    refine wpAny_bind (wpAny_setState_of ho1 hdt1 R1.fits ?_)
    dsimp only
    have pl0 := Rs.place
    have pl1 := R1.place
    have fl0 : t.fill = es.size := by unfold SetTable.fill; rw [hd, pl0.1]; rfl
    have fl1 : t1.fill = es1.size := by unfold SetTable.fill; rw [hd1 hd, pl1.1]; rfl
    have hled : w.params.followText "set-order" = true ∨ (t1.led && to.led) = true := by
      rcases R1.led with z | z
      · exact .inl z
      · rcases Ro.led with y | y
        · exact .inl y
        · exact .inr (by rw [z, y]; rfl)
    have empty1 : es1.size = 0 → ∀ k, So k = true ↔ S k = true ∨ So k = true := fun z k => ⟨.inr, fun y => y.elim (fun y => by
      have y := (R1.mem k).1 y
      have e0 : es1 = #[] := Array.eq_empty_of_size_eq_zero z
      rw [e0] at y
      simp at y) id⟩
    cases hrd : t1.road to with
    | slotForSlot =>
      have hz : es1.size = 0 := by
        unfold SetTable.road at hrd
        by_cases c : t1.fill = 0
        · omega
        · rw [if_pos (by simpa using c)] at hrd; cases hrd
      dsimp only
      refine putT (s := { s with heap := h1 }) (t' := { to with finger := t1.finger, led := t1.led && to.led, moves := t1.moves, plain := t1.plain && to.plain }) (ep := ep1) ⟨o1, ho1, hx1, es1, ep1, t1, hdt1, rfl⟩ Ro.good Ro.nd Ro.mem Ro.bd Ro.fits Ro.ris hled fun h' sb T => ?_
      have hroad : t1.mask = to.mask ∧ to.dummies = #[] := by
        unfold SetTable.road at hrd
        rw [if_neg (by simp; omega)] at hrd
        by_cases c : (t1.mask == to.mask && to.dummies.isEmpty) = true
        · rw [Bool.and_eq_true, beq_iff_eq] at c
          exact ⟨c.1, by simpa using c.2⟩
        · rw [if_neg c] at hrd; cases hrd
      exact hQ h' s.drawn eso.size So (sb1.trans sb) T.r (empty1 hz) fun _ => ⟨_, _, _, T, rfl, by show MaskA to.mask; rw [← hroad.1]; exact hm1 hm, hroad.2, fun z => absurd (by
        have z : to.place.size + to.dummies.size = 0 := z
        have := Ro.place.1
        omega) hne⟩
    | clean =>
      have hz : es1.size = 0 := by
        unfold SetTable.road at hrd
        by_cases c : t1.fill = 0
        · omega
        · rw [if_pos (by simpa using c)] at hrd; cases hrd
      have hmk : eso.size ≤ t1.mask := hf1 (by omega) (h0 (by omega))
      dsimp only
      obtain ⟨t', order, e, hp, hr, hps, hdm, hmk', hld, hpl⟩ := laid_ok (m := t1.mask) (fg := t1.finger) (mv := t1.moves) (ld := t1.led && to.led) (pl := t1.plain && to.plain) (hs := eso.map (·.1)) (hm1 hm) (by rw [Array.size_map]; exact hmk)
      rw [Array.size_map] at hp hps
      have pm := order_perm hp
      have hs2 : (order.filterMap (eso[·]?)).size = eso.size := by
        have h := pm.length_eq
        rw [Array.length_toList, Array.length_toList] at h
        exact h
      have pk : ((order.filterMap (eso[·]?)).toList.map keyOf).Perm (eso.toList.map keyOf) := pm.map keyOf
      refine wpAny_bind (wpAny_of_eq (a := (order.filterMap (eso[·]?), t')) ?_ ?_)
      · rw [e]
        show (if ((order.filterMap (eso[·]?)).size != eso.size) = true then unsupported "internal:set-table-lost-an-element" else pure (order.filterMap (eso[·]?), t')) = _
        rw [if_neg (by rw [hs2]; simp)]
      · dsimp only
        refine putT (s := { s with heap := h1 }) (ep := ep1) ⟨o1, ho1, hx1, es1, ep1, t1, hdt1, rfl⟩ (fun x hx => Ro.good x (pm.mem_iff.mp hx)) (pk.nodup_iff.mpr Ro.nd) (fun k => (Ro.mem k).trans pk.mem_iff.symm) (by rw [hs2]; exact Ro.bd) ?_ hr (by rw [hld]; exact hled) fun h' sb T => ?_
        · unfold SetTable.fits SetTable.fill
          rw [hs2, hps, hdm, hmk', Bool.and_eq_true, beq_iff_eq, decide_eq_true_eq]
          exact ⟨rfl, by show eso.size + 0 ≤ _; omega⟩
        · exact hQ h' s.drawn _ So (sb1.trans sb) T.r (empty1 hz) fun _ => ⟨_, _, _, T, rfl, by rw [hmk']; exact hm1 hm, hdm, fun z => absurd (by
            have z : t'.place.size + t'.dummies.size = 0 := z
            omega) hne⟩
    | oneByOne =>
      dsimp only
      refine wpAny_bind (unseen_T (s := { s with heap := h1 }) Ro1 R1 fun xs h2 d ep2 t2 pm sb2 R2 => ?_)
      have Ro2 : SetT w h2 o So epo eso to := Ro1.at fun u hu => (sb2.2 o (Ne.symm ne)).trans hu
      rw [← Array.forIn_toList]
      have hb := Ro.bd
      have hsc : scanBound = 4096 := rfl
      have lx : xs.toList.length = eso.size := by rw [pm.length_eq, Array.length_toList]
      refine wpAny_bind (loop_T ne (So := So) (epo := epo) (eso := eso) (to := to) (fun e s1 n S1 Q1 g Roi Ri hni hq => ?_) xs.toList { s with heap := h2, drawn := d } S es1.size _ (fun e he => Ro.good e (pm.mem_iff.mp he)) Ro2 R2.r (by omega) fun h' n' S' sb3 R3 hm3 => ?_)
      · obtain ⟨h, x⟩ := e
        obtain ⟨k, tk, h1', h2'⟩ := g
        have h1' : x = Value.int k tk := h1'
        have h2' : h = hashInt k := h2'
        subst h1' h2'
        dsimp only
        refine wpAny_bind (wpAny_holding (setR_add_hashed (k := k) (tk := tk) Ri hni fun h' sb R' => ?_))
        have Roj : SetT w h' o So epo eso to := Roi.at fun u hu => (sb.2 o (Ne.symm ne)).trans hu
        refine wpAny_bind (hea { s1 with heap := h' } _ Roj ?_)
        obtain ⟨oj, hoj, _, hdj⟩ := Roj.ob
        refine wpAny_bind (wpAny_setState_of hoj hdj Roj.fits ?_)
        dsimp only
        refine wp_if_neg (by simp) ?_
        try refine wpAny_bind (wpAny_pure ?_)
        refine wpAny_pure (hq h' _ sb R' ?_)
        split <;> omega
      · refine wpAny_pure (hQ h' d n' S' (sb1.trans (sb2.trans sb3)) R3 (fun k => ?_) fun z => absurd hrd (by unfold SetTable.road; rw [if_neg (by simp; omega)]; split <;> exact fun y => by cases y))
        rw [hm3 k, (pm.map keyOf).mem_iff, ← Ro.mem k]

theorem fresh_T {led : Bool} (h : Heap) (hl : led = !(w.params.followText "set-order")) : SetT w (h.push { cls := .type "set", dict := none, data := .set #[] 0 (.fresh 0 0 led) }) h.objs.size (fun _ => false) 0 #[] (.fresh 0 0 led) :=
  ⟨⟨_, Heap.get?_push_size _ rfl, ⟨rfl, rfl, rfl⟩, rfl⟩, fun e he => by simp at he, by simp, fun k => by simp, by decide, rfl, List.Pairwise.nil, by
    rw [hl]
    show _ ∨ (!w.params.followText "set-order") = true
    cases w.params.followText "set-order"
    · exact .inr rfl
    · exact .inl rfl⟩
theorem entry_or : entryFor table "set.__or__" = some Builtin.«frozenset.__or__» := entryFor_alias (id' := "frozenset.__or__") (by kernel_rfl) rfl (by decide +kernel) (by kernel_rfl)
theorem any_T (ty : s.TypeIs (.ref a) "set") {Q : Bool → Shared → Prop} (h : Q true s) : wpAny (model P w) A (Builtin.Frozenset.isAnySet (.ref a)) Q E s := by
  unfold Builtin.Frozenset.isAnySet orM
  refine wpAny_bind (wpAny_isInstance (b := true) ty sub_set_self ?_)
  exact wpAny_pure h
theorem or_T {l r : Addr} {S1 S2 : Int → Bool} {n1 n2 : Nat} (R1 : SetR w s.heap l S1 n1) (R2 : SetR w s.heap r S2 n2) (ne : l ≠ r) (hn : n1 + n2 < 128) {Q : Value → Shared → Prop}
    (hQ : ∀ h' d tk n S', (∀ b o, s.heap.get? b = some o → h'.get? b = some o) → SetR w h' s.heap.objs.size S' n → (∀ k, S' k = true ↔ S1 k = true ∨ S2 k = true) → Q (.ref s.heap.objs.size) { s with heap := h', drawn := d, toks := tk }) :
    wpAny (model P w) A (binaryOp .BitOr (.ref l) (.ref r)) Q E s := by
  obtain ⟨ep1, es1, t1, T1, rfl⟩ := SetT.of R1
  obtain ⟨ep2, es2, t2, T2, rfl⟩ := SetT.of R2
  obtain ⟨o1, ho1, hx1, hd1⟩ := T1.ob
  obtain ⟨o2, ho2, hx2, hd2⟩ := T2.ob
  have ty1 : s.TypeIs (.ref l) "set" := ⟨o1, ho1, hx1.1⟩
  have ty2 : s.TypeIs (.ref r) "set" := ⟨o2, ho2, hx2.1⟩
  refine wpAny_binaryOp_same (op := .BitOr) ty1 ty2 F.fills_set_or F.slot_set_or (wpAny_call_entry F.slot_set_or ty1 entry_or ?_ (F.args_set_or_2 _ _))
  unfold Builtin.«frozenset.__or__»
  show wpAny _ _ (Builtin.Frozenset.slot1 "__or__" ⟨[.ref l, .ref r], []⟩ >>= _) _ _ s
  unfold Builtin.Frozenset.slot1 slotArgs
  refine wpAny_bind (wpAny_bind (wpAny_pure ?_))
  dsimp only
  refine wpAny_pure ?_
  dsimp only
  refine wpAny_bind ?_
  unfold andM
  refine wpAny_bind (any_T ty1 ?_)
  show wpAny _ _ (Builtin.Frozenset.isAnySet (.ref r)) _ _ s
  refine any_T ty2 ?_
  refine wp_if_neg (by simp) ?_
  refine wpAny_bind (m := Builtin.Frozenset.addrOf (.ref l)) (wpAny_pure ?_)
  have hlt : l < s.heap.objs.size := Heap.lt_size ho1
  have hrt : r < s.heap.objs.size := Heap.lt_size ho2
  refine wpAny_bind ?_
  show wpAny _ _ (Builtin.Frozenset.copyOf l >>= _) _ _ s
  refine wpAny_bind ?_
  unfold Builtin.Frozenset.copyOf Builtin.Frozenset.baseOf
  refine wpAny_bind (wpAny_bind (wpAny_isInstance (b := true) ty1 sub_set_self ?_))
  refine wpAny_pure ?_
  show wpAny _ _ (newSet (.type "set") >>= _) _ _ s
  refine wpAny_bind (wpAny_newSet_raw fun led hled => ?_)
  have TF := fresh_T (w := w) s.heap hled
  generalize hH0 : s.heap.push { cls := .type "set", dict := none, data := .set #[] 0 (.fresh 0 0 led) } = H0 at TF ⊢
  have k0 : ∀ b o, s.heap.get? b = some o → H0.get? b = some o := fun b o e => by rw [← hH0]; exact Heap.get?_push_of_some _ e
  refine wpAny_bind (m := Builtin.Frozenset.addrOf (.ref s.heap.objs.size)) (wpAny_pure ?_)
  have nl : s.heap.objs.size ≠ l := Nat.ne_of_gt hlt
  have nr : s.heap.objs.size ≠ r := Nat.ne_of_gt hrt
  have hz1 := T1.place
  refine wpAny_bind (merge_T (s := { s with heap := H0 }) (T1.at (k0 l)) TF nl (by show 0 + es1.size < 128; omega) (.inl rfl) rfl (fun _ => rfl) (fun s' Q' _ hq => wpAny_pure hq) fun h1 d1 m1 S1' sb1 R1' hm1 hf1 => ?_)
  obtain ⟨ep3, es3, t3, T3, hz3, hmk3, hdm3, h03⟩ := hf1 rfl
  refine wpAny_pure ?_
  have ty2' : ({ s with heap := h1, drawn := d1 } : Shared).TypeIs (.ref r) "set" := ⟨o2, (sb1.2 r (Ne.symm nr)).trans (k0 r o2 ho2), hx2.1⟩
  have hm3 : es3.size ≤ es1.size := by
    have q := List.Nodup.length_le_of_subset T3.nd (l₂ := es1.toList.map keyOf) fun k hk => by
      have z := (hm1 k).1 ((T3.mem k).2 hk)
      rcases z with z | z
      · cases z
      · exact (T1.mem k).1 z
    rw [List.length_map, List.length_map, Array.length_toList, Array.length_toList] at q
    exact q
  refine wp_if_pos (by simpa using Ne.symm ne) ?_
  refine wpAny_bind (m := Builtin.Frozenset.addrOf (.ref s.heap.objs.size)) (wpAny_pure ?_)
  have T2' : SetT w h1 r S2 ep2 es2 t2 := T2.at fun o e => (sb1.2 r (Ne.symm nr)).trans (k0 r o e)
  refine wpAny_bind (wpAny_holding ?_)
  unfold Builtin.Frozenset.updateFrom
  refine wpAny_bind (any_T ty2' ?_)
  refine wp_if_pos rfl ?_
  refine wpAny_bind (m := Builtin.Frozenset.addrOf (.ref r)) (wpAny_pure ?_)
  unfold Builtin.Frozenset.merge
  obtain ⟨o2', ho2', hx2', hd2'⟩ := T2'.ob
  refine wpAny_bind (wpAny_setEpoch_of (s := { s with heap := h1, drawn := d1 }) ho2' hd2' T2'.fits ?_)
  refine merge_T (s := { s with heap := h1, drawn := d1 }) T2' T3 nr (by omega) hmk3 hdm3 h03 (fun s' Q' T hq => ?_) fun h2 d2 m2 S2' sb2 R2' hm2 _ => ?_
  · obtain ⟨oj, hoj, _, hdj⟩ := T.ob
    unfold Builtin.Frozenset.unchanged
    refine wpAny_bind (wpAny_setEpoch_of hoj hdj T.fits ?_)
    refine wp_if_neg (by simp) ?_
    first | exact wpAny_pure hq | exact wpAny_bind (wpAny_pure (wpAny_pure hq))
  · refine wpAny_pure ?_
    refine wpAny_pure ⟨_, rfl, (fun z => by cases z), hQ h2 d2 s.toks m2 S2' (fun b o e => ?_) R2' fun k => ?_⟩
    · have nb : b ≠ s.heap.objs.size := Nat.ne_of_lt (Heap.lt_size e)
      exact (sb2.2 b nb).trans ((sb1.2 b nb).trans (k0 b o e))
    · rw [hm2 k, hm1 k]
      simp

theorem pairs_at {P : Program} {w : World} : ∀ {l : List DictEntry} {vs : List (Key × Value)}, Pairs (mixKind P w) l vs → l.length = vs.length ∧ ∀ (i : Nat) (e : DictEntry), l[i]? = some e → ∃ kv, vs[i]? = some kv ∧ keyIs kv.1 e.key = true
  | [], _, .nil => ⟨rfl, fun i e h => by simp at h⟩
  | _ :: l, _, .cons h1 _ t => by
    obtain ⟨hl, ih⟩ := pairs_at t
    refine ⟨by rw [List.length_cons, List.length_cons, hl], fun i e h => ?_⟩
    cases i with
    | zero =>
      simp at h
      subst h
      exact ⟨_, rfl, h1⟩
    | succ i =>
      simp at h
      obtain ⟨kv, h2, h3⟩ := ih i e h
      exact ⟨kv, by simpa using h2, h3⟩
theorem loopd_T {d : Addr} {od : Obj} {des : Array DictEntry} {f : Nat → PUnit → Sem (ForInStep PUnit)} (ne : a ≠ d) {ks : List Int} (hz : des.size = ks.length) (hn : ks.length < 128)
    (step : ∀ (i : Nat) (k : Int) (s1 : Shared) (n : Nat) (S1 : Int → Bool) (Q1 : ForInStep PUnit → Shared → Prop), ks[i]? = some k → s1.heap.get? d = some od → SetR w s1.heap a S1 n → n + 1 < scanBound →
      (∀ h' n', Heap.SameBut a s1.heap h' → SetR w h' a (fun j => S1 j || decide (j = k)) n' → n' ≤ n + 1 → Q1 (.yield ⟨⟩) { s1 with heap := h' }) → wpAny (model P w) A (f i ⟨⟩) Q1 E s1) :
    ∀ (m i : Nat) (s1 : Shared) (S1 : Int → Bool) (n : Nat) (Q : PUnit → Shared → Prop), i + m = ks.length → s1.heap.get? d = some od → SetR w s1.heap a S1 n → n ≤ i → (∀ k, S1 k = true ↔ k ∈ ks.take i) →
      (∀ h' n' S', Heap.SameBut a s1.heap h' → SetR w h' a S' n' → (∀ k, S' k = true ↔ k ∈ ks) → n' ≤ ks.length → Q ⟨⟩ { s1 with heap := h' }) → wpAny (model P w) A (forIn (List.range' i m) ⟨⟩ f) Q E s1 := by
  intro m
  induction m with
  | zero =>
    intro i s1 S1 n Q hi _ R hni hS hQ
    rw [List.range'_zero, List.forIn_nil]
    have e : i = ks.length := by omega
    subst e
    rw [List.take_length] at hS
    exact wpAny_pure (hQ s1.heap n S1 (Heap.SameBut.refl a s1.heap) R hS hni)
  | succ m ih =>
    intro i s1 S1 n Q hi hod R hni hS hQ
    have hlt : i < ks.length := by omega
    have hk : ks[i]? = some ks[i] := List.getElem?_eq_getElem hlt
    rw [List.range'_succ, List.forIn_cons]
    have hsc : scanBound = 4096 := rfl
    refine wpAny_bind (step i ks[i] s1 n S1 _ hk hod R (by omega) fun h' n' sb R' hn' => ?_)
    refine ih (i + 1) { s1 with heap := h' } _ n' Q (by omega) ((sb.2 d (Ne.symm ne)).trans hod) R' (by omega) (fun k => ?_) fun h2 n2 S2 sb2 R2 hm hz2 => hQ h2 n2 S2 (sb.trans sb2) R2 hm hz2
    rw [List.take_add_one, hk, Bool.or_eq_true, decide_eq_true_eq, hS k, List.mem_append]
    show _ ↔ _ ∨ k ∈ [ks[i]]
    rw [List.mem_singleton]
theorem updd_T {nm : String} {d : Addr} {led : Bool} {vs : List (Key × Value)} {ks : List Int} (hd : (d == sysModules) = false) (dd : s.heap.DictOf (mixKind P w) d vs) (hk : vs.map (·.1) = ks.map Sum.inl) (TF : SetT w s.heap a (fun _ => false) 0 #[] (.fresh 0 0 led)) (ne : a ≠ d) (hn : ks.length < 128)
    {Q : Unit → Shared → Prop} (hQ : ∀ h' n S', Heap.SameBut a s.heap h' → SetR w h' a S' n → (∀ k, S' k = true ↔ k ∈ ks) → n ≤ ks.length → Q () { s with heap := h' }) : wpAny (model P w) A (Builtin.Frozenset.updateFrom nm a (.ref d)) Q E s := by
  obtain ⟨o, es, ep, ho, hx, hdat, hko, hpr, hnd⟩ := id dd
  have ty : s.TypeIs (.ref d) "dict" := dd.typeIs
  obtain ⟨hl, hat⟩ := pairs_at hpr
  have hlk : vs.length = ks.length := by
    have := congrArg List.length hk
    rw [List.length_map, List.length_map] at this
    exact this
  have hsz : es.size = ks.length := by rw [← Array.length_toList, hl, hlk]
  have ent : ∀ i k, ks[i]? = some k → ∃ (e : DictEntry) (tk : Tok), es[i]? = some e ∧ e.key = Value.int k tk ∧ e.hash = hashInt k := fun i k hi => by
    have hlt : i < es.size := by rw [hsz]; exact (List.getElem?_eq_some_iff.mp hi).1
    have he : es[i]? = some es[i] := Array.getElem?_eq_getElem hlt
    obtain ⟨kv, hv, hkv⟩ := hat i es[i] (by rw [Array.getElem?_toList]; exact he)
    have hkk : kv.1 = Sum.inl k := by
      have q := congrArg (fun l => l[i]?) hk
      simp only [List.getElem?_map, hv, hi, Option.map_some, Option.some.injEq] at q
      exact q
    rw [hkk] at hkv
    obtain ⟨t, et⟩ := Value.isInt_shape (k := k) (v := es[i].key) hkv
    obtain ⟨k2, hk2, hh⟩ := hko es[i] (Array.getElem_mem hlt)
    have e2 : k2 = Sum.inl k := ((mixKind P w).inj es[i].key k2 (Sum.inl k) hk2 (show keyIs (Sum.inl k) es[i].key = true from hkv))
    exact ⟨es[i], t, he, et, by rw [hh, e2]; rfl⟩
  unfold Builtin.Frozenset.updateFrom Builtin.Frozenset.isAnySet orM
  refine wpAny_bind (wpAny_bind (wpAny_isInstance (b := false) ty F.sub_dict_set ?_))
  show wpAny _ _ (isInstance (.ref d) (.type "frozenset")) _ _ s
  refine wpAny_isInstance (b := false) ty F.sub_dict_frozenset ?_
  refine wp_if_neg Bool.false_ne_true ?_
  try refine wpAny_bind (wpAny_pure ?_)
  refine wpAny_bind (wpAny_typeOf ty ?_)
  refine wp_if_pos (by decide) ?_
  refine wpAny_bind (wpAny_rule ?_)
  refine wpAny_bind (m := Builtin.Frozenset.addrOf (.ref d)) (wpAny_pure ?_)
  refine wp_if_neg (by rw [hd]; exact Bool.false_ne_true) ?_
  try refine wpAny_bind (wpAny_pure ?_)
  refine wpAny_bind (wpAny_dictEpoch ho hdat ?_)
  refine wpAny_bind (wpAny_dictEntries ho hdat ?_)
  have hs1 : (#[] : Array (Int × Value)).size = 0 := rfl
  refine wpAny_bind (room_T TF (by omega) fun h1 ep1 es1 t1 sb1 R1 hz1 _ _ _ => ?_)
  have ho1 : h1.get? d = some o := (sb1.2 d (Ne.symm ne)).trans ho
  refine wpAny_bind (wpAny_dictEntries (s := { s with heap := h1 }) ho1 hdat ?_)
  rw [Std.Legacy.Range.forIn_eq_forIn_range']
  have hz0 : es1.size = 0 := hz1
  have emp : ∀ k, (fun _ : Int => false) k = true ↔ k ∈ ks.take 0 := fun k => by simp
  have rz : (Std.Legacy.Range.size [:es.size]) = es.size := by simp [Std.Legacy.Range.size]
  rw [rz]
  refine wpAny_bind (loopd_T (od := o) (des := es) ne hsz hn (fun i k s2 n S1 Q1 hi hod Ri hni hq => ?_) es.size 0 { s with heap := h1 } _ es1.size _ (by omega) ho1 R1.r (by omega) emp fun h' n' S' sb R' hm hz' => ?_)
  · obtain ⟨e, tk, he, hkey, hhash⟩ := ent i k hi
    try dsimp only
    refine wpAny_bind (wpAny_dictEntries hod hdat ?_)
    rw [he]
    dsimp only
    rw [hkey, hhash]
    refine wpAny_bind (wpAny_holding (setR_add_hashed (k := k) (tk := tk) Ri hni fun h' sb R' => ?_))
    refine wpAny_bind (wpAny_dictEpoch (s := { s2 with heap := h' }) ((sb.2 d (Ne.symm ne)).trans hod) hdat ?_)
    refine wp_if_neg (by simp) ?_
    try refine wpAny_bind (wpAny_pure ?_)
    refine wpAny_pure (hq h' _ sb R' ?_)
    split <;> omega
  · exact wpAny_pure (hQ h' n' S' (sb1.trans sb) R' hm hz')

theorem call_set_d {d : Addr} {vs : List (Key × Value)} {ks : List Int} (hd : (d == sysModules) = false) (dd : s.heap.DictOf (mixKind P w) d vs) (hk : vs.map (·.1) = ks.map Sum.inl) (hn : ks.length < 128)
    {Q : Value → Shared → Prop} (hQ : ∀ h' n S', (∀ b o, s.heap.get? b = some o → h'.get? b = some o) → SetR w h' s.heap.objs.size S' n → (∀ k, S' k = true ↔ k ∈ ks) → n ≤ ks.length → Q (.ref s.heap.objs.size) { s with heap := h' }) :
    wpAny (model P w) A (call (.type "set") [.ref d]) Q E s := by
  obtain ⟨c, tl, hmro⟩ := F.called_set.mro
  have hmade := F.called_set.made
  have hsub := F.called_set.sub
  refine wpAny_call (codeAny_of_tree ?_)
  show wpAny _ _ (callAny (.type "set") _) _ _ _
  refine wpAny_pure ⟨Code.quiet_builtin _ (by decide +kernel), codeAny_builtin F.entry_type_call ?_⟩
  rw [Around.under_plain (weight_type_call_type "set" [.ref d] []) rfl]
  have h1 := F.called_set.notType
  have h2 := F.called_set.canCreate
  have hct := F.typeCall_set_1 (.ref d)
  repeat (any_goals (first | assumption | wp_step))
  refine codeAny_mono (code_set_led1 (.ref d) (E := E) (Q₁ := fun obj s₁ => obj = .ref s.heap.objs.size ∧ s₁ = { s with heap := s.heap.push { cls := .type "set", dict := none, data := .set #[] 0 (.fresh 0 0 (!w.params.followText "set-order")) } }) ⟨rfl, rfl⟩) fun r s₁ hr => ?_
  have TF := fresh_T (w := w) s.heap (led := !w.params.followText "set-order") rfl
  have hlt : d < s.heap.objs.size := by
    obtain ⟨o, es, ep, ho, _⟩ := id dd
    exact Heap.lt_size ho
  have ne : s.heap.objs.size ≠ d := Nat.ne_of_gt hlt
  cases r with
  | error e => exact hr
  | ok fl =>
    cases fl with
    | ret obj =>
      obtain ⟨rfl, rfl⟩ := hr
      have k0 : ∀ b o, s.heap.get? b = some o → (s.heap.push { cls := .type "set", dict := none, data := .set #[] 0 (.fresh 0 0 (!w.params.followText "set-order")) }).get? b = some o := fun b o e => Heap.get?_push_of_some _ e
      have dd1 : (s.heap.push { cls := .type "set", dict := none, data := .set #[] 0 (.fresh 0 0 (!w.params.followText "set-order")) }).DictOf (mixKind P w) d vs := by
        obtain ⟨o, es, ep, ho, r⟩ := id dd
        exact ⟨o, es, ep, k0 d o ho, r⟩
      have hT : Shared.TypeIs { s with heap := s.heap.push { cls := .type "set", dict := none, data := .set #[] 0 (.fresh 0 0 (!w.params.followText "set-order")) } } (.ref s.heap.objs.size) "set" := ⟨_, Heap.get?_push_size _ rfl, rfl⟩
      have hli := F.called_set.init.lookup
      have hbi := F.called_set.init.bind (.ref s.heap.objs.size)
      repeat (any_goals (first | assumption | wp_step))
      refine codeAny_mono (codeAny_call_builtin (R := wants (fun r s₂ => r = .none ∧ ∃ h' n S', s₂ = { s with heap := h' } ∧ SetR w h' s.heap.objs.size S' n ∧ (∀ k, S' k = true ↔ k ∈ ks) ∧ n ≤ ks.length ∧
          (∀ b o, s.heap.get? b = some o → h'.get? b = some o)) E) F.called_set.init.plain F.entry_set_init (check_set_init_1 hT ?_)) fun r₂ s₂ hr₂ => ?_
      · generalize hUF : Builtin.Frozenset.updateFrom = UF
        unfold Builtin.«set.__init__» noKeywords
        rw [hUF]
        wp_walk
        subst hUF
        refine updd_T (s := { s with heap := s.heap.push { cls := .type "set", dict := none, data := .set #[] 0 (.fresh 0 0 (!w.params.followText "set-order")) } }) hd dd1 hk TF ne hn fun h' n S' sb R hm hn' => ?_
        exact wpAny_pure ⟨rfl, h', n, S', rfl, R, hm, hn', fun b o e => (sb.2 b (Nat.ne_of_lt (Heap.lt_size e))).trans (k0 b o e)⟩
      · cases r₂ with
        | error e => exact hr₂
        | ok fl₂ =>
          cases fl₂ with
          | ret r =>
            obtain ⟨rfl, h', n, S', rfl, hS', hm', hn', hk'⟩ := hr₂
            repeat (any_goals (first | assumption | wp_step))
            exact hQ _ _ _ hk' hS' hm' hn'
          | _ => exact hr₂.elim
    | _ => exact hr.elim
end
theorem size_of {w : World} {h : Heap} {a : Addr} {S : Int → Bool} {n : Nat} (R : SetR w h a S n) {U : List Int} (hU : ∀ k, S k = true → k ∈ U) : n ≤ U.length := by
  obtain ⟨ep, es, t, T, rfl⟩ := SetT.of R
  have q := List.Nodup.length_le_of_subset T.nd (l₂ := U) fun k hk => hU k ((T.mem k).2 hk)
  rw [List.length_map, Array.length_toList] at q
  exact q
theorem inv_same {X : Cx} {pins : List (Addr × Obj)} {σ : L2.St} {H : Hp} {s s' : Shared} (I : Inv X pins σ H s) (hh : s'.heap = s.heap) (ho : s'.os = s.os) (hb : AllBare s'.gens) : Inv X pins σ H s' :=
  ⟨I.ok, ho.trans I.os, hb, by rw [hh]; exact I.base, by rw [hh]; exact I.loc, by rw [hh]; exact I.cell, I.free, I.freeC, by rw [hh]; exact I.pin, by rw [hh]; exact I.hok, I.len⟩
theorem kv_keys {kvs : List (Key × V)} {vs : List (Key × Value)} : KV kvs vs → vs.map (·.1) = kvs.map (·.1) := by
  intro h
  induction h with
  | nil => rfl
  | cons r _ ih => rw [List.map_cons, List.map_cons, ih, r.1]
section
variable {X : Cx}
/-- set(d), d a dict of ints -/
def rSetD (w : World) : List V → Hp → VK → Prop := fun xs H Q => ∃ (a : Addr) (kvs : List (Key × V)) (ks : List Int), xs = [V.ref a] ∧ Rd H a (.dK kvs) ∧ kvs.map (·.1) = ks.map Sum.inl ∧ ks.length < 128 ∧
  ∀ (p : Addr) (S : Int → Bool) (n : Nat), H p = none → (∀ k, S k = true ↔ k ∈ ks) → n ≤ ks.length → Q (.ref p) (upd H p (SetO w p S n))
theorem cr_setD : CallR X (.type "set") (rSetD X.w) := by
  intro pins s σ H xs us Q I r h
  obtain ⟨a, kvs, ks, rfl, e, hk, hn, q⟩ := h
  cases r with
  | cons r rr =>
    cases rr
    cases r
    obtain ⟨z, hd, vs, rel, dd⟩ := dk_rd I.hok e
    refine call_set_d hd dd ((kv_keys rel).trans hk) hn fun h' n S' kp R hm hn' => ?_
    exact ⟨.ref _, upd H s.heap.objs.size (SetO X.w s.heap.objs.size S' n), I.laid (t' := s.toks) kp (Nat.le_refl _) (setO_new R), rfl, q _ S' n (I.hok.fresh (Nat.le_refl _)) hm hn'⟩
/-- l | r, two sets of ints -/
def rSetOr (w : World) : V → V → Hp → VK → Prop := fun x y H Q => ∃ (l r : Addr) (S1 S2 : Int → Bool) (n1 n2 : Nat), x = V.ref l ∧ y = V.ref r ∧ H l = some (SetO w l S1 n1) ∧ H r = some (SetO w r S2 n2) ∧ l ≠ r ∧ n1 + n2 < 128 ∧
  ∀ (p : Addr) (S : Int → Bool) (n : Nat), H p = none → (∀ k, S k = true ↔ S1 k = true ∨ S2 k = true) → (∀ U : List Int, (∀ k, S k = true → k ∈ U) → n ≤ U.length) → Q (.ref p) (upd H p (SetO w p S n))
theorem op_setOr : OpR X (binaryOp .BitOr) (rSetOr X.w) := by
  intro pins s σ H x y v u Q I rx ry h
  obtain ⟨l, r, S1, S2, n1, n2, rfl, rfl, el, er, ne, hn, q⟩ := h
  cases rx
  cases ry
  refine or_T (setO_get I el) (setO_get I er) ne hn fun h' d tk n S' kp R hm => ?_
  have J : Inv X pins σ (upd H s.heap.objs.size (SetO X.w s.heap.objs.size S' n)) { s with heap := h', toks := tk } := I.laid (t' := tk) kp (Nat.le_refl _) (setO_new R)
  exact ⟨.ref _, _, inv_same J rfl rfl J.bare, rfl, q _ S' n (I.hok.fresh (Nat.le_refl _)) hm fun U hU => size_of R hU⟩
end
end SuP
namespace LkP
open PySem PySem.Spec PyProof.Rows L2
/-- list(d.keys()) -/
def tListKeys (te : TE) : TE := fun σ H Q => te σ H fun x H1 => ∃ (d : Addr) (kvs : List (Key × V)), x = .ref d ∧ H1 d = some (.dK kvs) ∧ ∀ p, H1 p = none → Q (.ref p) (upd H1 p (.lst (kvs.map fun q => kV q.1)))
theorem vals_of {F : Nat → Value → Prop} : ∀ (vs : List Value) (xs : List V), vs.length = xs.length → (∀ (j : Nat) (v : Value) (x : V), vs[j]? = some v → xs[j]? = some x → RelV x v) → Vals xs vs
  | [], [], _, _ => .nil
  | [], _ :: _, h, _ => by cases h
  | _ :: _, [], h, _ => by cases h
  | v :: vs, x :: xs, h, r => .cons (r 0 v x rfl rfl) (vals_of (F := F) vs xs (Nat.succ.inj h) fun j v x h1 h2 => r (j + 1) v x h1 h2)
theorem pe_listKeys {X : Cx} {e : Expr} {te : TE} {p apos cpos pos : Pos} (hc : X.calm = true) (he : PE X e te) (hg : Gl X "list") (hm : X.mg "list" = none) (hv : bootBuiltins "list" = some (.type "list")) (hbase : attributeBase e "keys" X.env (eval e X.env) = eval e X.env := by rfl) (hline : (apos.endLine == cpos.line) = true := by rfl)
    (hs : starEach [.Call (.Attribute e "keys" apos) [] [] cpos] X.env = (false, eval (.Call (.Attribute e "keys" apos) [] [] cpos) X.env) :: starEach [] X.env := by rfl) :
    PE X (.Call (.Name "list" p) [.Call (.Attribute e "keys" apos) [] [] cpos] [] pos) (tListKeys te) := by
  refine ⟨fun pins s σ H Q I hq => ?_⟩
  refine wpAny_Call_Name_kw (ld_blt I hg hm hv ?_)
  refine PyProof.Rows.callWith_type1 ?_ hs rfl
  rw [hs]
  show wpAny _ _ (spliced ((false, eval (.Call (.Attribute e "keys" apos) [] [] cpos) X.env) :: backTo pos (starEach [] X.env))) _ _ s
  refine Calls.spliced_cons ?_
  refine wpAny_Call_method (T := "dict") (id := "dict.keys") hbase rfl hline F.plainAttrs_dict F.slot_dict_keys F.type_dict_keys (thn (he.run pins s σ H _ I hq) fun u s1 ⟨x, H1, I1, rx, d, kvs, ex, hd, q⟩ => ?_)
  subst ex
  obtain rfl : u = Value.ref d := rx
  obtain ⟨hz, hs0, vs, kv, hdo⟩ := I1.hok d _ hd
  obtain ⟨ep, hat⟩ := hdo.dictAt
  have lk : kvs.length = vs.length := Paired.length kv
  have I2 : Inv X pins σ H1 { s1 with heap := s1.heap.push { cls := .type "dict_keys", data := .fields #[.ref d] } } := I1.kept (t' := s1.toks) fun b ob q => Heap.get?_push_of_some _ q
  refine ⟨hdo.typeIs, hdo.mapOf.noDict, ?_⟩
  show wpAny _ _ (callWith cpos (.builtin "dict.keys") [.ref d] [] []) _ X.xe s1
  refine method_meetsIn F.slot_dict_keys F.entry_dict_keys rfl (PySem.evalArgs_none ⟨rfl, hdo.typeIs, F.args_dict_keys_1 _, _, PySem.W.kdl_meets_keys (mixKind X.prog X.w) d hs0, ⟨vs, hdo⟩, ?_⟩)
  refine Calls.spliced_nil ?_
  refine PySem.W.kdl_call (PySem.W.kdl_keys (knd := mixKind X.prog X.w) (kvs := vs) (ep := ep)) (I1.ok.hd hc) ⟨⟨_, Heap.get?_push_size _ rfl, rfl, rfl⟩, hat.push _⟩ (by omega) fun h' tk acc c hk hS hacc => ?_
  have hfr := I2.hok.fresh (Nat.le_refl _)
  have rv : Vals (kvs.map fun q => kV q.1) acc.toList := vals_of (F := fun _ _ => True) _ _ (by rw [Array.length_toList, hacc.1, List.length_map, lk]) fun j v x h1 h2 => by
    obtain ⟨k, y, e1, e2⟩ := hacc.2 j v (by rw [← Array.getElem?_toList]; exact h1)
    rw [List.getElem?_map] at h2
    obtain ⟨kv0, e3, rfl⟩ := Option.map_eq_some_iff.mp h2
    obtain ⟨q0, g1, g2, _⟩ := LiI.paired_get kv e3
    rw [e1] at g1
    cases g1
    rw [g2]
    exact relV_key (show keyIs k v = true from e2)
  have J := I2.laid (a := (s1.heap.push { cls := .type "dict_keys", data := .fields #[.ref d] }).objs.size) (o := .lst (kvs.map fun q => kV q.1)) (t' := tk) hk (Nat.le_refl _) ⟨by rw [List.length_map]; exact hz, acc.toList, c, rv, by
    rw [Array.toArray_toList]
    exact hS⟩
  exact ⟨.ref _, _, J, rfl, q _ hfr⟩
end LkP
namespace P1
open PySem PySem.Spec PyProof.Rows L2 GxR
def topS (i : Nat) : Stmt := PySem.Challenge.pw_forkedshelves_k01_changes_lead_back.main.body.getD i (.Pass ⟨0, 0, 0, 0⟩)
abbrev s_value_at : Stmt := topS 1
abbrev N_value_at : List Str := ["book", "place"]
theorem sc_value_at : FnScope N_value_at ["book", "place"] (defScope s_value_at) := ⟨rfl, rfl, rfl, by decide +kernel, rfl, by decide +kernel, by decide +kernel⟩
abbrev s_with_writes : Stmt := topS 2
abbrev N_with_writes : List Str := ["book", "writes", "written", "place", "value"]
theorem sc_with_writes : FnScope N_with_writes ["book", "writes"] (defScope s_with_writes) := ⟨rfl, rfl, rfl, by decide +kernel, rfl, by decide +kernel, by decide +kernel⟩
abbrev s_changes : Stmt := topS 3
abbrev N_changes : List Str := ["base", "book", "places", "place"]
theorem sc_changes : FnScope N_changes ["base", "book"] (defScope s_changes) := ⟨rfl, rfl, rfl, by decide +kernel, rfl, by decide +kernel, by decide +kernel⟩
abbrev s_holds : Stmt := topS 4
abbrev N_holds : List Str := ["book", "marks", "place", "value"]
theorem sc_holds : FnScope N_holds ["book", "marks"] (defScope s_holds) := ⟨rfl, rfl, rfl, by decide +kernel, rfl, by decide +kernel, by decide +kernel⟩
abbrev s_open : Stmt := topS 6
abbrev N_open : List Str := ["_law_script", "_law_at", "_law_cell"]
theorem sc_open : FnScope N_open ["_law_script", "_law_at"] (defScope s_open) := ⟨rfl, rfl, rfl, by decide +kernel, rfl, by decide +kernel, by decide +kernel⟩
abbrev s_take : Stmt := topS 7
abbrev N_take : List Str := ["_law_box", "_law_size", "_law_drawn", "_law_k", "_law_mixed"]
theorem sc_take : FnScope N_take ["_law_box", "_law_size"] (defScope s_take) := ⟨rfl, rfl, rfl, by decide +kernel, rfl, by decide +kernel, by decide +kernel⟩
abbrev s_choose : Stmt := topS 8
abbrev N_choose : List Str := ["_law_box", "_law_rows", "_law_count", "_law_rest", "_law_chosen", "_law_k", "_law_at"]
theorem sc_choose : FnScope N_choose ["_law_box", "_law_rows", "_law_count"] (defScope s_choose) := ⟨rfl, rfl, rfl, by decide +kernel, rfl, by decide +kernel, by decide +kernel⟩
abbrev s_places : Stmt := topS 9
abbrev N_places : List Str := ["_law_box", "_law_count", "_law_places_here", "_law_last", "_law_k", "_law_step"]
theorem sc_places : FnScope N_places ["_law_box", "_law_count"] (defScope s_places) := ⟨rfl, rfl, rfl, by decide +kernel, rfl, by decide +kernel, by decide +kernel⟩
abbrev s_is_book : Stmt := topS 10
abbrev N_is_book : List Str := ["_law_told", "_law_place"]
theorem sc_is_book : FnScope N_is_book ["_law_told"] (defScope s_is_book) := ⟨rfl, rfl, rfl, by decide +kernel, rfl, by decide +kernel, by decide +kernel⟩
abbrev s_copy : Stmt := topS 11
abbrev N_copy : List Str := ["_law_book", "_law_result", "_law_place"]
theorem sc_copy : FnScope N_copy ["_law_book"] (defScope s_copy) := ⟨rfl, rfl, rfl, by decide +kernel, rfl, by decide +kernel, by decide +kernel⟩
abbrev s_value : Stmt := topS 12
abbrev N_value : List Str := ["_law_box"]
theorem sc_value : FnScope N_value ["_law_box"] (defScope s_value) := ⟨rfl, rfl, rfl, by decide +kernel, rfl, by decide +kernel, by decide +kernel⟩
abbrev s_first : Stmt := topS 13
abbrev N_first : List Str := ["_law_box", "_law_places_here", "_law_book", "_law_place", "_law_value_here"]
theorem sc_first : FnScope N_first ["_law_box", "_law_places_here"] (defScope s_first) := ⟨rfl, rfl, rfl, by decide +kernel, rfl, by decide +kernel, by decide +kernel⟩
abbrev s_second : Stmt := topS 14
abbrev N_second : List Str := ["_law_box", "_law_book", "_law_places_here", "_law_result", "_law_place", "_law_way", "_law_value_here"]
theorem sc_second : FnScope N_second ["_law_box", "_law_book", "_law_places_here"] (defScope s_second) := ⟨rfl, rfl, rfl, by decide +kernel, rfl, by decide +kernel, by decide +kernel⟩
abbrev s_wanted : Stmt := topS 15
abbrev N_wanted : List Str := ["_law_box", "_law_book", "_law_places_here", "_law_writes", "_law_place", "_law_way"]
theorem sc_wanted : FnScope N_wanted ["_law_box", "_law_book", "_law_places_here"] (defScope s_wanted) := ⟨rfl, rfl, rfl, by decide +kernel, rfl, by decide +kernel, by decide +kernel⟩
abbrev s_unlike : Stmt := topS 16
abbrev N_unlike : List Str := ["_law_base", "_law_book", "_law_places_here", "_law_due", "_law_place"]
theorem sc_unlike : FnScope N_unlike ["_law_base", "_law_book", "_law_places_here"] (defScope s_unlike) := ⟨rfl, rfl, rfl, by decide +kernel, rfl, by decide +kernel, by decide +kernel⟩
abbrev s_after : Stmt := topS 17
abbrev N_after : List Str := ["_law_book", "_law_writes", "_law_places_here", "_law_due", "_law_place", "_law_value_here"]
theorem sc_after : FnScope N_after ["_law_book", "_law_writes", "_law_places_here"] (defScope s_after) := ⟨rfl, rfl, rfl, by decide +kernel, rfl, by decide +kernel, by decide +kernel⟩
abbrev s_leads : Stmt := topS 18
abbrev N_leads : List Str := ["_law_base", "_law_book", "_law_places_here", "_law_one", "_law_two", "_law_due", "_law_told", "_law_same", "_law_again", "_law_back"]
theorem sc_leads : FnScope N_leads ["_law_base", "_law_book", "_law_places_here"] (defScope s_leads) := ⟨rfl, rfl, rfl, by decide +kernel, rfl, by decide +kernel, by decide +kernel⟩
abbrev s_writing : Stmt := topS 19
abbrev N_writing : List Str := ["_law_base", "_law_writes", "_law_places_here", "_law_one", "_law_some", "_law_due", "_law_told", "_law_same", "_law_alone", "_law_again"]
theorem sc_writing : FnScope N_writing ["_law_base", "_law_writes", "_law_places_here"] (defScope s_writing) := ⟨rfl, rfl, rfl, by decide +kernel, rfl, by decide +kernel, by decide +kernel⟩
abbrev s_holding : Stmt := topS 20
abbrev N_holding : List Str := ["_law_one", "_law_marks", "_law_due", "_law_told"]
theorem sc_holding : FnScope N_holding ["_law_one", "_law_marks", "_law_due"] (defScope s_holding) := ⟨rfl, rfl, rfl, by decide +kernel, rfl, by decide +kernel, by decide +kernel⟩
abbrev s_telling : Stmt := topS 21
abbrev N_telling : List Str := ["_law_box", "_law_book", "_law_places_here", "_law_one", "_law_place", "_law_told", "_law_held", "_law_marks", "_law_at", "_law_value_here", "_law_other", "_law_spoilt", "_law_passed"]
theorem sc_telling : FnScope N_telling ["_law_box", "_law_book", "_law_places_here"] (defScope s_telling) := ⟨rfl, rfl, rfl, by decide +kernel, rfl, by decide +kernel, by decide +kernel⟩
abbrev s_large : Stmt := topS 22
abbrev N_large : List Str := ["_law_box", "_law_first_here", "_law_places_here", "_law_base", "_law_book", "_law_k"]
theorem sc_large : FnScope N_large ["_law_box"] (defScope s_large) := ⟨rfl, rfl, rfl, by decide +kernel, rfl, by decide +kernel, by decide +kernel⟩
abbrev s_law : Stmt := topS 23
abbrev N_law : List Str := ["_law_script", "_law_box", "_law_places_here", "_law_base", "_law_book", "_law_writes", "_law_asks", "_law_wide"]
theorem sc_law : FnScope N_law ["_law_script"] (defScope s_law) := ⟨rfl, rfl, rfl, by decide +kernel, rfl, by decide +kernel, by decide +kernel⟩
/-- what the top has left, by names -/
structure Txt (K : PySem.W.Frag) (mg : Str → Option Value) : Type where
  f_value_at : Addr
  fd_value_at : FuncData
  F_value_at : Fun K "value_at" "value_at" s_value_at f_value_at fd_value_at
  b_value_at : Binds K fd_value_at ["book", "place"] []
  g_value_at : mg "value_at" = some (.ref f_value_at)
  f_with_writes : Addr
  fd_with_writes : FuncData
  F_with_writes : Fun K "with_writes" "with_writes" s_with_writes f_with_writes fd_with_writes
  b_with_writes : Binds K fd_with_writes ["book", "writes"] []
  g_with_writes : mg "with_writes" = some (.ref f_with_writes)
  f_changes : Addr
  fd_changes : FuncData
  F_changes : Fun K "changes" "changes" s_changes f_changes fd_changes
  b_changes : Binds K fd_changes ["base", "book"] []
  g_changes : mg "changes" = some (.ref f_changes)
  f_holds : Addr
  fd_holds : FuncData
  F_holds : Fun K "holds" "holds" s_holds f_holds fd_holds
  b_holds : Binds K fd_holds ["book", "marks"] []
  g_holds : mg "holds" = some (.ref f_holds)
  f_open : Addr
  fd_open : FuncData
  F_open : Fun K "_law_open" "_law_open" s_open f_open fd_open
  b_open : Binds K fd_open ["_law_script", "_law_at"] []
  g_open : mg "_law_open" = some (.ref f_open)
  f_take : Addr
  fd_take : FuncData
  F_take : Fun K "_law_take" "_law_take" s_take f_take fd_take
  b_take : Binds K fd_take ["_law_box", "_law_size"] []
  g_take : mg "_law_take" = some (.ref f_take)
  f_choose : Addr
  fd_choose : FuncData
  F_choose : Fun K "_law_choose" "_law_choose" s_choose f_choose fd_choose
  b_choose : Binds K fd_choose ["_law_box", "_law_rows", "_law_count"] []
  g_choose : mg "_law_choose" = some (.ref f_choose)
  f_places : Addr
  fd_places : FuncData
  F_places : Fun K "_law_places" "_law_places" s_places f_places fd_places
  b_places : Binds K fd_places ["_law_box", "_law_count"] []
  g_places : mg "_law_places" = some (.ref f_places)
  f_is_book : Addr
  fd_is_book : FuncData
  F_is_book : Fun K "_law_is_book" "_law_is_book" s_is_book f_is_book fd_is_book
  b_is_book : Binds K fd_is_book ["_law_told"] []
  g_is_book : mg "_law_is_book" = some (.ref f_is_book)
  f_copy : Addr
  fd_copy : FuncData
  F_copy : Fun K "_law_copy" "_law_copy" s_copy f_copy fd_copy
  b_copy : Binds K fd_copy ["_law_book"] []
  g_copy : mg "_law_copy" = some (.ref f_copy)
  f_value : Addr
  fd_value : FuncData
  F_value : Fun K "_law_value" "_law_value" s_value f_value fd_value
  b_value : Binds K fd_value ["_law_box"] []
  g_value : mg "_law_value" = some (.ref f_value)
  f_first : Addr
  fd_first : FuncData
  F_first : Fun K "_law_first" "_law_first" s_first f_first fd_first
  b_first : Binds K fd_first ["_law_box", "_law_places_here"] []
  g_first : mg "_law_first" = some (.ref f_first)
  f_second : Addr
  fd_second : FuncData
  F_second : Fun K "_law_second" "_law_second" s_second f_second fd_second
  b_second : Binds K fd_second ["_law_box", "_law_book", "_law_places_here"] []
  g_second : mg "_law_second" = some (.ref f_second)
  f_wanted : Addr
  fd_wanted : FuncData
  F_wanted : Fun K "_law_wanted" "_law_wanted" s_wanted f_wanted fd_wanted
  b_wanted : Binds K fd_wanted ["_law_box", "_law_book", "_law_places_here"] []
  g_wanted : mg "_law_wanted" = some (.ref f_wanted)
  f_unlike : Addr
  fd_unlike : FuncData
  F_unlike : Fun K "_law_unlike" "_law_unlike" s_unlike f_unlike fd_unlike
  b_unlike : Binds K fd_unlike ["_law_base", "_law_book", "_law_places_here"] []
  g_unlike : mg "_law_unlike" = some (.ref f_unlike)
  f_after : Addr
  fd_after : FuncData
  F_after : Fun K "_law_after" "_law_after" s_after f_after fd_after
  b_after : Binds K fd_after ["_law_book", "_law_writes", "_law_places_here"] []
  g_after : mg "_law_after" = some (.ref f_after)
  f_leads : Addr
  fd_leads : FuncData
  F_leads : Fun K "_law_leads" "_law_leads" s_leads f_leads fd_leads
  b_leads : Binds K fd_leads ["_law_base", "_law_book", "_law_places_here"] []
  g_leads : mg "_law_leads" = some (.ref f_leads)
  f_writing : Addr
  fd_writing : FuncData
  F_writing : Fun K "_law_writing" "_law_writing" s_writing f_writing fd_writing
  b_writing : Binds K fd_writing ["_law_base", "_law_writes", "_law_places_here"] []
  g_writing : mg "_law_writing" = some (.ref f_writing)
  f_holding : Addr
  fd_holding : FuncData
  F_holding : Fun K "_law_holding" "_law_holding" s_holding f_holding fd_holding
  b_holding : Binds K fd_holding ["_law_one", "_law_marks", "_law_due"] []
  g_holding : mg "_law_holding" = some (.ref f_holding)
  f_telling : Addr
  fd_telling : FuncData
  F_telling : Fun K "_law_telling" "_law_telling" s_telling f_telling fd_telling
  b_telling : Binds K fd_telling ["_law_box", "_law_book", "_law_places_here"] []
  g_telling : mg "_law_telling" = some (.ref f_telling)
  f_large : Addr
  fd_large : FuncData
  F_large : Fun K "_law_large" "_law_large" s_large f_large fd_large
  b_large : Binds K fd_large ["_law_box"] []
  g_large : mg "_law_large" = some (.ref f_large)
  f_law : Addr
  fd_law : FuncData
  F_law : Fun K "law" "law" s_law f_law fd_law
  b_law : Binds K fd_law ["_law_script"] []
  g_law : mg "law" = some (.ref f_law)
  z_dict : mg "dict" = none
  z_sorted : mg "sorted" = none
  z_set : mg "set" = none
  z_all : mg "all" = none
  z_len : mg "len" = none
  z_int : mg "int" = none
  z_list : mg "list" = none
  z_range : mg "range" = none
  z_min : mg "min" = none
  z_isinstance : mg "isinstance" = none
  z_bool : mg "bool" = none
  z_reversed : mg "reversed" = none
  z_max : mg "max" = none
  z_tuple : mg "tuple" = none
/-! ### heaps -/
theorem Same.new {H : Hp} {p : Addr} {o : HO} (h : H p = none) : Same H (upd H p o) := fun b x e => by
  rw [upd_ne (ne_of_none e h)]
  exact e
/-- an object that H does not know may change -/
theorem Same.mut {H H' : Hp} {p : Addr} {o : HO} (e : Same H H') (h : H p = none) : Same H (upd H' p o) := fun b x q => by
  rw [upd_ne (ne_of_none q h)]
  exact e _ _ q
theorem Same.tup {K : PySem.W.Frag} {H H' : Hp} {a : Addr} {xs : List V} (e : Same H H') (h : SqT K H a xs) : SqT K H' a xs := by
  rcases h with (h | ⟨o, h⟩) | h
  · exact .inl (.inl (e _ _ h))
  · exact .inl (.inr ⟨o, e _ _ h⟩)
  · exact .inr h
theorem iteD0 {c A B : Prop} [Decidable c] (hc : ¬ c) (h : B) : if decide c = true then A else B := by
  rw [decide_eq_false hc]
  exact iteF h
theorem iteD1 {c A B : Prop} [Decidable c] (hc : c) (h : A) : if decide c = true then A else B := by
  rw [decide_eq_true hc]
  exact iteT h
theorem iteN1 {c A B : Prop} [Decidable c] (hc : ¬ c) (h : A) : if (!decide c) = true then A else B := by
  rw [decide_eq_false hc]
  exact iteT h
theorem ip_of {X : Cx} {op : Operator} {r : R2} (ho : OpR X (inplaceOp op) r) : PIp X op r := fun _ _ _ _ _ _ _ _ _ I rx ry q => augR ho I rx ry q
theorem sz {n : Nat} (h : n ≤ 100000) : n ≤ sizeLine := Nat.le_trans h (by decide)
theorem szl {n : Nat} (h : n < 100000) : n < sizeLine := Nat.lt_of_lt_of_le h (by decide)
/-- len, list(..) of a list or a tuple: the rules' questions by K -/
def rLenK (K : PySem.W.Frag) : List V → Hp → VK → Prop := fun ws Hw Q => ∃ p its, ws = [V.ref p] ∧ (SqL K Hw p its ∨ SqT K Hw p its) ∧ Q (V.int its.length) Hw
def rListK (K : PySem.W.Frag) : List V → Hp → VK → Prop := fun ws Hw Q => ∃ p its, ws = [V.ref p] ∧ (SqL K Hw p its ∨ SqT K Hw p its) ∧ ∀ l, Hw l = none → Q (.ref l) (upd Hw l (.lst its))
def rTupleK (K : PySem.W.Frag) : List V → Hp → VK → Prop := fun ws Hw Q => ∃ p its, ws = [V.ref p] ∧ ((SqL K Hw p its ∧ ∀ l, Hw l = none → Q (.ref l) (upd Hw l (.tup its))) ∨ (SqT K Hw p its ∧ Q (.ref p) Hw))
/-! ### the draws' box -/
def IsBox (o : HO) : Prop := ∃ t c k : Int, o = .lst [.int t, .int c, .int k]
def Box (H : Hp) (a : Addr) : Prop := ∃ o, H a = some o ∧ IsBox o
/-- all but what stands at a is as it was, and a is a box -/
def But (a : Addr) (H H' : Hp) : Prop := (∀ b o, b ≠ a → H b = some o → H' b = some o) ∧ Box H' a
theorem But.upd {a : Addr} {H : Hp} {o : HO} (h : IsBox o) : But a H (upd H a o) := ⟨fun b x n e => by rw [upd_ne n]; exact e, o, upd_same, h⟩
theorem But.trans {a : Addr} {H H1 H2 : Hp} (x : But a H H1) (y : But a H1 H2) : But a H H2 := ⟨fun b o n e => y.1 b o n (x.1 b o n e), y.2⟩
theorem But.refl {a : Addr} {H : Hp} (h : Box H a) : But a H H := ⟨fun _ _ _ e => e, h⟩
theorem But.same {a : Addr} {H H1 H2 : Hp} (x : But a H H1) (y : Same H1 H2) : But a H H2 := ⟨fun b o n e => y b o (x.1 b o n e), let ⟨o, e, z⟩ := x.2; ⟨o, y _ _ e, z⟩⟩
theorem But.free {a b : Addr} {H H' : Hp} (e : But a H H') (hb : H' b = none) : H b = none ∨ b = a := by
  by_cases n : b = a
  · exact .inr n
  · refine .inl ?_
    cases q : H b with
    | none => rfl
    | some o =>
      rw [e.1 b o n q] at hb
      cases hb
theorem But.none {a b : Addr} {H H' : Hp} (e : But a H H') (hb : H' b = Option.none) : H b = Option.none := by
  rcases e.free hb with h | h
  · exact h
  · obtain ⟨o, q, _⟩ := e.2
    rw [h, q] at hb
    cases hb
theorem Box.lst {H : Hp} {a : Addr} (h : Box H a) : ∃ t c k : Int, H a = some (.lst [.int t, .int c, .int k]) := by
  obtain ⟨o, e, t, c, k, rfl⟩ := h
  exact ⟨t, c, k, e⟩
/-- behind a new object a, all that stood stands -/
theorem But.same_of {a : Addr} {H0 H H' : Hp} (s : Same H0 H) (n : H0 a = Option.none) (e : But a H H') : Same H0 H' := fun b o q => e.1 b o (ne_of_none q n) (s b o q)
theorem But.mut {a p : Addr} {H H' : Hp} {o : HO} (e : But a H H') (h : H p = Option.none) (n : a ≠ p) : But a H (L2.upd H' p o) := by
  refine ⟨fun b x nb q => ?_, ?_⟩
  · rw [upd_ne (ne_of_none q h)]
    exact e.1 b x nb q
  · obtain ⟨x, q, z⟩ := e.2
    exact ⟨x, by rw [upd_ne n]; exact q, z⟩
theorem Box.ne {a p : Addr} {H : Hp} (h : Box H a) (n : H p = Option.none) : a ≠ p := by
  obtain ⟨o, q, _⟩ := h
  exact ne_of_none q n
theorem ixN_at {n : Nat} {i : Int} (h0 : 0 ≤ i) (h1 : i < n) : ixN n i = some i.toNat := by
  unfold ixN
  rw [if_pos h0, if_pos h1]
def sp_open (K : PySem.W.Frag) : Sp := fun vs H Q _ => ∃ (a : Addr) (ns : List Int) (i : Nat), vs = [.ref a, .int i] ∧ SqL K H a (ns.map V.int) ∧ ∀ p o, H p = none → IsBox o → Q (.ref p) (upd H p o)
def sp_take : Sp := fun vs H Q _ => ∃ (a : Addr) (n : Int), vs = [.ref a, .int n] ∧ Box H a ∧ 0 < n ∧ n < 1073741824 ∧ ∀ (d : Int) (H' : Hp), 0 ≤ d → d < n → But a H H' → (∀ b, b ≠ a → H' b = H b) → Q (.int d) H'
def sp_whole : Sp := fun vs H Q _ => ∃ n : Nat, vs = [.int n] ∧ n ≤ 60 ∧ Q (.int ((2 ^ n : Nat) : Int)) H
/-! ### dicts of ints by what they give -/
/-- kvs is a dict of ints that gives f -/
structure Bk (kvs : List (Key × V)) (f : Int → Option Int) : Prop where
  nd : (kvs.map (·.1)).Nodup
  ent : ∀ p ∈ kvs, ∃ k v, p = (Sum.inl k, V.int v) ∧ f k = some v
  val : ∀ k, valV kvs (Sum.inl k) = (f k).map V.int
theorem Bk.nil : Bk [] (fun _ => none) := ⟨List.nodup_nil, (fun p hp => by cases hp), fun k => rfl⟩
theorem Bk.congr {kvs : List (Key × V)} {f g : Int → Option Int} (b : Bk kvs f) (h : ∀ k, f k = g k) : Bk kvs g := by
  have e : f = g := funext h
  rw [← e]
  exact b
theorem nd_put {kvs : List (Key × V)} {k : Key} (v : V) (hn : (kvs.map (·.1)).Nodup) : ((putK kvs k v).map (·.1)).Nodup := by
  cases h : valV kvs k with
  | none => exact nd_putK v hn h
  | some u =>
    have e : (putK kvs k v).map (·.1) = kvs.map (·.1) := by
      unfold putK
      rw [if_pos (by rw [valV_any, h]; rfl), List.map_map]
      refine List.map_congr_left fun p _ => ?_
      show (if p.1 = k then (p.1, v) else p).1 = p.1
      split <;> rfl
    rw [e]
    exact hn
theorem Bk.put {kvs : List (Key × V)} {f : Int → Option Int} (b : Bk kvs f) (k v : Int) : Bk (putK kvs (Sum.inl k) (V.int v)) (fun j => if j = k then some v else f j) := by
  refine ⟨nd_put _ b.nd, fun p hp => ?_, fun j => ?_⟩
  · unfold putK at hp
    split at hp
    · obtain ⟨q, hq, e⟩ := List.mem_map.mp hp
      obtain ⟨k1, v1, rfl, e1⟩ := b.ent q hq
      by_cases c : k1 = k
      · subst c
        have e2 : (Sum.inl k1, V.int v) = p := by simpa using e
        exact ⟨k1, v, e2.symm, if_pos rfl⟩
      · have e2 : (Sum.inl k1, V.int v1) = p := by
          have z : ¬ ((Sum.inl k1 : Key) = Sum.inl k) := fun z => c (Sum.inl.inj z)
          simpa [z] using e
        exact ⟨k1, v1, e2.symm, by rw [if_neg c]; exact e1⟩
    · rcases List.mem_append.mp hp with h | h
      · obtain ⟨k1, v1, rfl, e1⟩ := b.ent p h
        by_cases c : k1 = k
        · subst c
          rename_i hany
          exact absurd (List.any_eq_true.mpr ⟨_, h, by simp⟩) hany
        · exact ⟨k1, v1, rfl, by rw [if_neg c]; exact e1⟩
      · rw [List.mem_singleton.mp h]
        exact ⟨k, v, rfl, if_pos rfl⟩
  · rw [valV_put]
    by_cases c : j = k
    · subst c
      rw [if_pos rfl, if_pos rfl]
      rfl
    · rw [if_neg (fun z => c (Sum.inl.inj z)), if_neg c]
      exact b.val j
theorem valV_drop (k j : Key) : ∀ kvs : List (Key × V), valV (dropK kvs k) j = if j = k then none else valV kvs j
  | [] => by
    show (none : Option V) = if j = k then none else none
    split <;> rfl
  | p :: r => by
    by_cases c : p.1 = k
    · rw [dropK_pos c, valV_drop k j r]
      by_cases c2 : j = k
      · rw [if_pos c2, if_pos c2]
      · rw [if_neg c2, if_neg c2, valV_neg (fun z => c2 (z.symm.trans c))]
    · rw [dropK_neg c]
      by_cases c2 : p.1 = j
      · have c3 : ¬ j = k := fun z => c (c2.trans z)
        rw [valV_pos c2, if_neg c3, valV_pos c2]
      · rw [valV_neg c2, valV_neg c2, valV_drop k j r]
theorem Bk.drop {kvs : List (Key × V)} {f : Int → Option Int} (b : Bk kvs f) (k : Int) : Bk (dropK kvs (Sum.inl k)) (fun j => if j = k then none else f j) := by
  refine ⟨nd_dropK b.nd, fun p hp => ?_, fun j => ?_⟩
  · have hp' := List.mem_filter.mp hp
    obtain ⟨k1, v1, rfl, e1⟩ := b.ent p hp'.1
    have c : k1 ≠ k := fun z => by
      have := hp'.2
      rw [z] at this
      simp at this
    exact ⟨k1, v1, rfl, by rw [if_neg c]; exact e1⟩
  · rw [valV_drop]
    by_cases c : j = k
    · subst c
      rw [if_pos rfl, if_pos rfl]
      rfl
    · rw [if_neg (fun z => c (Sum.inl.inj z)), if_neg c]
      exact b.val j
theorem nd_of_map : ∀ {ks : List Int}, (ks.map (Sum.inl : Int → Key)).Nodup → ks.Nodup
  | [], _ => List.nodup_nil
  | k :: ks, h => by
    obtain ⟨h1, h2⟩ := List.nodup_cons.mp h
    exact List.nodup_cons.mpr ⟨fun z => h1 (List.mem_map.mpr ⟨k, z, rfl⟩), nd_of_map h2⟩
theorem Bk.keys {kvs : List (Key × V)} {f : Int → Option Int} (b : Bk kvs f) : ∃ ks : List Int, kvs.map (·.1) = ks.map Sum.inl ∧ ks.Nodup ∧ ks.length = kvs.length ∧ ∀ k, k ∈ ks ↔ (f k).isSome = true := by
  have ex : ∀ l : List (Key × V), (∀ p ∈ l, ∃ k v, p = (Sum.inl k, V.int v) ∧ f k = some v) → ∃ ks : List Int, l.map (·.1) = ks.map Sum.inl := by
    intro l
    induction l with
    | nil => intro _; exact ⟨[], rfl⟩
    | cons p l ih =>
      intro h
      obtain ⟨ks, e⟩ := ih fun q hq => h q (List.mem_cons_of_mem _ hq)
      obtain ⟨k, v, rfl, _⟩ := h p List.mem_cons_self
      exact ⟨k :: ks, by rw [List.map_cons, List.map_cons, e]⟩
  obtain ⟨ks, e⟩ := ex kvs b.ent
  have mem : ∀ k, k ∈ ks ↔ (Sum.inl k : Key) ∈ kvs.map (·.1) := fun k => by
    rw [e]
    exact ⟨fun h => List.mem_map.mpr ⟨k, h, rfl⟩, fun h => by
      obtain ⟨j, hj, z⟩ := List.mem_map.mp h
      rw [← Sum.inl.inj z]
      exact hj⟩
  refine ⟨ks, e, ?_, ?_, fun k => ?_⟩
  · have := b.nd
    rw [e] at this
    exact nd_of_map this
  · have := congrArg List.length e
    rw [List.length_map, List.length_map] at this
    exact this.symm
  · rw [mem k]
    constructor
    · intro h
      cases q : f k with
      | some v => rfl
      | none =>
        have z := b.val k
        rw [q] at z
        exact absurd h (valV_not z)
    · intro h
      obtain ⟨v, hv⟩ := Option.isSome_iff_exists.mp h
      have z := b.val k
      rw [hv] at z
      exact valV_in z
theorem Bk.le {kvs : List (Key × V)} {f : Int → Option Int} (b : Bk kvs f) {U : List Int} (h : ∀ k, (f k).isSome = true → k ∈ U) : kvs.length ≤ U.length := by
  obtain ⟨ks, _, nd, hl, hm⟩ := b.keys
  rw [← hl]
  exact List.Nodup.length_le_of_subset nd fun k hk => h k ((hm k).1 hk)
/-- equal dicts, as == asks -/
theorem Bk.same {ks ls : List (Key × V)} {f : Int → Option Int} (b : Bk ks f) (c : Bk ls f) : ks.length = ls.length ∧ ∀ p ∈ ks, valV ls p.1 = some p.2 ∧ flatB p.2 = true := by
  obtain ⟨k1, _, n1, l1, m1⟩ := b.keys
  obtain ⟨k2, _, n2, l2, m2⟩ := c.keys
  refine ⟨Nat.le_antisymm (by rw [← l2]; exact b.le fun k h => (m2 k).2 h) (by rw [← l1]; exact c.le fun k h => (m1 k).2 h), fun p hp => ?_⟩
  obtain ⟨k, v, rfl, e⟩ := b.ent p hp
  refine ⟨?_, rfl⟩
  show valV ls (Sum.inl k) = _
  rw [c.val k, e]
  rfl
/-- at d stands a dict of ints that gives f -/
def At (H : Hp) (d : Addr) (f : Int → Option Int) : Prop := ∃ kvs, H d = some (.dK kvs) ∧ Bk kvs f
theorem At.same {H H' : Hp} {d : Addr} {f : Int → Option Int} (a : At H d f) (s : Same H H') : At H' d f := let ⟨kvs, e, b⟩ := a; ⟨kvs, s _ _ e, b⟩
/-- only at the places of U -/
def In (f : Int → Option Int) (U : List Int) : Prop := ∀ k, (f k).isSome = true → k ∈ U
/-- the value of a place -/
def gv (f : Int → Option Int) (k : Int) : Int := (f k).getD 0
/-- after the writes g -/
def wr (f g : Int → Option Int) : Int → Option Int := fun k => match g k with
  | some v => if v = 0 then none else some v
  | none => f k
/-- where they differ -/
def ch (f g : Int → Option Int) : Int → Option Int := fun k => if gv f k = gv g k then none else some (gv g k)
def none0 : Int → Option Int := fun _ => none
/-! ### walks -/
theorem dc_it {J : It} {n : Nat} {G : Hp → Prop} {Y : Nat → Hp → V → Hp → Prop} (w : Walk J n G Y) {g : TG} {tt : TT} {tk tv : TE} {vs : List Nat} {σ : L2.St} {H1 : Hp} {D : Addr} {Qd : Hp → Prop} (Pv : Nat → Hp → Prop) (h0 : Pv 0 (L2.upd H1 D (.dK []))) (hG : ∀ i H, i ≤ n → Pv i H → G H)
    (hs : ∀ i x H H', i < n → Pv i H → Y i H x H' → g x (wipe σ vs) H' fun σ2 H2 => wipe σ2 vs = wipe σ vs ∧ tt σ2 H2 fun b H3 =>
      if b = true then tk σ2 H3 fun y H4 => tv σ2 H4 fun z H5 => ∃ kvs k, y = kV k ∧ H5 D = some (.dK kvs) ∧ kvs.length < sizeLine ∧ Pv (i + 1) (L2.upd H5 D (.dK (putK kvs k z))) else Pv (i + 1) H3) (hd : ∀ H, Pv n H → Qd H) :
    ∃ W : Nat → Nat → Hp → Prop, (∃ m, W 0 m (L2.upd H1 D (.dK []))) ∧ ∀ i m H, W i m H →
      (J.stop i H ∧ Qd H) ∨ (J.go i H ∧ ∃ Nx : Hp → Prop, (∀ H', Nx H' → ∃ m', m' < m ∧ W (i + 1) m' H') ∧ ∀ x H', J.yld i H x H' → g x (wipe σ vs) H' fun σ2 H2 => wipe σ2 vs = wipe σ vs ∧ tt σ2 H2 fun b H3 =>
        if b = true then tk σ2 H3 fun y H4 => tv σ2 H4 fun z H5 => ∃ kvs k, y = kV k ∧ H5 D = some (.dK kvs) ∧ kvs.length < sizeLine ∧ Nx (L2.upd H5 D (.dK (putK kvs k z))) else Nx H3) := by
  refine ⟨fun i m H => m = n - i ∧ i ≤ n ∧ Pv i H, ⟨n, by simp, Nat.zero_le _, h0⟩, ?_⟩
  rintro i m H ⟨rfl, hi, p⟩
  have q := hG i H hi p
  by_cases hlt : i < n
  · exact .inr ⟨w.goes i H hlt q, Pv (i + 1), fun H' p' => ⟨n - (i + 1), by omega, rfl, hlt, p'⟩, fun x H' y => hs i x H H' hlt p (w.yields i H x H' hlt q y)⟩
  · have e : i = n := by omega
    subst e
    exact .inl ⟨w.stops H q, hd H p⟩
theorem gx_it {b0 : Bool} {Q : VK} {J : It} {n : Nat} {G : Hp → Prop} {Y : Nat → Hp → V → Hp → Prop} (w : Walk J n G Y) {g : TG} {tt : TT} {te : TE} {vs : List Nat} {σ : L2.St} {H1 : Hp} (Pv : Nat → Hp → Prop) (h0 : Pv 0 H1) (hG : ∀ i H, i ≤ n → Pv i H → G H)
    (hs : ∀ i x H H', i < n → Pv i H → Y i H x H' → g x (wipe σ vs) H' fun σ2 H2 => wipe σ2 vs = wipe σ vs ∧ tt σ2 H2 fun b H3 =>
      if b = true then te σ2 H3 fun y H4 => ∃ c, y = .bl c ∧ (c = b0 → Q (.bl b0) H4) ∧ (c ≠ b0 → Pv (i + 1) H4) else Pv (i + 1) H3) (hd : ∀ H, Pv n H → Q (.bl (!b0)) H) :
    ∃ W : Nat → Nat → Hp → Prop, (∃ m, W 0 m H1) ∧ ∀ i m H, W i m H →
      (J.stop i H ∧ Q (.bl (!b0)) H) ∨ (J.go i H ∧ ∃ Nx : Hp → Prop, (∀ H', Nx H' → ∃ m', m' < m ∧ W (i + 1) m' H') ∧ ∀ x H', J.yld i H x H' → g x (wipe σ vs) H' fun σ2 H2 => wipe σ2 vs = wipe σ vs ∧ tt σ2 H2 fun b H3 =>
        if b = true then te σ2 H3 fun y H4 => ∃ c, y = .bl c ∧ (c = b0 → Q (.bl b0) H4) ∧ (c ≠ b0 → Nx H4) else Nx H3) := by
  refine ⟨fun i m H => m = n - i ∧ i ≤ n ∧ Pv i H, ⟨n, by simp, Nat.zero_le _, h0⟩, ?_⟩
  rintro i m H ⟨rfl, hi, p⟩
  have q := hG i H hi p
  by_cases hlt : i < n
  · exact .inr ⟨w.goes i H hlt q, Pv (i + 1), fun H' p' => ⟨n - (i + 1), by omega, rfl, hlt, p'⟩, fun x H' y => hs i x H H' hlt p (w.yields i H x H' hlt q y)⟩
  · have e : i = n := by omega
    subst e
    exact .inl ⟨w.stops H q, hd H p⟩
theorem cr_dcopy {X : Cx} : CallR X (.type "dict") (fun xs H Q => ∃ (a : Addr) (kvs : List (Key × V)), xs = [V.ref a] ∧ Rd H a (.dK kvs) ∧ ∀ p, H p = none → Q (.ref p) (L2.upd H p (.dK kvs))) := by
  intro pins s σ H xs us Q I r h
  obtain ⟨a, kvs, rfl, e, q⟩ := h
  cases r with
  | cons r rr =>
    cases rr
    cases r
    exact d_copyOf I e fun p s' hp I' => ⟨.ref p, _, I', rfl, q p hp⟩
/-! ### the promises of the program -/
def sp_value_at : Sp := fun vs H Q _ => ∃ (d : Addr) (f : Int → Option Int) (k : Int), vs = [.ref d, .int k] ∧ At H d f ∧ Q (.int (gv f k)) H
def sp_with_writes : Sp := fun vs H Q _ => ∃ (d e : Addr) (f g : Int → Option Int) (U : List Int), vs = [.ref d, .ref e] ∧ At H d f ∧ At H e g ∧ In f U ∧ In g U ∧ U.length ≤ 1000 ∧ ∀ (H' : Hp) (p : Addr), Same H H' → H p = none → At H' p (wr f g) → Q (.ref p) H'
def sp_changes : Sp := fun vs H Q _ => ∃ (d e : Addr) (f g : Int → Option Int) (U : List Int), vs = [.ref d, .ref e] ∧ At H d f ∧ At H e g ∧ In f U ∧ In g U ∧ U.length < 64 ∧ ∀ (H' : Hp) (p : Addr), Same H H' → H p = none → At H' p (ch f g) → Q (.ref p) H'
/-- a mark stands at t -/
def Mk (H : Hp) (m : Addr × Int × Int) : Prop := H m.1 = some (.tup [.int m.2.1, .int m.2.2])
def sp_holds (K : PySem.W.Frag) (tb : Addr) : Sp := fun vs H Q _ => ∃ (d l : Addr) (f : Int → Option Int) (ms : List (Addr × Int × Int)), vs = [.ref d, .ref l] ∧ At H d f ∧ (SqL K H l (ms.map fun m => V.ref m.1) ∨ SqT K H l (ms.map fun m => V.ref m.1)) ∧ (∀ m ∈ ms, Mk H m) ∧ TabG H tb ∧
  ∀ H', Tabbed tb H H' → Q (.bl (ms.all fun m => decide (gv f m.2.1 = m.2.2))) H'
section
variable {P : Program} {w : World} {K : PySem.W.Frag} {mg : Str → Option Value} {base : Heap}
theorem ok_value_at (T : Txt K mg) : FnOk P w K mg base CX0 1 T.f_value_at T.fd_value_at ["book", "place"] sp_value_at := by
  refine T.F_value_at.ok sc_value_at (fun vs H Q E h => ?_) (fun cdv A outer s H vs Q E hr h => ?_)
  · obtain ⟨d, f, k, rfl, _⟩ := h
    rfl
  · obtain ⟨d, f, k, rfl, ⟨kvs, ed, b⟩, q⟩ := h
    have hu := hu_of hr
    refine ⟨_, (pss_one (ps_ret (pe_dget2 hu (pv 0) (pv 1) pe_int (by constructor <;> rfl)))), ?_⟩
    refine ⟨_, rfl, d, rfl, .inl ⟨kvs, .inl ed⟩, _, rfl, valV kvs (Sum.inl k), DGet.k (k := Sum.inl k) ed, ?_⟩
    show Q _ H
    have e : (valV kvs (Sum.inl k)).getD (V.int 0) = V.int (gv f k) := by
      rw [b.val k]
      unfold gv
      cases f k <;> rfl
    rw [e]
    exact q
/-- f over the first i of kvs, g behind -/
def wrN (f : Int → Option Int) (ks : List (Key × V)) : Int → Option Int := fun k => match valV ks (Sum.inl k) with
  | some (.int v) => if v = 0 then none else some v
  | _ => f k
theorem valV_take {kvs : List (Key × V)} (nd : (kvs.map (·.1)).Nodup) {i : Nat} {k : Key} {v : V} (h : kvs[i]? = some (k, v)) (j : Key) : valV (kvs.take (i + 1)) j = if j = k then some v else valV (kvs.take i) j := by
  rw [List.take_add_one, h]
  show valV (kvs.take i ++ [(k, v)]) j = _
  refine valV_snoc k j v _ ?_
  cases q : valV (kvs.take i) k with
  | none => rfl
  | some u =>
    have z := valV_in q
    have hl := (List.getElem?_eq_some_iff.mp h).1
    have e : kvs.map (·.1) = (kvs.take i).map (·.1) ++ (kvs.drop i).map (·.1) := by rw [← List.map_append, List.take_append_drop]
    have e2 : kvs.drop i = (k, v) :: kvs.drop (i + 1) := by
      rw [List.drop_eq_getElem_cons hl]
      congr 1
      exact (List.getElem?_eq_some_iff.mp h).2
    rw [e, e2] at nd
    have := (List.nodup_append.mp nd).2.2 _ z _ (List.mem_map.mpr ⟨_, List.mem_cons_self, rfl⟩)
    exact absurd rfl this
theorem ok_with_writes (T : Txt K mg) : FnOk P w K mg base CX0 1 T.f_with_writes T.fd_with_writes ["book", "writes"] sp_with_writes := by
  refine T.F_with_writes.ok sc_with_writes (fun vs H Q E h => ?_) (fun cdv A outer s H vs Q E hr h => ?_)
  · obtain ⟨d, e, f, g, U, rfl, _⟩ := h
    rfl
  · obtain ⟨d, e, f, g, U, rfl, ⟨kd, ed, bd⟩, ⟨ke, ee, be⟩, uf, ug, hU, q⟩ := h
    have hu := hu_of hr
    refine ⟨_, (pss_cons (ps_set (i := 2) sc_with_writes.nd rfl (Or.inl rfl) (pe_callTy cr_dcopy (by rfl) T.z_dict (by decide +kernel) (pa_cons (pv 0) pa_nil)))
      (pss_cons (ps_lock (ps_for PassesOwn.never rfl (pi_items (pv 1)) (pg_tup (by rfl) (pgs_cons (pg_name (i := 3) sc_with_writes.nd rfl (Or.inl rfl)) (pgs_cons (pg_name (i := 4) sc_with_writes.nd rfl (Or.inl rfl)) pgs_nil)))
      (pss_one (ps_if (pt_cmpR op_eq (pv 4) pe_int (nomark _))
        (pss_one (ps_expr (pe_dpop2 (pv 2) (pv 3) pe_non (by constructor <;> rfl))))
        (pss_one (ps_dput hu (pv 2) (pv 3) (pv 4) rfl))))))
      (pss_one (ps_ret (pv 2))))), ?_⟩
    refine ⟨_, rfl, d, kd, rfl, .inl ed, fun p hp => ?_⟩
    have npe : p ≠ e := (ne_of_none ee hp).symm
    refine ⟨e, .dK ke, (Same.new hp) _ _ ee, trivial, fun od => ?_⟩
    refine ⟨_, rfl, e, od, ke, rfl, upd_same, for_it walk_items (fun i σ H' => ∃ (y z : Option V) (kvs : List (Key × V)), σ = [some (.ref d), some (.ref e), some (.ref p), y, z] ∧ H' p = some (.dK kvs) ∧ Bk kvs (wrN f (ke.take i)) ∧ H' e = some (.frz od (.dK ke)) ∧ (∀ b o, b ≠ e → H b = some o → H' b = some o))
      ⟨none, none, kd, rfl, by rw [upd_ne npe, upd_same], bd, upd_same, fun b o nb h => by rw [upd_ne nb]; exact (Same.new hp) _ _ h⟩ (fun i σ H' _ h => let ⟨_, _, _, _, _, _, h, _⟩ := h; h) ?_ ?_⟩
    · rintro i x σ H1 H2 hi ⟨y, z, kvs, rfl, ep, bk, efz, sm⟩ ⟨t, a, b, rfl, ht, rfl, ha, hb⟩
      obtain ⟨kv, hkv⟩ : ∃ kv, ke[i]? = some kv := ⟨ke[i], List.getElem?_eq_getElem hi⟩
      obtain ⟨k, v, rfl, hgk⟩ := be.ent kv (List.mem_of_getElem? hkv)
      simp only [hkv, Option.map_some, Option.some.injEq] at ha hb
      subst ha
      subst hb
      have npt : p ≠ t := ne_of_none ep ht
      have net : e ≠ t := ne_of_none efz ht
      have vt := valV_take be.nd hkv
      have lenB : kvs.length ≤ U.length := bk.le fun j hj => by
        unfold wrN at hj
        cases q1 : valV (ke.take i) (Sum.inl j) with
        | none =>
          rw [q1] at hj
          exact uf j hj
        | some u =>
          have m1 := valV_in q1
          obtain ⟨⟨k2, u2⟩, h3, h4⟩ := List.mem_map.mp m1
          obtain ⟨k3, v3, h5, h6⟩ := be.ent _ (List.mem_of_mem_take h3)
          cases h5
          cases h4
          exact ug _ (by rw [h6]; rfl)
      refine ⟨t, _, rfl, .inl (.inl upd_same), rfl, ?_⟩
      refine ⟨_, _, rfl, _, _, rfl, rfl, _, rfl, rfl, _, rfl, ?_⟩
      refine ite2 (fun h => ?_) (fun h => ?_)
      · have hv : v = 0 := by
          have z := of_decide_eq_true h
          exact V.int.inj z
        subst hv
        have fin : ∀ kv2 : List (Key × V), Bk kv2 (fun j => if j = k then none else wrN f (ke.take i) j) → ∃ (y z : Option V) (kvs : List (Key × V)), [some (V.ref d), some (V.ref e), some (V.ref p), some (V.int k), some (V.int 0)] = [some (.ref d), some (.ref e), some (.ref p), y, z] ∧ L2.upd (L2.upd H1 t (.tup [V.int k, V.int 0])) p (.dK kv2) p = some (.dK kvs) ∧ Bk kvs (wrN f (ke.take (i + 1))) ∧ L2.upd (L2.upd H1 t (.tup [V.int k, V.int 0])) p (.dK kv2) e = some (.frz od (.dK ke)) ∧ (∀ b o, b ≠ e → H b = some o → L2.upd (L2.upd H1 t (.tup [V.int k, V.int 0])) p (.dK kv2) b = some o) := fun kv2 b2 => by
          refine ⟨_, _, kv2, rfl, upd_same, b2.congr fun j => ?_, by rw [upd_ne npe.symm, upd_ne net]; exact efz, fun b o nb h => by rw [upd_ne (ne_of_none h hp), upd_ne (ne_of_none (sm b o nb h) ht)]; exact sm b o nb h⟩
          unfold wrN
          rw [vt (Sum.inl j)]
          by_cases c : j = k
          · subst c
            rw [if_pos rfl, if_pos rfl]
            rfl
          · rw [if_neg c, if_neg (fun z => c (Sum.inl.inj z))]
        have ep1 : L2.upd H1 t (.tup [V.int k, V.int 0]) p = some (.dK kvs) := by rw [upd_ne npt]; exact ep
        refine ⟨_, rfl, p, rfl, .inl ⟨kvs, .inl ep1⟩, _, rfl, kvs, Sum.inl k, ep1, rfl, fun u hu2 => fin _ (bk.drop k), fun hn => ?_⟩
        have b0 : Bk kvs (fun j => if j = k then none else wrN f (ke.take i) j) := bk.congr fun j => by
          by_cases c : j = k
          · subst c
            rw [if_pos rfl]
            have z := bk.val j
            rw [hn] at z
            cases q1 : wrN f (ke.take i) j with
            | none => rfl
            | some u => rw [q1] at z; cases z
          · rw [if_neg c]
        have := fin kvs b0
        rw [show L2.upd (L2.upd H1 t (.tup [V.int k, V.int 0])) p (.dK kvs) = L2.upd H1 t (.tup [V.int k, V.int 0]) from by
          funext b
          by_cases c : b = p
          · rw [c, upd_same]; exact ep1.symm
          · rw [upd_ne c]] at this
        exact this
      · have hv : v ≠ 0 := fun z => by
          exact h (decide_eq_true (by rw [z]))
        have ep1 : L2.upd H1 t (.tup [V.int k, V.int v]) p = some (.dK kvs) := by rw [upd_ne npt]; exact ep
        refine ⟨_, rfl, _, rfl, _, rfl, p, _, rfl, DPut.k (k := Sum.inl k) ep1 (szl (by omega)), ?_⟩
        refine ⟨some (V.int k), some (V.int v), _, rfl, upd_same, (bk.put k v).congr fun j => ?_, by rw [upd_ne npe.symm, upd_ne net]; exact efz, fun b o nb h => by rw [upd_ne (ne_of_none h hp), upd_ne (ne_of_none (sm b o nb h) ht)]; exact sm b o nb h⟩
        unfold wrN
        rw [vt (Sum.inl j)]
        by_cases c : j = k
        · subst c
          rw [if_pos rfl, if_pos rfl]
          show some v = if v = 0 then none else some v
          rw [if_neg hv]
        · rw [if_neg c, if_neg (fun z => c (Sum.inl.inj z))]
    · rintro σ H' ⟨y, z, kvs, rfl, ep, bk, efz, sm⟩
      refine ⟨efz, _, rfl, q _ p (fun b o h => ?_) hp ⟨kvs, by rw [upd_ne npe]; exact ep, bk.congr fun k => ?_⟩⟩
      · by_cases c : b = e
        · subst c
          rw [upd_same]
          rw [ee] at h
          exact h
        · rw [upd_ne c]
          exact sm b o c h
      · unfold wrN wr
        rw [List.take_length, be.val k]
        cases g k <;> rfl
theorem ok_changes (T : Txt K mg) (G_value_at : FnOk P w K mg base CX0 1 T.f_value_at T.fd_value_at ["book", "place"] sp_value_at) : FnOk P w K mg base CX0 2 T.f_changes T.fd_changes ["base", "book"] sp_changes := by
  refine T.F_changes.ok sc_changes (fun vs H Q E h => ?_) (fun cdv A outer s H vs Q E hr h => ?_)
  · obtain ⟨d, e, f, g, U, rfl, _⟩ := h
    rfl
  · obtain ⟨d, e, f, g, U, rfl, ⟨kd, ed, bd⟩, ⟨ke, ee, be⟩, uf, ug, hU, q⟩ := h
    obtain ⟨ks, k1, k2, k3, k4⟩ := bd.keys
    obtain ⟨ls, l1, l2, l3, l4⟩ := be.keys
    have lk : ks.length < 64 := by
      have := bd.le uf
      omega
    have ll : ls.length < 64 := by
      have := be.le ug
      omega
    refine ⟨_, (pss_cons (ps_set (i := 2) sc_changes.nd rfl (Or.inl rfl) (pe_callB (cr_sortedSet rfl) (by rfl) T.z_sorted (by decide +kernel) (pa_cons (pe_op SuP.op_setOr (pe_callTy SuP.cr_setD (by rfl) T.z_set (by decide +kernel) (pa_cons (pv 0) pa_nil)) (pe_callTy SuP.cr_setD (by rfl) T.z_set (by decide +kernel) (pa_cons (pv 1) pa_nil))) pa_nil)))
      (pss_one (ps_ret (pe_dc (own := [("place", 3)]) (g := gName 3) rfl sc_changes.nd (pi_list (pv 2)) (blkOk_by (own := [("place", 3)]) (N := N_changes) (sc := defScope s_changes) (by decide +kernel)) (fun _ _ _ _ _ => (pg_name (i := 3) sc_changes.nd rfl (Or.inl rfl))) (fun _ _ _ _ _ => (pts_one (pt_cmpR op_ne (pe_call G_value_at (hr.mono (by omega)) (by rfl) T.g_value_at T.F_value_at.kp T.b_value_at .nil pass0 (pa_cons (pv 0) (pa_cons (pv 3) pa_nil))) (pe_call G_value_at (hr.mono (by omega)) (by rfl) T.g_value_at T.F_value_at.kp T.b_value_at .nil pass0 (pa_cons (pv 1) (pa_cons (pv 3) pa_nil))) (nomark _)))) (fun _ _ _ _ _ => (pv 3)) (fun _ _ _ _ _ => (pe_call G_value_at (hr.mono (by omega)) (by rfl) T.g_value_at T.F_value_at.kp T.b_value_at .nil pass0 (pa_cons (pv 1) (pa_cons (pv 3) pa_nil)))))))), ?_⟩
    refine ⟨_, rfl, d, kd, ks, rfl, .inl ed, k1, by omega, fun p1 S1 n1 hp1 m1 z1 => ?_⟩
    have s1 : Same H (L2.upd H p1 (SetO w p1 S1 n1)) := Same.new hp1
    refine ⟨_, rfl, e, ke, ls, rfl, .inl (s1 _ _ ee), l1, by omega, fun p2 S2 n2 hp2 m2 z2 => ?_⟩
    have s2 := s1.trans (Same.new (o := SetO w p2 S2 n2) hp2)
    have n12 : p1 ≠ p2 := ne_of_none upd_same hp2
    refine ⟨p1, p2, S1, S2, n1, n2, rfl, rfl, (Same.new hp2) _ _ upd_same, upd_same, n12, by omega, fun p3 S3 n3 hp3 m3 z3 => ?_⟩
    have s3 := s2.trans (Same.new (o := SetO w p3 S3 n3) hp3)
    have mU : ∀ k, S3 k = true ↔ (f k).isSome = true ∨ (g k).isSome = true := fun k => by rw [m3 k, m1 k, m2 k, k4 k, l4 k]
    have hn3 : n3 < 64 := by
      have := z3 U fun k hk => ((mU k).1 hk).elim (uf k) (ug k)
      omega
    refine ⟨p3, S3, n3, rfl, upd_same, hn3, fun ns p4 srt mem len hp4 => ?_⟩
    have s4 := s3.trans (Same.new (o := .lst (ns.map V.int)) hp4)
    have ndn : ns.Nodup := List.Pairwise.imp (fun h => Int.ne_of_lt h) srt
    refine ⟨_, rfl, p4, rfl, ⟨_, SqL.of upd_same⟩, fun D hD => ?_⟩
    have s5 := s4.trans (Same.new (o := .dK []) hD)
    have n4D : p4 ≠ D := ne_of_none upd_same hD
    have hDH : H D = none := s4.free hD
    refine dc_it (walk_list (xs := ns.map V.int)) (fun i H' => ∃ kvs, H' D = some (.dK kvs) ∧ Bk kvs (fun k => if k ∈ ns.take i then ch f g k else none) ∧ H' p4 = some (.lst (ns.map V.int)) ∧ Same H H')
      ⟨[], upd_same, Bk.nil.congr fun k => by simp, (Same.new hD) _ _ upd_same, s5⟩ (fun i H' _ h => let ⟨_, _, _, h, _⟩ := h; SqL.of h) ?_ ?_
    · rintro i x H1 H2 hi ⟨kvs, eD, bk, e4, sm⟩ ⟨rfl, hx⟩
      rw [List.getElem?_map] at hx
      obtain ⟨k, hk, rfl⟩ := Option.map_eq_some_iff.mp hx
      have tk : ∀ j, j ∈ ns.take (i + 1) ↔ j ∈ ns.take i ∨ j = k := fun j => by
        rw [List.take_add_one, hk, List.mem_append]
        show _ ∨ j ∈ [k] ↔ _
        rw [List.mem_singleton]
      have nk : k ∉ ns.take i := fun z => by
        have hl := (List.getElem?_eq_some_iff.mp hk).1
        have e2 : ns.drop i = k :: ns.drop (i + 1) := by
          rw [List.drop_eq_getElem_cons hl]
          congr 1
          exact (List.getElem?_eq_some_iff.mp hk).2
        have := ndn
        rw [← List.take_append_drop i ns, e2] at this
        exact absurd rfl ((List.nodup_append.mp this).2.2 _ z _ List.mem_cons_self)
      have lenB : kvs.length ≤ ns.length := bk.le fun j hj => by
        by_cases c : j ∈ ns.take i
        · exact List.mem_of_mem_take c
        · rw [if_neg c] at hj
          cases hj
      have atd : At H2 d f := ⟨kd, sm _ _ ed, bd⟩
      have ate : At H2 e g := ⟨ke, sm _ _ ee, be⟩
      refine ⟨rfl, _, rfl, _, rfl, d, f, k, rfl, atd, _, rfl, _, rfl, e, g, k, rfl, ate, rfl, _, rfl, ?_⟩
      refine ite2 (fun h => ?_) (fun h => ?_)
      · have hne : gv f k ≠ gv g k := fun z => by
          rw [z] at h
          simp at h
        refine ⟨_, rfl, _, rfl, _, rfl, e, g, k, rfl, ate, kvs, Sum.inl k, rfl, eD, szl (by omega), _, upd_same, (bk.put k (gv g k)).congr fun j => ?_, by rw [upd_ne n4D]; exact e4, fun b o hb => by rw [upd_ne (ne_of_none hb hDH)]; exact sm b o hb⟩
        by_cases c : j = k
        · subst c
          rw [if_pos rfl, if_pos ((tk j).2 (.inr rfl))]
          unfold ch
          rw [if_neg hne]
        · rw [if_neg c]
          by_cases c2 : j ∈ ns.take i
          · rw [if_pos c2, if_pos ((tk j).2 (.inl c2))]
          · rw [if_neg c2, if_neg (fun z => ((tk j).1 z).elim c2 c)]
      · have heq : gv f k = gv g k := by
          have z : (!decide (V.int (gv f k) = V.int (gv g k))) = false := by simpa using h
          have z2 : V.int (gv f k) = V.int (gv g k) := by simpa using z
          exact V.int.inj z2
        refine ⟨kvs, eD, bk.congr fun j => ?_, e4, sm⟩
        by_cases c : j = k
        · subst c
          rw [if_neg nk, if_pos ((tk j).2 (.inr rfl))]
          unfold ch
          rw [if_pos heq]
        · by_cases c2 : j ∈ ns.take i
          · rw [if_pos c2, if_pos ((tk j).2 (.inl c2))]
          · rw [if_neg c2, if_neg (fun z => ((tk j).1 z).elim c2 c)]
    · rintro H' ⟨kvs, eD, bk, e4, sm⟩
      refine q H' D sm hDH ⟨kvs, eD, bk.congr fun k => ?_⟩
      rw [List.length_map, List.take_length]
      by_cases c : k ∈ ns
      · rw [if_pos c]
      · rw [if_neg c]
        have z : ¬ ((f k).isSome = true ∨ (g k).isSome = true) := fun z => c ((mem k).2 ((mU k).2 z))
        unfold ch gv
        cases h1 : f k with
        | some v => exact absurd (.inl (by rw [h1]; rfl)) z
        | none =>
          cases h2 : g k with
          | some v => exact absurd (.inr (by rw [h2]; rfl)) z
          | none => rw [if_pos rfl]
end
theorem _root_.L2.Fun.okC {P : Program} {w : World} {K : PySem.W.Frag} {mg : Str → Option Value} {base : Heap} {x qual : Str} {st : Stmt} {f : Addr} {fd : FuncData} {N ps : List Str} {k : Nat} {sp : Sp} (F : Fun K x qual st f fd) {c : Addr} (hc : fd.code = .ref c) (S : FnScope N ps (defScope st)) (len : ∀ vs H Q E, sp vs H Q E → vs.length = ps.length)
    (hbody : ∀ (A : Around) (outer : List Env) (s : Shared) (H : Hp) (vs : List V) (Q : VK) (E : XK), Room k (A.deeper (envOfC qual (defScope st) s.heap.objs.size f (.ref c))) → sp vs H Q E →
      ∃ t, PSs (cxOf CX0 P w K mg base N qual (defScope st) f (.ref c) A outer s H E).nox (defBody st) t ∧ t { nx := fun _ H' => Q .non H', rt := Q } (start N vs) H) : FnOk P w K mg base CX0 (k + 1) f fd ps sp := by
  obtain ⟨oc, od, kV, doc, pm, an, cdv, ct, osl, rfl, lk, hcd⟩ := F.ex
  have e : cdv = .ref c := hc
  subst e
  refine fn_of lk hcd S len fun A outer s H vs Q E hr hsp => ?_
  obtain ⟨t, h, q⟩ := hbody A outer s H vs Q E hr hsp
  exact ⟨t, h.nox, q⟩
theorem At.tab {H H' : Hp} {d tb : Addr} {f : Int → Option Int} (a : At H d f) (t : TabG H tb) (h : Tabbed tb H H') : At H' d f := by
  obtain ⟨kvs, e, b⟩ := a
  obtain ⟨ps, ht, _⟩ := t
  have n : d ≠ tb := fun z => by rw [z, ht] at e; cases e
  exact ⟨kvs, by rw [h.2 d n]; exact e, b⟩
theorem Mk.tab {H H' : Hp} {tb : Addr} {m : Addr × Int × Int} (a : Mk H m) (t : TabG H tb) (h : Tabbed tb H H') : Mk H' m := by
  obtain ⟨ps, ht, _⟩ := t
  have n : m.1 ≠ tb := fun z => by
    have a' : H m.1 = _ := a
    rw [z, ht] at a'
    cases a'
  show H' m.1 = _
  rw [h.2 m.1 n]
  exact a
theorem sqL_tab {K : PySem.W.Frag} {H H' : Hp} {l tb : Addr} {xs : List V} (a : SqL K H l xs) (t : TabG H tb) (h : Tabbed tb H H') : SqL K H' l xs := by
  obtain ⟨ps, ht, _⟩ := t
  have n : ∀ u, H l = some u → (∀ q, u ≠ .tbl q) → l ≠ tb := fun u e nq z => by
    rw [z, ht] at e
    exact nq ps (Option.some.inj e).symm
  rcases a with (a | ⟨o, a⟩) | a
  · exact .inl (.inl (by rw [h.2 l (n _ a (fun q z => by cases z))]; exact a))
  · exact .inl (.inr ⟨o, by rw [h.2 l (n _ a (fun q z => by cases z))]; exact a⟩)
  · exact .inr a
theorem sqT_tab {K : PySem.W.Frag} {H H' : Hp} {l tb : Addr} {xs : List V} (a : SqT K H l xs) (t : TabG H tb) (h : Tabbed tb H H') : SqT K H' l xs := by
  obtain ⟨ps, ht, _⟩ := t
  have n : ∀ u, H l = some u → (∀ q, u ≠ .tbl q) → l ≠ tb := fun u e nq z => by
    rw [z, ht] at e
    exact nq ps (Option.some.inj e).symm
  rcases a with (a | ⟨o, a⟩) | a
  · exact .inl (.inl (by rw [h.2 l (n _ a (fun q z => by cases z))]; exact a))
  · exact .inl (.inr ⟨o, by rw [h.2 l (n _ a (fun q z => by cases z))]; exact a⟩)
  · exact .inr a
section
variable {P : Program} {w : World} {K : PySem.W.Frag} {mg : Str → Option Value} {base : Heap}
theorem all_take {f : Int → Option Int} {ms : List (Addr × Int × Int)} {i : Nat} {m : Addr × Int × Int} (h : ms[i]? = some m) : (ms.take (i + 1)).all (fun m => decide (gv f m.2.1 = m.2.2)) = ((ms.take i).all (fun m => decide (gv f m.2.1 = m.2.2)) && decide (gv f m.2.1 = m.2.2)) := by
  rw [List.take_add_one, h, List.all_append]
  congr 1
  show List.all [m] _ = _
  rw [List.all_cons, List.all_nil, Bool.and_true]
theorem all_false {f : Int → Option Int} {ms : List (Addr × Int × Int)} {i : Nat} {m : Addr × Int × Int} (h : ms[i]? = some m) (hf : decide (gv f m.2.1 = m.2.2) = false) : ms.all (fun m => decide (gv f m.2.1 = m.2.2)) = false := by
  rw [Bool.eq_false_iff]
  intro z
  have := List.all_eq_true.mp z m (List.mem_of_getElem? h)
  rw [hf] at this
  cases this
theorem ok_holds {tb c : Addr} (TB : TabB base mg c tb) (T : Txt K mg) (hc : T.fd_holds.code = .ref c) (G_value_at : FnOk P w K mg base CX0 1 T.f_value_at T.fd_value_at ["book", "place"] sp_value_at) : FnOk P w K mg base CX0 3 T.f_holds T.fd_holds ["book", "marks"] (sp_holds K tb) := by
  refine T.F_holds.okC hc sc_holds (fun vs H Q E h => ?_) (fun A outer s H vs Q E hr h => ?_)
  · obtain ⟨d, l, f, ms, rfl, _⟩ := h
    rfl
  · obtain ⟨d, l, f, ms, rfl, ad, hl, hm, ht, q⟩ := h
    rcases hl with hl | hl
    · refine ⟨_, (pss_one (ps_ret (GxP.pe_allG (k := 1) (own := [("place", 2), ("value", 3)]) (g := gTup K 2 (gCons (gName 2) (gCons (gName 3) gNil))) (tt := tYes) (hr.mono (by omega)) (by rfl) T.z_all (by decide +kernel) TB rfl rfl sc_holds.nd ⟨rfl, by decide +kernel, rfl⟩ (blkOk_by (own := [("place", 2), ("value", 3)]) (N := N_holds) (sc := defScope s_holds) (by decide +kernel)) (pi_list (pv 1)) (fun _ _ _ _ _ _ hr => (pg_tup (by rfl) (pgs_cons (pg_name (i := 2) sc_holds.nd rfl (Or.inl rfl)) (pgs_cons (pg_name (i := 3) sc_holds.nd rfl (Or.inl rfl)) pgs_nil)))) (fun _ _ _ _ _ _ hr => pts_nil) (fun _ _ _ _ _ _ hr => (pe_cmpR op_eq (pe_call G_value_at (hr.mono (by omega)) (by rfl) T.g_value_at T.F_value_at.kp T.b_value_at .nil pass0 (pa_cons (pv 0) (pa_cons (pv 2) pa_nil))) (pv 3) (nomark _)))))), ?_⟩
      refine ⟨_, rfl, l, rfl, ⟨_, hl⟩, ht, fun H1 tH => ?_⟩
      refine gx_it (walk_list (xs := ms.map fun m => V.ref m.1)) (fun i H' => H' = H1 ∧ (ms.take i).all (fun m => decide (gv f m.2.1 = m.2.2)) = true) ⟨rfl, rfl⟩ (fun i H' _ h => by rw [h.1]; exact sqL_tab hl ht tH) ?_ ?_
      · rintro i x H2 H3 hi ⟨rfl, ha⟩ ⟨rfl, hx⟩
        rw [List.getElem?_map] at hx
        obtain ⟨m, hmi, rfl⟩ := Option.map_eq_some_iff.mp hx
        have mk := (hm m (List.mem_of_getElem? hmi)).tab ht tH
        refine ⟨m.1, _, rfl, .inl (.inl mk), rfl, _, _, rfl, _, _, rfl, rfl, rfl, _, rfl, _, rfl, d, f, m.2.1, rfl, ad.tab ht tH, _, rfl, rfl, _, rfl, fun h0 => ?_, fun h0 => ⟨rfl, ?_⟩⟩
        · have hf : decide (gv f m.2.1 = m.2.2) = false := by
            rw [← h0]
            simp
          have z := q _ tH
          rw [all_false hmi hf] at z
          exact z
        · rw [all_take hmi, ha, Bool.true_and]
          have z : decide (V.int (gv f m.2.1) = V.int m.2.2) = true := by simpa using h0
          simpa using z
      · rintro H2 ⟨rfl, ha⟩
        have z := q _ tH
        rw [List.length_map, List.take_length] at ha
        rw [ha] at z
        exact z
    · refine ⟨_, (pss_one (ps_ret (GxP.pe_allG (k := 1) (own := [("place", 2), ("value", 3)]) (g := gTup K 2 (gCons (gName 2) (gCons (gName 3) gNil))) (tt := tYes) (hr.mono (by omega)) (by rfl) T.z_all (by decide +kernel) TB rfl rfl sc_holds.nd ⟨rfl, by decide +kernel, rfl⟩ (blkOk_by (own := [("place", 2), ("value", 3)]) (N := N_holds) (sc := defScope s_holds) (by decide +kernel)) (pi_tup (pv 1)) (fun _ _ _ _ _ _ hr => (pg_tup (by rfl) (pgs_cons (pg_name (i := 2) sc_holds.nd rfl (Or.inl rfl)) (pgs_cons (pg_name (i := 3) sc_holds.nd rfl (Or.inl rfl)) pgs_nil)))) (fun _ _ _ _ _ _ hr => pts_nil) (fun _ _ _ _ _ _ hr => (pe_cmpR op_eq (pe_call G_value_at (hr.mono (by omega)) (by rfl) T.g_value_at T.F_value_at.kp T.b_value_at .nil pass0 (pa_cons (pv 0) (pa_cons (pv 2) pa_nil))) (pv 3) (nomark _)))))), ?_⟩
      refine ⟨_, rfl, l, rfl, ⟨_, hl⟩, ht, fun H1 tH => ?_⟩
      refine gx_it (walk_tup (xs := ms.map fun m => V.ref m.1)) (fun i H' => H' = H1 ∧ (ms.take i).all (fun m => decide (gv f m.2.1 = m.2.2)) = true) ⟨rfl, rfl⟩ (fun i H' _ h => by rw [h.1]; exact sqT_tab hl ht tH) ?_ ?_
      · rintro i x H2 H3 hi ⟨rfl, ha⟩ ⟨rfl, hx⟩
        rw [List.getElem?_map] at hx
        obtain ⟨m, hmi, rfl⟩ := Option.map_eq_some_iff.mp hx
        have mk := (hm m (List.mem_of_getElem? hmi)).tab ht tH
        refine ⟨m.1, _, rfl, .inl (.inl mk), rfl, _, _, rfl, _, _, rfl, rfl, rfl, _, rfl, _, rfl, d, f, m.2.1, rfl, ad.tab ht tH, _, rfl, rfl, _, rfl, fun h0 => ?_, fun h0 => ⟨rfl, ?_⟩⟩
        · have hf : decide (gv f m.2.1 = m.2.2) = false := by
            rw [← h0]
            simp
          have z := q _ tH
          rw [all_false hmi hf] at z
          exact z
        · rw [all_take hmi, ha, Bool.true_and]
          have z : decide (V.int (gv f m.2.1) = V.int m.2.2) = true := by simpa using h0
          simpa using z
      · rintro H2 ⟨rfl, ha⟩
        have z := q _ tH
        rw [List.length_map, List.take_length] at ha
        rw [ha] at z
        exact z
end
theorem cut_lo (xs : List V) (k : Nat) (h : k ≤ xs.length) : cutV xs none (some (k : Int)) = xs.take k := by
  unfold cutV
  rw [HT.sIx_none, HT.sIx_nat, List.drop_zero, Nat.sub_zero, Nat.min_eq_left h]
theorem cut_hi (xs : List V) (k : Nat) (h : k ≤ xs.length) : cutV xs (some (k : Int)) none = xs.drop k := by
  unfold cutV
  rw [HT.sIx_none, HT.sIx_nat, Nat.min_eq_left h]
  refine List.take_of_length_le ?_
  rw [List.length_drop]
  exact Nat.le_refl _
def sp_choose (K : PySem.W.Frag) : Sp := fun vs H Q _ => ∃ (a l : Addr) (xs : List V) (c : Nat), vs = [.ref a, .ref l, .int c] ∧ Box H a ∧ SqL K H l xs ∧ (l ≠ a) ∧ xs.length ≤ 1000 ∧
  ∀ (H' : Hp) (p : Addr) (ys : List V), But a H H' → H p = none → H' p = some (.lst ys) → (∀ y ∈ ys, y ∈ xs) → ys.length ≤ xs.length → Q (.ref p) H'
def sp_places : Sp := fun vs H Q _ => ∃ (a : Addr) (n : Nat), vs = [.ref a, .int n] ∧ Box H a ∧ n ≤ 12 ∧
  ∀ (H' : Hp) (p : Addr) (ps : List Int), But a H H' → H p = none → H' p = some (.lst (ps.map V.int)) → ps.length = n → (∀ k ∈ ps, k < 200) → Q (.ref p) H'
def sp_is_book : Sp := fun vs H Q _ => ∃ (d : Addr) (f : Int → Option Int), vs = [.ref d] ∧ At H d f ∧ Q (.bl true) H
def sp_copy : Sp := fun vs H Q _ => ∃ (d : Addr) (f : Int → Option Int) (U : List Int), vs = [.ref d] ∧ At H d f ∧ In f U ∧ U.length ≤ 1000 ∧ ∀ (H' : Hp) (p : Addr), Same H H' → H p = none → At H' p f → Q (.ref p) H'
def sp_value : Sp := fun vs H Q _ => ∃ a : Addr, vs = [.ref a] ∧ Box H a ∧ ∀ (v : Int) (H' : Hp), 0 ≤ v → But a H H' → (∀ b, b ≠ a → H' b = H b) → Q (.int v) H'
theorem sqL_but {K : PySem.W.Frag} {H H' : Hp} {l a : Addr} {xs : List V} (x : SqL K H l xs) (n : l ≠ a) (h : ∀ b o, b ≠ a → H b = some o → H' b = some o) : SqL K H' l xs := by
  rcases x with (x | ⟨o, x⟩) | x
  · exact .inl (.inl (h _ _ n x))
  · exact .inl (.inr ⟨o, h _ _ n x⟩)
  · exact .inr x
section
variable {P : Program} {w : World} {K : PySem.W.Frag} {mg : Str → Option Value} {base : Heap}
theorem ok_open (T : Txt K mg) : FnOk P w K mg base CX0 1 T.f_open T.fd_open ["_law_script", "_law_at"] (sp_open K) := by
  refine T.F_open.ok sc_open (fun vs H Q E h => ?_) (fun cdv A outer s H vs Q E hr h => ?_)
  · obtain ⟨a, ns, i, rfl, _⟩ := h
    rfl
  · obtain ⟨a, ns, i, rfl, hS, q⟩ := h
    refine ⟨_, (pss_cons (ps_set (i := 2) sc_open.nd rfl (Or.inl rfl) pe_int)
      (pss_cons (ps_if (pt_cmpR op_lt (pv 1) (pe_callB (r := rLenK K) call_len_seq (by rfl) T.z_len PySem.boot_len (pa_cons (pv 0) pa_nil)) (nomark _))
      (pss_one (ps_set (i := 2) sc_open.nd rfl (Or.inl rfl) (pe_ix (r := rIxL K) ix_list (pv 0) (pv 1) (fun _ _ => rfl))))
      pss_nil)
      (pss_cons (ps_if (pt_cmpR op_ge (pv 2) (pe_op op_pow pe_int pe_int) (nomark _))
      (pss_one (ps_ret (pe_lst (pa_cons pe_int (pa_cons (pe_op op_sub (pv 2) (pe_op op_pow pe_int pe_int)) (pa_cons pe_int pa_nil))))))
      pss_nil)
      (pss_one (ps_ret (pe_lst (pa_cons pe_int (pa_cons (pv 2) (pa_cons pe_int pa_nil))))))))), ?_⟩
    refine ⟨_, rfl, _, rfl, a, _, rfl, .inl hS, _, _, rfl, rfl, _, rfl, ?_⟩
    refine ite2 (fun h => ?_) (fun h => ?_)
    · have hi : i < ns.length := by
        have h1 := of_decide_eq_true h
        rw [List.length_map] at h1
        omega
      have g : (ns.map V.int)[i]? = some (.int ns[i]) := by
        rw [List.getElem?_map, List.getElem?_eq_getElem hi]
        rfl
      refine ⟨_, rfl, _, rfl, a, _, _, _, rfl, rfl, hS, atI_nat g, ?_⟩
      refine ⟨_, rfl, _, _, rfl, rfl, ⟨by decide, by decide, by decide⟩, _, _, rfl, rfl, _, rfl, ?_⟩
      refine ite2 (fun h2 => ?_) (fun h2 => ?_)
      · refine ⟨_, rfl, _, _, rfl, rfl, ⟨by decide, by decide, by decide⟩, _, _, rfl, rfl, sz (by show 3 ≤ 100000; decide), fun p hp => ?_⟩
        exact q p _ hp ⟨_, _, _, rfl⟩
      · refine ⟨_, rfl, sz (by show 3 ≤ 100000; decide), fun p hp => ?_⟩
        exact q p _ hp ⟨_, _, _, rfl⟩
    · refine ⟨_, rfl, _, _, rfl, rfl, ⟨by decide, by decide, by decide⟩, _, _, rfl, rfl, _, rfl, ?_⟩
      refine ite2 (fun h2 => ?_) (fun h2 => ?_)
      · refine ⟨_, rfl, _, _, rfl, rfl, ⟨by decide, by decide, by decide⟩, _, _, rfl, rfl, sz (by show 3 ≤ 100000; decide), fun p hp => ?_⟩
        exact q p _ hp ⟨_, _, _, rfl⟩
      · refine ⟨_, rfl, sz (by show 3 ≤ 100000; decide), fun p hp => ?_⟩
        exact q p _ hp ⟨_, _, _, rfl⟩
theorem ok_take (T : Txt K mg) : FnOk P w K mg base CX0 1 T.f_take T.fd_take ["_law_box", "_law_size"] sp_take := by
  refine T.F_take.ok sc_take (fun vs H Q E h => ?_) (fun cdv A outer s H vs Q E hr h => ?_)
  · obtain ⟨a, n, rfl, _⟩ := h
    rfl
  · obtain ⟨a, n, rfl, hB, hn, hn2, q⟩ := h
    obtain ⟨t, c, k, ho⟩ := hB.lst
    refine ⟨_, (pss_cons (ps_if (pt_cmpR op_eq (pe_ix (r := rIxL K) ix_list (pv 0) pe_int (fun _ _ => rfl)) pe_int (nomark _))
      (pss_cons (ps_set (i := 2) sc_take.nd rfl (Or.inl rfl) (pe_op op_mod (pe_callTy call_int1 (by rfl) T.z_int (by decide +kernel) (pa_cons (pe_ix (r := rIxL K) ix_list (pv 0) pe_int (fun _ _ => rfl)) pa_nil)) (pv 1)))
        (pss_cons (ps_asg (pe_op op_fdiv (pe_callTy call_int1 (by rfl) T.z_int (by decide +kernel) (pa_cons (pe_ix (r := rIxL K) ix_list (pv 0) pe_int (fun _ _ => rfl)) pa_nil)) (pv 1)) (pg_sub (pv 0) pe_int set_list))
        (pss_one (ps_ret (pv 2)))))
      pss_nil)
      (pss_cons (ps_set (i := 3) sc_take.nd rfl (Or.inl rfl) (pe_ix (r := rIxL K) ix_list (pv 0) pe_int (fun _ _ => rfl)))
      (pss_cons (ps_asg (pe_op op_add (pv 3) pe_int) (pg_sub (pv 0) pe_int set_list))
      (pss_cons (ps_set (i := 4) sc_take.nd rfl (Or.inl rfl) (pe_op op_mod (pe_callTy call_int1 (by rfl) T.z_int (by decide +kernel) (pa_cons (pe_op op_add (pe_op op_add (pe_ix (r := rIxL K) ix_list (pv 0) pe_int (fun _ _ => rfl)) (pe_op op_mul pe_int (pv 3))) pe_int) pa_nil)) pe_int))
      (pss_cons (ps_set (i := 4) sc_take.nd rfl (Or.inl rfl) (pe_op op_mod (pe_callTy call_int1 (by rfl) T.z_int (by decide +kernel) (pa_cons (pe_op op_mul (pv 4) (pe_op op_add (pv 4) pe_int)) pa_nil)) pe_int))
      (pss_cons (ps_set (i := 4) sc_take.nd rfl (Or.inl rfl) (pe_op op_mod (pe_callTy call_int1 (by rfl) T.z_int (by decide +kernel) (pa_cons (pe_op op_add (pe_op op_mul (pv 4) (pe_op op_add (pv 4) pe_int)) (pe_op op_mul pe_int (pv 3))) pa_nil)) pe_int))
      (pss_one (ps_ret (pe_op op_mod (pe_callTy call_int1 (by rfl) T.z_int (by decide +kernel) (pa_cons (pe_op op_fdiv (pv 4) pe_int) pa_nil)) (pv 1)))))))))), ?_⟩
    refine ⟨_, rfl, a, _, 0, _, rfl, rfl, SqL.of ho, rfl, rfl, _, rfl, ?_⟩
    refine ite2 (fun h => ?_) (fun h => ?_)
    · refine ⟨_, rfl, a, _, 1, _, rfl, rfl, SqL.of ho, rfl, .inl ⟨_, rfl, _, rfl, _, _, rfl, rfl, hn, ?_⟩⟩
      refine ⟨_, rfl, a, _, 1, _, rfl, rfl, SqL.of ho, rfl, .inl ⟨_, rfl, _, rfl, _, _, rfl, rfl, ⟨hn, hn2⟩, ?_⟩⟩
      refine ⟨_, rfl, a, _, 1, 1, rfl, rfl, ho, rfl, ?_⟩
      refine ⟨_, rfl, ?_⟩
      exact q _ _ (Int.emod_nonneg _ (by omega)) (Int.emod_lt_of_pos _ hn) (But.upd ⟨_, _, _, rfl⟩) fun b hb => upd_ne hb
    · refine ⟨_, rfl, a, _, 2, _, rfl, rfl, SqL.of ho, rfl, ?_⟩
      refine ⟨_, rfl, _, _, rfl, rfl, _, rfl, a, _, 2, 2, rfl, rfl, ho, rfl, ?_⟩
      refine ⟨_, rfl, a, _, 1, _, rfl, rfl, SqL.of upd_same, rfl, _, rfl, _, _, rfl, rfl, .inl ⟨by decide, by decide⟩, _, _, rfl, rfl, _, _, rfl, rfl, .inl ⟨_, rfl, _, _, rfl, rfl, (by decide : (0 : Int) < 2147483647), ?_⟩⟩
      refine ⟨_, rfl, _, rfl, _, _, rfl, rfl, _, _, rfl, rfl, .inl ⟨by omega, by omega⟩, .inl ⟨_, rfl, _, _, rfl, rfl, (by decide : (0 : Int) < 2147483629), ?_⟩⟩
      refine ⟨_, rfl, _, rfl, _, _, rfl, rfl, _, _, rfl, rfl, .inl ⟨by omega, by omega⟩, _, rfl, _, _, rfl, rfl, .inl ⟨by decide, by decide⟩, _, _, rfl, rfl, .inl ⟨_, rfl, _, _, rfl, rfl, (by decide : (0 : Int) < 2147483647), ?_⟩⟩
      refine ⟨_, rfl, _, _, rfl, rfl, ⟨by decide, by decide⟩, .inl ⟨_, rfl, _, rfl, _, _, rfl, rfl, hn, ?_⟩⟩
      exact q _ _ (Int.emod_nonneg _ (by omega)) (Int.emod_lt_of_pos _ hn) (But.upd ⟨_, _, _, rfl⟩) fun b hb => upd_ne hb
theorem ok_choose (T : Txt K mg) : FnOk P w K mg base CX0 2 T.f_choose T.fd_choose ["_law_box", "_law_rows", "_law_count"] (sp_choose K) := by
  have G_take : FnOk P w K mg base CX0 1 T.f_take T.fd_take ["_law_box", "_law_size"] sp_take := ok_take T
  refine T.F_choose.ok sc_choose (fun vs H Q E h => ?_) (fun cdv A outer s H vs Q E hr h => ?_)
  · obtain ⟨a, l, xs, c, rfl, _⟩ := h
    rfl
  · obtain ⟨a, l, xs, c, rfl, hB, hl, nla, hz, q⟩ := h
    refine ⟨_, (pss_cons (ps_set (i := 3) sc_choose.nd rfl (Or.inl rfl) (pe_callTy (r := rListK K) call_list_of (by rfl) T.z_list (by decide +kernel) (pa_cons (pv 1) pa_nil)))
      (pss_cons (ps_set (i := 4) sc_choose.nd rfl (Or.inl rfl) (pe_lst pa_nil))
      (pss_cons (ps_for PassesOwn.never rfl (pi_range1 (by rfl) T.z_range (pa_cons (pe_callB (call_min2 rfl) (by rfl) T.z_min (by decide +kernel) (pa_cons (pv 2) (pa_cons (pe_callB (r := rLenK K) call_len_seq (by rfl) T.z_len PySem.boot_len (pa_cons (pv 1) pa_nil)) pa_nil))) pa_nil)) (pg_name (i := 5) sc_choose.nd rfl (Or.inl rfl))
      (pss_cons (ps_set (i := 6) sc_choose.nd rfl (Or.inl rfl) (pe_call G_take (hr.mono (by omega)) (by rfl) T.g_take T.F_take.kp T.b_take .nil pass0 (pa_cons (pv 0) (pa_cons (pe_callB (r := rLenK K) call_len_seq (by rfl) T.z_len PySem.boot_len (pa_cons (pv 3) pa_nil)) pa_nil))))
        (pss_cons (ps_expr (pe_bm PySem.F.plainAttrs_list PySem.F.slot_list_append PySem.F.type_list_append mt_append (pv 4) (pa_cons (pe_ix (r := rIxL K) ix_list (pv 3) (pv 6) (fun _ _ => rfl)) pa_nil)))
        (pss_one (ps_set (i := 3) sc_choose.nd rfl (Or.inl rfl) (pe_op op_cat (pe_slice (r := rSlL K) sl_list (pv 3) po_none (po_some (pv 6))) (pe_slice (r := rSlL K) sl_list (pv 3) (po_some (pe_op op_add (pv 6) pe_int)) po_none)))))))
      (pss_one (ps_ret (pv 4)))))), ?_⟩
    refine ⟨_, rfl, l, xs, rfl, .inl hl, fun r hr1 => ?_⟩
    have s1 : Same H (L2.upd H r (.lst xs)) := Same.new hr1
    refine ⟨Nat.zero_le _, fun h0 hh0 => ?_⟩
    have s2 := s1.trans (Same.new (o := .lst []) hh0)
    have nar : a ≠ r := hB.ne hr1
    have hB2 : Box (L2.upd (L2.upd H r (.lst xs)) h0 (.lst [])) a := let ⟨o, e, z⟩ := hB; ⟨o, s2 _ _ e, z⟩
    have nah : a ≠ h0 := hB.ne (s1.free hh0)
    have hn : ((if (xs.length : Int) < (c : Int) then (xs.length : Int) else (c : Int))) = ((min c xs.length : Nat) : Int) := by
      split <;> omega
    refine ⟨_, rfl, _, rfl, l, xs, rfl, .inl (sqL_but (a := a) hl nla fun b o _ e => s2 b o e), _, _, rfl, ?_⟩
    rw [hn]
    refine ⟨_, rfl, by omega, by omega, for_range (fun i σ H' => ∃ (y5 y6 : Option V) (r : Addr) (rest ys : List V), σ = [some (.ref a), some (.ref l), some (.int c), some (.ref r), some (.ref h0), y5, y6] ∧ But a H H' ∧ a ≠ r ∧ r ≠ h0 ∧ H' r = some (.lst rest) ∧ rest.length + i = xs.length ∧ (∀ y ∈ rest, y ∈ xs) ∧ H' h0 = some (.lst ys) ∧ ys.length = i ∧ ∀ y ∈ ys, y ∈ xs)
      ⟨none, none, r, xs, [], rfl, ⟨fun b o _ e => s2 b o e, hB2⟩, nar, (ne_of_none upd_same hh0), (Same.new hh0) _ _ upd_same, rfl, fun y h => h, upd_same, rfl, fun y h => by cases h⟩ ?_ ?_⟩
    · rintro i σ H1 hi ⟨y5, y6, r, rest, ys, rfl, B1, nar, nrh, er, lr, mr, eh, ly, my⟩
      rw [Int.toNat_natCast] at hi
      have lpos : 0 < rest.length := by omega
      refine ⟨_, rfl, _, rfl, r, rest, rfl, .inl (SqL.of er), a, _, rfl, B1.2, by omega, by omega, fun d H2 d0 d1 B2 K2 => ?_⟩
      obtain ⟨k, rfl⟩ := Int.eq_ofNat_of_zero_le d0
      have hk : k < rest.length := by omega
      have er2 : H2 r = some (.lst rest) := by rw [K2 r nar.symm]; exact er
      have eh2 : H2 h0 = some (.lst ys) := by rw [K2 h0 nah.symm]; exact eh
      have B12 := B1.trans B2
      refine ⟨_, rfl, .inl ⟨rfl, _, SqL.of eh2⟩, _, rfl, _, rfl, r, _, _, rest[k], rfl, rfl, SqL.of er2, atI_nat (List.getElem?_eq_getElem hk), ?_⟩
      refine ⟨h0, ys, rest[k], rfl, rfl, eh2, szl (by omega), ?_⟩
      have e3 : ∀ b o, b ≠ h0 → H2 b = some o → L2.upd H2 h0 (.lst (ys ++ [rest[k]])) b = some o := fun b o n e => by rw [upd_ne n]; exact e
      refine ⟨_, rfl, _, rfl, _, rfl, r, rest, rfl, SqL.of (e3 _ _ nrh er2), fun p1 hp1 => ?_⟩
      have ex1 := Same.new (o := .lst (cutV rest none (some (k : Int)))) hp1
      refine ⟨_, rfl, _, rfl, _, _, rfl, rfl, _, rfl, r, rest, rfl, SqL.of (ex1 _ _ (e3 _ _ nrh er2)), fun p2 hp2 => ?_⟩
      have ex2 := Same.new (o := .lst (cutV rest (some ((k : Int) + 1)) none)) hp2
      have n12 : p1 ≠ p2 := ne_of_none upd_same hp2
      have c1 := cut_lo rest k (by omega)
      have c2 : cutV rest (some ((k : Int) + 1)) none = rest.drop (k + 1) := cut_hi rest (k + 1) (by omega)
      refine ⟨p1, p2, _, _, rfl, rfl, ex2 _ _ upd_same, upd_same, ?_, fun p3 hp3 => ?_⟩
      · rw [c1, c2, List.length_take, List.length_drop]
        exact sz (by omega)
      have ex3 := Same.new (o := .lst (cutV rest none (some (k : Int)) ++ cutV rest (some ((k : Int) + 1)) none)) hp3
      have exx := ex1.trans (ex2.trans ex3)
      have np3a : a ≠ p3 := by
        obtain ⟨o, e, _⟩ := B12.2
        exact ne_of_none (exx _ _ (e3 _ _ nah e) |> fun z => (ex1.trans ex2) _ _ (e3 _ _ nah e)) hp3
      have np3h : p3 ≠ h0 := (ne_of_none ((ex1.trans ex2) _ _ upd_same) hp3).symm
      have hh0H : H h0 = none := s1.free hh0
      refine ⟨some (.int (0 + (i : Int))), some (.int (k : Int)), p3, _, ys ++ [rest[k]], rfl, ⟨fun b o nb e => ?_, ?_⟩, np3a, np3h, upd_same, ?_, fun y hy => ?_, exx _ _ upd_same, by rw [List.length_append, ly]; rfl, fun y hy => ?_⟩
      · exact exx _ _ (e3 _ _ (ne_of_none e hh0H) (B12.1 b o nb e))
      · obtain ⟨o, e, z⟩ := B12.2
        exact ⟨o, exx _ _ (e3 _ _ nah e), z⟩
      · rw [c1, c2, List.length_append, List.length_take, List.length_drop]
        omega
      · rw [c1, c2] at hy
        rcases List.mem_append.mp hy with h | h
        · exact mr y (List.mem_of_mem_take h)
        · exact mr y (List.mem_of_mem_drop h)
      · rcases List.mem_append.mp hy with h | h
        · exact my y h
        · rw [List.mem_singleton.mp h]
          exact mr _ (List.getElem_mem hk)
    · rintro σ H1 ⟨y5, y6, r, rest, ys, rfl, B1, nar, nrh, er, lr, mr, eh, ly, my⟩
      exact ⟨_, rfl, q H1 h0 ys B1 (s1.free hh0) eh my (by omega)⟩
end
def Pos (f : Int → Option Int) : Prop := ∀ k v, f k = some v → 0 < v
def Non (f : Int → Option Int) : Prop := ∀ k v, f k = some v → 0 ≤ v
theorem Pos.gv {f : Int → Option Int} (h : Pos f) (k : Int) : 0 ≤ gv f k := by
  unfold P1.gv
  cases e : f k with
  | none => exact Int.le_refl 0
  | some v => exact Int.le_of_lt (h k v e)
theorem At.ne {H : Hp} {d a : Addr} {f : Int → Option Int} (x : At H d f) (b : Box H a) : d ≠ a := by
  obtain ⟨kvs, e, _⟩ := x
  obtain ⟨t, c, k, e2⟩ := b.lst
  exact ne_of e e2 (fun z => by cases z)
theorem At.but {H H' : Hp} {d a : Addr} {f : Int → Option Int} (x : At H d f) (b : Box H a) (h : But a H H') : At H' d f := by
  have n := x.ne b
  obtain ⟨kvs, e, bk⟩ := x
  exact ⟨kvs, h.1 _ _ n e, bk⟩
theorem At.upd {H : Hp} {d p : Addr} {f : Int → Option Int} {o : HO} (x : At H d f) (n : d ≠ p) : At (L2.upd H p o) d f := by
  obtain ⟨kvs, e, bk⟩ := x
  exact ⟨kvs, by rw [upd_ne n]; exact e, bk⟩
theorem At.no {H : Hp} {d p : Addr} {f : Int → Option Int} (x : At H d f) (n : H p = none) : d ≠ p := by
  obtain ⟨kvs, e, _⟩ := x
  exact ne_of_none e n
theorem At.get {H : Hp} {d : Addr} {f : Int → Option Int} (x : At H d f) (k : Int) : IsD H d ∧ ∃ o, DGet H d (.int k) o ∧ o.getD (V.int 0) = V.int (gv f k) ∧ o.isSome = (f k).isSome ∧ ∀ v, f k = some v → o = some (V.int v) := by
  obtain ⟨kvs, e, b⟩ := x
  refine ⟨.inl ⟨kvs, .inl e⟩, valV kvs (Sum.inl k), DGet.k (k := Sum.inl k) e, ?_, ?_, fun v hv => ?_⟩
  · rw [b.val k]
    unfold P1.gv
    cases f k <;> rfl
  · rw [b.val k]
    cases f k <;> rfl
  · rw [b.val k, hv]
    rfl
theorem back {H : Hp} {d : Addr} {o x : HO} (h : H d = some o) : L2.upd (L2.upd H d x) d o = H := by
  rw [upd_upd]
  funext b
  by_cases c : b = d
  · rw [c, upd_same]
    exact h.symm
  · exact upd_ne c
def sp_first (K : PySem.W.Frag) : Sp := fun vs H Q _ => ∃ (a l : Addr) (ps : List Int), vs = [.ref a, .ref l] ∧ Box H a ∧ SqL K H l (ps.map V.int) ∧ l ≠ a ∧ ps.length ≤ 500 ∧ ∀ (H' : Hp) (p : Addr) (f : Int → Option Int), But a H H' → H p = none → At H' p f → Pos f → In f ps → Q (.ref p) H'
def sp_second (K : PySem.W.Frag) : Sp := fun vs H Q _ => ∃ (a d l : Addr) (g : Int → Option Int) (ps : List Int), vs = [.ref a, .ref d, .ref l] ∧ Box H a ∧ At H d g ∧ SqL K H l (ps.map V.int) ∧ l ≠ a ∧ ps.length ≤ 500 ∧ ∀ (H' : Hp) (p : Addr) (f : Int → Option Int), But a H H' → H p = none → At H' p f → Pos f → In f ps → Q (.ref p) H'
def sp_wanted (K : PySem.W.Frag) : Sp := fun vs H Q _ => ∃ (a d l : Addr) (g : Int → Option Int) (ps : List Int), vs = [.ref a, .ref d, .ref l] ∧ Box H a ∧ At H d g ∧ Pos g ∧ SqL K H l (ps.map V.int) ∧ l ≠ a ∧ ps.length ≤ 500 ∧ ∀ (H' : Hp) (p : Addr) (f : Int → Option Int), But a H H' → H p = none → At H' p f → Non f → In f ps → Q (.ref p) H'
def sp_unlike (K : PySem.W.Frag) : Sp := fun vs H Q _ => ∃ (d e l : Addr) (f g : Int → Option Int) (ps : List Int), vs = [.ref d, .ref e, .ref l] ∧ At H d f ∧ At H e g ∧ SqL K H l (ps.map V.int) ∧ ps.length ≤ 500 ∧ ∀ (H' : Hp) (p : Addr), Same H H' → H p = none → At H' p (fun k => if k ∈ ps then ch f g k else none) → Q (.ref p) H'
def af (f g : Int → Option Int) : Int → Option Int := fun k => let v := match g k with | some v => v | none => gv f k
  if 0 < v then some v else none
def sp_after (K : PySem.W.Frag) : Sp := fun vs H Q _ => ∃ (d e l : Addr) (f g : Int → Option Int) (ps : List Int), vs = [.ref d, .ref e, .ref l] ∧ At H d f ∧ At H e g ∧ SqL K H l (ps.map V.int) ∧ ps.length ≤ 500 ∧ ∀ (H' : Hp) (p : Addr), Same H H' → H p = none → At H' p (fun k => if k ∈ ps then af f g k else none) → Q (.ref p) H'
theorem mem_take {ps : List Int} {i : Nat} {k : Int} (h : ps[i]? = some k) (j : Int) : j ∈ ps.take (i + 1) ↔ j ∈ ps.take i ∨ j = k := by
  rw [List.take_add_one, h, List.mem_append]
  show _ ∨ j ∈ [k] ↔ _
  rw [List.mem_singleton]
theorem int_at {ps : List Int} {i : Nat} {x : V} (h : (ps.map V.int)[i]? = some x) : ∃ k, ps[i]? = some k ∧ x = V.int k := by
  rw [List.getElem?_map] at h
  obtain ⟨k, hk, rfl⟩ := Option.map_eq_some_iff.mp h
  exact ⟨k, hk, rfl⟩
section
variable {P : Program} {w : World} {K : PySem.W.Frag} {mg : Str → Option Value} {base : Heap}
theorem ok_value (T : Txt K mg) : FnOk P w K mg base CX0 2 T.f_value T.fd_value ["_law_box"] sp_value := by
  have G_take : FnOk P w K mg base CX0 1 T.f_take T.fd_take ["_law_box", "_law_size"] sp_take := ok_take T
  refine T.F_value.ok sc_value (fun vs H Q E h => ?_) (fun cdv A outer s H vs Q E hr h => ?_)
  · obtain ⟨a, rfl, _⟩ := h
    rfl
  · obtain ⟨a, rfl, hB, q⟩ := h
    refine ⟨_, (pss_cons (ps_if (pt_cmpR op_eq (pe_call G_take (hr.mono (by omega)) (by rfl) T.g_take T.F_take.kp T.b_take .nil pass0 (pa_cons (pv 0) (pa_cons pe_int pa_nil))) pe_int (nomark _))
      (pss_one (ps_ret (pe_call G_take (hr.mono (by omega)) (by rfl) T.g_take T.F_take.kp T.b_take .nil pass0 (pa_cons (pv 0) (pa_cons pe_int pa_nil)))))
      pss_nil)
      (pss_one (ps_ret (pe_callB (call_max2 rfl) (by rfl) T.z_max (by decide +kernel) (pa_cons pe_int (pa_cons (pe_op op_sub (pe_call G_take (hr.mono (by omega)) (by rfl) T.g_take T.F_take.kp T.b_take .nil pass0 (pa_cons (pv 0) (pa_cons pe_int pa_nil))) pe_int) pa_nil)))))), ?_⟩
    refine ⟨_, rfl, a, _, rfl, hB, by decide, by decide, fun d H1 d0 d1 B1 K1 => ⟨rfl, _, rfl, ite2 (fun h => ?_) (fun h => ?_)⟩⟩
    · refine ⟨_, rfl, a, _, rfl, B1.2, by decide, by decide, fun d H2 d0 d1 B2 K2 => ?_⟩
      exact q d H2 d0 (B1.trans B2) fun b n => by rw [K2 b n, K1 b n]
    · refine ⟨_, rfl, a, _, rfl, B1.2, by decide, by decide, fun d H2 d0 d1 B2 K2 => ⟨_, _, rfl, rfl, _, _, rfl, ?_⟩⟩
      refine q _ H2 ?_ (B1.trans B2) fun b n => by rw [K2 b n, K1 b n]
      split <;> omega
theorem ok_is_book (T : Txt K mg) : FnOk P w K mg base CX0 1 T.f_is_book T.fd_is_book ["_law_told"] sp_is_book := by
  refine T.F_is_book.ok sc_is_book (fun vs H Q E h => ?_) (fun cdv A outer s H vs Q E hr h => ?_)
  · obtain ⟨d, f, rfl, _⟩ := h
    rfl
  · obtain ⟨d, f, rfl, ⟨kvs, ed, b⟩, q⟩ := h
    have hu := hu_of hr
    refine ⟨_, (pss_cons (ps_if (pt_not (pt_val (pe_callB (r := rIsi K) call_isi (by rfl) T.z_isinstance (by decide +kernel) (pa_cons (pv 0) (pa_cons (pe_bltn (v := .ty "dict") (u := .type "dict") (by rfl) T.z_dict (by decide +kernel) rfl) pa_nil)))))
      (pss_one (ps_ret pe_bl))
      pss_nil)
      (pss_cons (ps_lock (ps_for PassesOwn.never rfl (pi_keys (pv 0)) (pg_name (i := 1) sc_is_book.nd rfl (Or.inl rfl))
      (pss_cons (ps_if (PW.pt (pw_or (pt_not (pt_val (pe_callB (r := rIsi K) call_isi (by rfl) T.z_isinstance (by decide +kernel) (pa_cons (pv 1) (pa_cons (pe_bltn (v := .ty "int") (u := .type "int") (by rfl) T.z_int (by decide +kernel) rfl) pa_nil))))) (pw_or1 (pt_val (pe_callB (r := rIsi K) call_isi (by rfl) T.z_isinstance (by decide +kernel) (pa_cons (pv 1) (pa_cons (pe_bltn (v := .ty "bool") (u := .type "bool") (by rfl) T.z_bool (by decide +kernel) rfl) pa_nil)))))))
        (pss_one (ps_ret pe_bl))
        pss_nil)
        (pss_one (ps_if (PW.pt (pw_or (pt_not (pt_val (pe_callB (r := rIsi K) call_isi (by rfl) T.z_isinstance (by decide +kernel) (pa_cons (pe_dget hu (pv 0) (pv 1) (fun _ _ => rfl)) (pa_cons (pe_bltn (v := .ty "int") (u := .type "int") (by rfl) T.z_int (by decide +kernel) rfl) pa_nil))))) (pw_or1 (pt_val (pe_callB (r := rIsi K) call_isi (by rfl) T.z_isinstance (by decide +kernel) (pa_cons (pe_dget hu (pv 0) (pv 1) (fun _ _ => rfl)) (pa_cons (pe_bltn (v := .ty "bool") (u := .type "bool") (by rfl) T.z_bool (by decide +kernel) rfl) pa_nil)))))))
        (pss_one (ps_ret pe_bl))
        pss_nil)))))
      (pss_one (ps_ret pe_bl)))), ?_⟩
    refine ⟨_, rfl, _, _, _, _, true, rfl, .ty "dict", .base (.dK ed), kit_ty (by decide +kernel), _, rfl, iteF ?_⟩
    refine ⟨d, .dK kvs, ed, trivial, fun od => ⟨_, rfl, d, od, rfl, .inl ⟨kvs, upd_same, for_it walk_keys (fun i σ H' => H' = L2.upd H d (.frz od (.dK kvs)) ∧ ∃ y, σ = [some (.ref d), y]) ⟨rfl, none, rfl⟩ (fun i σ H' _ h => by rw [h.1]; exact upd_same) ?_ ?_⟩⟩⟩
    · rintro i x σ H1 H2 hi ⟨rfl, y, rfl⟩ ⟨rfl, k, v, hkv, rfl⟩
      obtain ⟨k, v, e, hf⟩ := b.ent _ (List.mem_of_getElem? hkv)
      cases e
      have hg : DGet (L2.upd H d (.frz od (.dK kvs))) d (V.int k) (some (V.int v)) := .inl ⟨kvs, Sum.inl k, .inr ⟨od, upd_same⟩, rfl, by rw [b.val k, hf]; rfl⟩
      refine ⟨_, rfl, _, _, _, _, true, rfl, .ty "int", .base (.int k), kit_ty (by decide +kernel), _, rfl, iteF ?_⟩
      refine ⟨_, rfl, _, _, _, _, false, rfl, .ty "bool", .base (.int k), kit_ty (by decide +kernel), _, rfl, iteF ?_⟩
      refine ⟨_, rfl, _, rfl, d, V.int v, rfl, hg, _, _, _, _, true, rfl, .ty "int", .base (.int v), kit_ty (by decide +kernel), _, rfl, iteF ?_⟩
      refine ⟨_, rfl, _, rfl, d, V.int v, rfl, hg, _, _, _, _, false, rfl, .ty "bool", .base (.int v), kit_ty (by decide +kernel), _, rfl, iteF ?_⟩
      exact ⟨rfl, _, rfl⟩
    · rintro σ H1 ⟨rfl, y, rfl⟩
      refine ⟨upd_same, ?_⟩
      show Q _ (L2.upd (L2.upd H d (.frz od (.dK kvs))) d (.dK kvs))
      rw [back ed]
      exact q
theorem ok_copy (T : Txt K mg) : FnOk P w K mg base CX0 1 T.f_copy T.fd_copy ["_law_book"] sp_copy := by
  refine T.F_copy.ok sc_copy (fun vs H Q E h => ?_) (fun cdv A outer s H vs Q E hr h => ?_)
  · obtain ⟨d, f, U, rfl, _⟩ := h
    rfl
  · obtain ⟨d, f, U, rfl, ⟨kvs, ed, b⟩, hU, hz, q⟩ := h
    have hu := hu_of hr
    have hlen := b.le hU
    obtain ⟨ks, k1, k2, k3, k4⟩ := b.keys
    refine ⟨_, (pss_cons (ps_set (i := 1) sc_copy.nd rfl (Or.inl rfl) pe_dnewK)
      (pss_cons (ps_for PassesOwn.never rfl (pi_reversed (by rfl) T.z_reversed (pa_cons (LkP.pe_listKeys rfl (pv 0) (by rfl) T.z_list (by decide +kernel)) pa_nil)) (pg_name (i := 2) sc_copy.nd rfl (Or.inl rfl))
      (pss_one (ps_dput hu (pv 1) (pv 2) (pe_dget hu (pv 0) (pv 2) (fun _ _ => rfl)) rfl)))
      (pss_one (ps_ret (pv 1))))), ?_⟩
    refine fun p hp => ?_
    have s1 : Same H (L2.upd H p (.dK [])) := Same.new hp
    refine ⟨_, rfl, d, kvs, rfl, s1 _ _ ed, fun l hl => ?_⟩
    have s2 := s1.trans (Same.new (o := .lst (kvs.map fun q => kV q.1)) hl)
    have npl : p ≠ l := ne_of_none upd_same hl
    refine ⟨l, _, rfl, SqL.of upd_same, for_it (walk_rev (xs := kvs.map fun q => kV q.1)) (fun i σ H' => ∃ (y : Option V) (rk : List (Key × V)), σ = [some (.ref d), some (.ref p), y] ∧ Same H H' ∧ H' l = some (.lst (kvs.map fun q => kV q.1)) ∧ H' p = some (.dK rk) ∧ Bk rk (fun k => if k ∈ ks.drop (ks.length - i) then f k else none))
      ⟨none, [], rfl, s2, upd_same, (Same.new hl) _ _ upd_same, Bk.nil.congr fun k => by simp⟩ (fun i σ H' _ h => let ⟨_, _, _, _, h, _⟩ := h; SqL.of h) ?_ ?_⟩
    · rintro i x σ H1 H2 hi ⟨y, rk, rfl, sm, el, ep, bk⟩ ⟨rfl, hx⟩
      rw [List.length_map] at hi hx
      rw [List.getElem?_map] at hx
      obtain ⟨kv, hkv, rfl⟩ := Option.map_eq_some_iff.mp hx
      obtain ⟨k, v, rfl, hf⟩ := b.ent kv (List.mem_of_getElem? hkv)
      have hj : ks.length - 1 - i < ks.length := by omega
      have hkj : ks[ks.length - 1 - i]? = some k := by
        have z := congrArg (fun l => l[kvs.length - 1 - i]?) k1
        simp only [List.getElem?_map, hkv, Option.map_some] at z
        rw [k3]
        cases q1 : ks[kvs.length - 1 - i]? with
        | none => rw [q1] at z; cases z
        | some k' =>
          rw [q1] at z
          have z2 := Option.some.inj z
          rw [Sum.inl.inj z2]
      have ed2 : ks.drop (ks.length - (i + 1)) = k :: ks.drop (ks.length - i) := by
        have e1 : ks.length - (i + 1) = ks.length - 1 - i := by omega
        have e2 : ks.length - i = ks.length - 1 - i + 1 := by omega
        rw [e1, e2, List.drop_eq_getElem_cons hj]
        congr 1
        exact (List.getElem?_eq_some_iff.mp hkj).2
      have lrk : rk.length ≤ U.length := bk.le fun j hj => by
        split at hj
        · exact hU j hj
        · cases hj
      refine ⟨_, rfl, _, rfl, d, V.int v, rfl, .inl ⟨kvs, Sum.inl k, .inl (sm _ _ ed), rfl, by rw [b.val k, hf]; rfl⟩, _, rfl, _, rfl, p, _, rfl, DPut.k (k := Sum.inl k) ep (szl (by omega)), ?_⟩
      refine ⟨some (kV (Sum.inl k)), _, rfl, Same.mut sm hp, by rw [upd_ne npl.symm]; exact el, upd_same, (bk.put k v).congr fun j => ?_⟩
      rw [ed2]
      by_cases c : j = k
      · subst c
        rw [if_pos rfl, if_pos List.mem_cons_self, hf]
      · rw [if_neg c]
        by_cases c2 : j ∈ ks.drop (ks.length - i)
        · rw [if_pos c2, if_pos (List.mem_cons_of_mem _ c2)]
        · rw [if_neg c2, if_neg (fun z => (List.mem_cons.mp z).elim c c2)]
    · rintro σ H1 ⟨y, rk, rfl, sm, el, ep, bk⟩
      refine ⟨_, rfl, q H1 p sm hp ⟨rk, ep, bk.congr fun k => ?_⟩⟩
      rw [List.length_map, ← k3, Nat.sub_self, List.drop_zero]
      by_cases c : k ∈ ks
      · rw [if_pos c]
      · rw [if_neg c]
        cases h : f k with
        | none => rfl
        | some v => exact absurd ((k4 k).2 (by rw [h]; rfl)) c
end
theorem Pos.put {f : Int → Option Int} {k v : Int} (h : Pos f) (hv : 0 < v) : Pos (fun j => if j = k then some v else f j) := fun j u hj => by
  have hj : (if j = k then some v else f j) = some u := hj
  by_cases c : j = k
  · rw [if_pos c] at hj
    cases hj
    exact hv
  · rw [if_neg c] at hj
    exact h j u hj
theorem Non.put {f : Int → Option Int} {k v : Int} (h : Non f) (hv : 0 ≤ v) : Non (fun j => if j = k then some v else f j) := fun j u hj => by
  have hj : (if j = k then some v else f j) = some u := hj
  by_cases c : j = k
  · rw [if_pos c] at hj
    cases hj
    exact hv
  · rw [if_neg c] at hj
    exact h j u hj
theorem In.put {f : Int → Option Int} {U : List Int} {k v : Int} (h : In f U) (hk : k ∈ U) : In (fun j => if j = k then some v else f j) U := fun j hj => by
  have hj : (if j = k then some v else f j).isSome = true := hj
  by_cases c : j = k
  · rw [c]
    exact hk
  · rw [if_neg c] at hj
    exact h j hj
section
variable {P : Program} {w : World} {K : PySem.W.Frag} {mg : Str → Option Value} {base : Heap}
theorem map_sn (ps : List Int) (v : Int) : ps.map V.int ++ [V.int v] = (ps ++ [v]).map V.int := by rw [List.map_append]; rfl
theorem ok_places (T : Txt K mg) : FnOk P w K mg base CX0 2 T.f_places T.fd_places ["_law_box", "_law_count"] sp_places := by
  have G_take : FnOk P w K mg base CX0 1 T.f_take T.fd_take ["_law_box", "_law_size"] sp_take := ok_take T
  refine T.F_places.ok sc_places (fun vs H Q E h => ?_) (fun cdv A outer s H vs Q E hr h => ?_)
  · obtain ⟨a, n, rfl, _⟩ := h
    rfl
  · obtain ⟨a, n, rfl, hB, hn, q⟩ := h
    refine ⟨_, (pss_cons (ps_set (i := 2) sc_places.nd rfl (Or.inl rfl) (pe_lst pa_nil))
      (pss_cons (ps_set (i := 3) sc_places.nd rfl (Or.inl rfl) (pe_op op_sub (pe_call G_take (hr.mono (by omega)) (by rfl) T.g_take T.F_take.kp T.b_take .nil pass0 (pa_cons (pv 0) (pa_cons pe_int pa_nil))) pe_int))
      (pss_cons (ps_for PassesOwn.never rfl (pi_range1 (by rfl) T.z_range (pa_cons (pv 1) pa_nil)) (pg_name (i := 4) sc_places.nd rfl (Or.inl rfl))
      (pss_cons (ps_set (i := 5) sc_places.nd rfl (Or.inl rfl) (pe_op op_add pe_int (pe_call G_take (hr.mono (by omega)) (by rfl) T.g_take T.F_take.kp T.b_take .nil pass0 (pa_cons (pv 0) (pa_cons pe_int pa_nil)))))
        (C8.pss_cut (ps_if (pt_cmpR op_eq (pe_call G_take (hr.mono (by omega)) (by rfl) T.g_take T.F_take.kp T.b_take .nil pass0 (pa_cons (pv 0) (pa_cons pe_int pa_nil))) pe_int (nomark _))
        (pss_one (ps_set (i := 5) sc_places.nd rfl (Or.inl rfl) (pe_op op_add (pv 5) pe_int)))
        pss_nil)
        (pss_cons (ps_set (i := 3) sc_places.nd rfl (Or.inl rfl) (pe_op op_add (pv 3) (pv 5)))
        (pss_one (ps_expr (pe_bm PySem.F.plainAttrs_list PySem.F.slot_list_append PySem.F.type_list_append mt_append (pv 2) (pa_cons (pv 3) pa_nil))))))))
      (pss_one (ps_ret (pv 2)))))), ?_⟩
    refine ⟨Nat.zero_le _, fun p hp => ?_⟩
    have s1 : Same H (L2.upd H p (.lst [])) := Same.new hp
    have nap : a ≠ p := hB.ne hp
    have hB1 : Box (L2.upd H p (.lst [])) a := let ⟨o, e, z⟩ := hB; ⟨o, s1 _ _ e, z⟩
    refine ⟨_, rfl, a, _, rfl, hB1, by decide, by decide, fun d H1 d0 d1 B1 K1 => ⟨_, _, rfl, rfl, ?_⟩⟩
    have B01 : But a H H1 := ⟨fun b o nb e => B1.1 b o nb (s1 b o e), B1.2⟩
    refine ⟨_, rfl, _, rfl, by omega, by omega, for_range (fun i σ H' => ∃ (t : Int) (y4 y5 : Option V) (ps : List Int), σ = [some (.ref a), some (.int n), some (.ref p), some (.int t), y4, y5] ∧ t ≤ 1 + 11 * (i : Int) ∧ But a H H' ∧ H' p = some (.lst (ps.map V.int)) ∧ ps.length = i ∧ ∀ k ∈ ps, k < 200)
      ⟨d - 1, none, none, [], rfl, by omega, B01, by rw [K1 p nap.symm, upd_same]; rfl, rfl, fun k hk => by cases hk⟩ ?_ ?_⟩
    · rintro i σ H2 hi ⟨t, y4, y5, ps, rfl, ht, B2, ep, lp, mp⟩
      rw [Int.toNat_natCast] at hi
      refine ⟨_, rfl, a, _, rfl, B2.2, by decide, by decide, fun d H3 d0 d1 B3 K3 => ⟨_, _, rfl, rfl, ?_⟩⟩
      refine ⟨fun σ' H' => ∃ (st : Int) (y4 y5 : Option V), σ' = [some (.ref a), some (.int n), some (.ref p), some (.int t), y4, some (.int st)] ∧ st ≤ 11 ∧ But a H H' ∧ H' p = some (.lst (ps.map V.int)), ?_, ?_⟩
      · refine ⟨_, rfl, a, _, rfl, B3.2, by decide, by decide, fun e H4 e0 e1 B4 K4 => ⟨rfl, _, rfl, ite2 (fun h => ?_) (fun h => ?_)⟩⟩
        · refine ⟨_, rfl, _, _, rfl, rfl, 1 + d + 9, _, none, rfl, by omega, B2.trans (B3.trans B4), by rw [K4 p nap.symm, K3 p nap.symm]; exact ep⟩
        · exact ⟨1 + d, _, none, rfl, by omega, B2.trans (B3.trans B4), by rw [K4 p nap.symm, K3 p nap.symm]; exact ep⟩
      · rintro σ' H' ⟨st, y4, y5, rfl, hst, B5, ep5⟩
        refine ⟨_, rfl, _, rfl, _, _, rfl, rfl, ?_⟩
        refine ⟨_, rfl, .inl ⟨rfl, _, SqL.of ep5⟩, _, rfl, p, _, _, rfl, rfl, ep5, szl (by rw [List.length_map]; omega), ?_⟩
        refine ⟨t + st, _, _, ps ++ [t + st], rfl, by omega, But.mut B5 hp nap, by rw [upd_same, map_sn], by rw [List.length_append, lp]; rfl, fun k hk => ?_⟩
        rcases List.mem_append.mp hk with h | h
        · exact mp k h
        · rw [List.mem_singleton.mp h]
          omega
    · rintro σ H2 ⟨t, y4, y5, ps, rfl, ht, B2, ep, lp, mp⟩
      exact ⟨_, rfl, q H2 p ps B2 hp ep (by rw [lp, Int.toNat_natCast]) mp⟩
theorem ok_first (T : Txt K mg) : FnOk P w K mg base CX0 3 T.f_first T.fd_first ["_law_box", "_law_places_here"] (sp_first K) := by
  have G_value : FnOk P w K mg base CX0 2 T.f_value T.fd_value ["_law_box"] sp_value := ok_value T
  refine T.F_first.ok sc_first (fun vs H Q E h => ?_) (fun cdv A outer s H vs Q E hr h => ?_)
  · obtain ⟨a, l, ps, rfl, _⟩ := h
    rfl
  · obtain ⟨a, l, ps, rfl, hB, hl, nla, hz, q⟩ := h
    have hu := hu_of hr
    refine ⟨_, (pss_cons (ps_set (i := 2) sc_first.nd rfl (Or.inl rfl) pe_dnewK)
      (pss_cons (ps_for PassesOwn.never rfl (pi_list (pv 1)) (pg_name (i := 3) sc_first.nd rfl (Or.inl rfl))
      (pss_cons (ps_set (i := 4) sc_first.nd rfl (Or.inl rfl) (pe_call G_value (hr.mono (by omega)) (by rfl) T.g_value T.F_value.kp T.b_value .nil pass0 (pa_cons (pv 0) pa_nil)))
        (pss_one (ps_if (pt_cmpR op_gt (pv 4) pe_int (nomark _))
        (pss_one (ps_dput hu (pv 2) (pv 3) (pv 4) rfl))
        pss_nil))))
      (pss_one (ps_ret (pv 2))))), ?_⟩
    refine fun p hp => ?_
    have s1 : Same H (L2.upd H p (.dK [])) := Same.new hp
    have nap : a ≠ p := hB.ne hp
    have hB1 : Box (L2.upd H p (.dK [])) a := let ⟨o, e, z⟩ := hB; ⟨o, s1 _ _ e, z⟩
    refine ⟨_, rfl, l, rfl, ⟨_, sqL_but (a := a) hl nla fun b o _ e => s1 b o e⟩, for_list (xs := ps.map V.int) (fun i σ H' => ∃ (y3 y4 : Option V) (kvs : List (Key × V)) (f : Int → Option Int), σ = [some (.ref a), some (.ref l), some (.ref p), y3, y4] ∧ But a H H' ∧ H' p = some (.dK kvs) ∧ Bk kvs f ∧ Pos f ∧ In f ps)
      ⟨none, none, [], _, rfl, ⟨fun b o _ e => s1 b o e, hB1⟩, upd_same, Bk.nil, fun k v h => by (cases h), fun k h => by (cases h)⟩ (fun i σ H' _ h => let ⟨_, _, _, _, _, B, _⟩ := h; sqL_but hl nla B.1) ?_ ?_⟩
    · rintro i x σ H2 hx ⟨y3, y4, kvs, f, rfl, B2, ep, bk, pf, uf⟩
      obtain ⟨k, hk, rfl⟩ := int_at hx
      have hle := bk.le uf
      refine ⟨_, rfl, a, rfl, B2.2, fun v H3 v0 B3 K3 => ?_⟩
      have ep3 : H3 p = some (.dK kvs) := by rw [K3 p nap.symm]; exact ep
      refine ⟨_, rfl, _, _, rfl, rfl, _, rfl, ite2 (fun h => ?_) (fun h => ?_)⟩
      · have hv := of_decide_eq_true h
        refine ⟨_, rfl, _, rfl, _, rfl, p, _, rfl, DPut.k (k := Sum.inl k) ep3 (szl (by omega)), ?_⟩
        refine ⟨_, _, _, _, rfl, But.mut (B2.trans B3) hp nap, upd_same, bk.put k v, pf.put hv, uf.put (List.mem_of_getElem? hk)⟩
      · exact ⟨_, _, kvs, f, rfl, B2.trans B3, ep3, bk, pf, uf⟩
    · rintro σ H2 ⟨y3, y4, kvs, f, rfl, B2, ep, bk, pf, uf⟩
      exact ⟨_, rfl, q H2 p f B2 hp ⟨kvs, ep, bk⟩ pf uf⟩
theorem ok_second (T : Txt K mg) : FnOk P w K mg base CX0 3 T.f_second T.fd_second ["_law_box", "_law_book", "_law_places_here"] (sp_second K) := by
  have G_value : FnOk P w K mg base CX0 2 T.f_value T.fd_value ["_law_box"] sp_value := ok_value T
  have G_take : FnOk P w K mg base CX0 1 T.f_take T.fd_take ["_law_box", "_law_size"] sp_take := ok_take T
  refine T.F_second.ok sc_second (fun vs H Q E h => ?_) (fun cdv A outer s H vs Q E hr h => ?_)
  · obtain ⟨a, d, l, g, ps, rfl, _⟩ := h
    rfl
  · obtain ⟨a, d, l, g, ps, rfl, hB, ad, hl, nla, hz, q⟩ := h
    have hu := hu_of hr
    refine ⟨_, (pss_cons (ps_set (i := 3) sc_second.nd rfl (Or.inl rfl) pe_dnewK)
      (pss_cons (ps_for PassesOwn.never rfl (pi_list (pv 2)) (pg_name (i := 4) sc_second.nd rfl (Or.inl rfl))
      (pss_cons (ps_set (i := 5) sc_second.nd rfl (Or.inl rfl) (pe_call G_take (hr.mono (by omega)) (by rfl) T.g_take T.F_take.kp T.b_take .nil pass0 (pa_cons (pv 0) (pa_cons pe_int pa_nil))))
        (pss_cons (ps_set (i := 6) sc_second.nd rfl (Or.inl rfl) (pe_dget2 hu (pv 1) (pv 4) pe_int (by constructor <;> rfl)))
        (C8.pss_cut (ps_if (pt_cmpR op_eq (pv 5) pe_int (nomark _))
        (pss_one (ps_set (i := 6) sc_second.nd rfl (Or.inl rfl) (pe_call G_value (hr.mono (by omega)) (by rfl) T.g_value T.F_value.kp T.b_value .nil pass0 (pa_cons (pv 0) pa_nil))))
        pss_nil)
        (C8.pss_cut (ps_if (pt_cmpR op_eq (pv 5) pe_int (nomark _))
        (pss_one (ps_set (i := 6) sc_second.nd rfl (Or.inl rfl) pe_int))
        pss_nil)
        (pss_one (ps_if (pt_cmpR op_gt (pv 6) pe_int (nomark _))
        (pss_one (ps_dput hu (pv 3) (pv 4) (pv 6) rfl))
        pss_nil)))))))
      (pss_one (ps_ret (pv 3))))), ?_⟩
    refine fun p hp => ?_
    have s1 : Same H (L2.upd H p (.dK [])) := Same.new hp
    have nap : a ≠ p := hB.ne hp
    have hB1 : Box (L2.upd H p (.dK [])) a := let ⟨o, e, z⟩ := hB; ⟨o, s1 _ _ e, z⟩
    refine ⟨_, rfl, l, rfl, ⟨_, sqL_but (a := a) hl nla fun b o _ e => s1 b o e⟩, for_list (xs := ps.map V.int) (fun i σ H' => ∃ (y4 y5 y6 : Option V) (kvs : List (Key × V)) (f : Int → Option Int), σ = [some (.ref a), some (.ref d), some (.ref l), some (.ref p), y4, y5, y6] ∧ But a H H' ∧ H' p = some (.dK kvs) ∧ Bk kvs f ∧ Pos f ∧ In f ps)
      ⟨none, none, none, [], _, rfl, ⟨fun b o _ e => s1 b o e, hB1⟩, upd_same, Bk.nil, fun k v h => by (cases h), fun k h => by (cases h)⟩ (fun i σ H' _ h => let ⟨_, _, _, _, _, _, B, _⟩ := h; sqL_but hl nla B.1) ?_ ?_⟩
    · rintro i x σ H2 hx ⟨y4, y5, y6, kvs, f, rfl, B2, ep, bk, pf, uf⟩
      obtain ⟨k, hk, rfl⟩ := int_at hx
      have hle := bk.le uf
      refine ⟨_, rfl, a, _, rfl, B2.2, by decide, by decide, fun wy H3 w0 w1 B3 K3 => ?_⟩
      have B23 := B2.trans B3
      have ep3 : H3 p = some (.dK kvs) := by rw [K3 p nap.symm]; exact ep
      obtain ⟨isd, o, hg, og, _, _⟩ := (ad.but hB B23).get k
      refine ⟨_, rfl, d, rfl, isd, _, rfl, o, hg, ?_⟩
      rw [og]
      have mid : ∀ (v : Int) (H' : Hp), But a H H' → H' p = some (.dK kvs) → (fun (σ : L2.St) (H' : Hp) => ∃ (v : Int), σ = [some (.ref a), some (.ref d), some (.ref l), some (.ref p), some (.int k), some (.int wy), some (.int v)] ∧ But a H H' ∧ H' p = some (.dK kvs)) [some (.ref a), some (.ref d), some (.ref l), some (.ref p), some (.int k), some (.int wy), some (.int v)] H' := fun v H' B e => ⟨v, rfl, B, e⟩
      refine ⟨fun (σ : L2.St) (H' : Hp) => ∃ (v : Int), σ = [some (.ref a), some (.ref d), some (.ref l), some (.ref p), some (.int k), some (.int wy), some (.int v)] ∧ But a H H' ∧ H' p = some (.dK kvs), ?_, ?_⟩
      · refine ⟨_, rfl, rfl, _, rfl, ite2 (fun h => ?_) (fun h => ?_)⟩
        · refine ⟨_, rfl, a, rfl, B23.2, fun v H4 v0 B4 K4 => ?_⟩
          exact ⟨v, rfl, B23.trans B4, by rw [K4 p nap.symm]; exact ep3⟩
        · exact ⟨_, rfl, B23, ep3⟩
      rintro σ' H' ⟨v, rfl, B5, ep5⟩
      refine ⟨fun (σ : L2.St) (H' : Hp) => ∃ (v : Int), σ = [some (.ref a), some (.ref d), some (.ref l), some (.ref p), some (.int k), some (.int wy), some (.int v)] ∧ But a H H' ∧ H' p = some (.dK kvs), ?_, ?_⟩
      · refine ⟨_, rfl, rfl, _, rfl, ite2 (fun h => ?_) (fun h => ?_)⟩
        · exact ⟨0, rfl, B5, ep5⟩
        · exact ⟨v, rfl, B5, ep5⟩
      rintro σ' H' ⟨v, rfl, B5, ep5⟩
      refine ⟨_, rfl, _, _, rfl, rfl, _, rfl, ite2 (fun h => ?_) (fun h => ?_)⟩
      · have hv := of_decide_eq_true h
        refine ⟨_, rfl, _, rfl, _, rfl, p, _, rfl, DPut.k (k := Sum.inl k) ep5 (szl (by omega)), ?_⟩
        refine ⟨_, _, _, _, _, rfl, But.mut B5 hp nap, upd_same, bk.put k v, pf.put hv, uf.put (List.mem_of_getElem? hk)⟩
      · exact ⟨_, _, _, kvs, f, rfl, B5, ep5, bk, pf, uf⟩
    · rintro σ H2 ⟨y4, y5, y6, kvs, f, rfl, B2, ep, bk, pf, uf⟩
      exact ⟨_, rfl, q H2 p f B2 hp ⟨kvs, ep, bk⟩ pf uf⟩
end
section
variable {P : Program} {w : World} {K : PySem.W.Frag} {mg : Str → Option Value} {base : Heap}
theorem ok_wanted (T : Txt K mg) : FnOk P w K mg base CX0 3 T.f_wanted T.fd_wanted ["_law_box", "_law_book", "_law_places_here"] (sp_wanted K) := by
  have G_value : FnOk P w K mg base CX0 2 T.f_value T.fd_value ["_law_box"] sp_value := ok_value T
  have G_choose : FnOk P w K mg base CX0 2 T.f_choose T.fd_choose ["_law_box", "_law_rows", "_law_count"] (sp_choose K) := ok_choose T
  have G_take : FnOk P w K mg base CX0 1 T.f_take T.fd_take ["_law_box", "_law_size"] sp_take := ok_take T
  refine T.F_wanted.ok sc_wanted (fun vs H Q E h => ?_) (fun cdv A outer s H vs Q E hr h => ?_)
  · obtain ⟨a, d, l, g, ps, rfl, _⟩ := h
    rfl
  · obtain ⟨a, d, l, g, ps, rfl, hB, ad, pg, hl, nla, hz, q⟩ := h
    have hu := hu_of hr
    refine ⟨_, (pss_cons (ps_set (i := 3) sc_wanted.nd rfl (Or.inl rfl) pe_dnewK)
      (pss_cons (ps_for PassesOwn.never rfl (pi_list (pe_call G_choose (hr.mono (by omega)) (by rfl) T.g_choose T.F_choose.kp T.b_choose .nil pass0 (pa_cons (pv 0) (pa_cons (pv 2) (pa_cons (pe_call G_take (hr.mono (by omega)) (by rfl) T.g_take T.F_take.kp T.b_take .nil pass0 (pa_cons (pv 0) (pa_cons (pe_op op_add (pe_callB (r := rLenK K) call_len_seq (by rfl) T.z_len PySem.boot_len (pa_cons (pv 2) pa_nil)) pe_int) pa_nil))) pa_nil))))) (pg_name (i := 4) sc_wanted.nd rfl (Or.inl rfl))
      (pss_cons (ps_set (i := 5) sc_wanted.nd rfl (Or.inl rfl) (pe_call G_take (hr.mono (by omega)) (by rfl) T.g_take T.F_take.kp T.b_take .nil pass0 (pa_cons (pv 0) (pa_cons pe_int pa_nil))))
        (pss_cons (ps_dput hu (pv 3) (pv 4) pe_int rfl)
        (C8.pss_cut (ps_if (pt_cmpR op_eq (pv 5) pe_int (nomark _))
        (pss_one (ps_dput hu (pv 3) (pv 4) (pe_dget2 hu (pv 1) (pv 4) pe_int (by constructor <;> rfl)) rfl))
        pss_nil)
        (pss_one (ps_if (pt_cmpR op_gt (pv 5) pe_int (nomark _))
        (pss_one (ps_dput hu (pv 3) (pv 4) (pe_call G_value (hr.mono (by omega)) (by rfl) T.g_value T.F_value.kp T.b_value .nil pass0 (pa_cons (pv 0) pa_nil)) rfl))
        pss_nil))))))
      (pss_one (ps_ret (pv 3))))), ?_⟩
    refine fun p hp => ?_
    have s1 : Same H (L2.upd H p (.dK [])) := Same.new hp
    have nap : a ≠ p := hB.ne hp
    have hB1 : Box (L2.upd H p (.dK [])) a := let ⟨o, e, z⟩ := hB; ⟨o, s1 _ _ e, z⟩
    have hl1 : SqL K (L2.upd H p (.dK [])) l (ps.map V.int) := sqL_but (a := a) hl nla fun b o _ e => s1 b o e
    refine ⟨_, rfl, _, rfl, _, rfl, _, rfl, l, _, rfl, .inl hl1, _, _, rfl, rfl, ?_⟩
    refine ⟨a, _, rfl, hB1, by omega, by rw [List.length_map]; omega, fun c H1 c0 c1 B1 K1 => ?_⟩
    obtain ⟨c, rfl⟩ := Int.eq_ofNat_of_zero_le c0
    refine ⟨a, l, _, c, rfl, B1.2, sqL_but hl1 nla B1.1, nla, by rw [List.length_map]; omega, fun H2 r ys B2 n2 er my ly => ?_⟩
    have ep1 : H1 p = some (.dK []) := by rw [K1 p nap.symm, upd_same]
    have ep2 : H2 p = some (.dK []) := B2.1 p _ nap.symm ep1
    have npr : p ≠ r := ne_of_none ep1 n2
    have B02 : But a H H2 := ⟨fun b o nb e => B2.1 b o nb (B1.1 b o nb (s1 b o e)), B2.2⟩
    have nar : a ≠ r := by
      obtain ⟨o, e, _⟩ := B1.2
      exact ne_of_none e n2
    refine ⟨r, rfl, ⟨_, SqL.of er⟩, for_list (xs := ys) (fun i σ H' => ∃ (y4 y5 : Option V) (kvs : List (Key × V)) (f : Int → Option Int), σ = [some (.ref a), some (.ref d), some (.ref l), some (.ref p), y4, y5] ∧ But a H H' ∧ H' p = some (.dK kvs) ∧ H' r = some (.lst ys) ∧ Bk kvs f ∧ Non f ∧ In f ps)
      ⟨none, none, [], _, rfl, B02, ep2, er, Bk.nil, fun k v h => by (cases h), fun k h => by (cases h)⟩ (fun i σ H' _ h => let ⟨_, _, _, _, _, _, _, h, _⟩ := h; SqL.of h) ?_ ?_⟩
    · rintro i x σ H3 hx ⟨y4, y5, kvs, f, rfl, B3, ep, er3, bk, nf, uf⟩
      obtain ⟨k, hk, rfl⟩ := List.mem_map.mp (my x (List.mem_of_getElem? hx))
      refine ⟨_, rfl, a, _, rfl, B3.2, by decide, by decide, fun wy H4 w0 w1 B4 K4 => ?_⟩
      have B34 := B3.trans B4
      have ep4 : H4 p = some (.dK kvs) := by rw [K4 p nap.symm]; exact ep
      have er4 : H4 r = some (.lst ys) := by rw [K4 r nar.symm]; exact er3
      have hle := bk.le uf
      have bk1 := bk.put k 0
      have nf1 := nf.put (k := k) (Int.le_refl 0)
      have uf1 := uf.put (k := k) (v := 0) hk
      have hle1 := bk1.le uf1
      refine ⟨_, rfl, _, rfl, p, _, rfl, DPut.k (k := Sum.inl k) ep4 (szl (by omega)), ?_⟩
      refine ⟨fun (σ : L2.St) (H' : Hp) => σ = [some (.ref a), some (.ref d), some (.ref l), some (.ref p), some (.int k), some (.int wy)] ∧ ∃ (kvs : List (Key × V)) (f : Int → Option Int), But a H H' ∧ H' p = some (.dK kvs) ∧ H' r = some (.lst ys) ∧ Bk kvs f ∧ Non f ∧ In f ps, ?_, ?_⟩
      · refine ⟨_, rfl, rfl, _, rfl, ite2 (fun h => ?_) (fun h => ?_)⟩
        · obtain ⟨isd, o, hg, og, _, _⟩ := ((ad.but hB B34).upd (p := p) (o := .dK (putK kvs (Sum.inl k) (V.int 0))) ((ad.no hp))).get k
          refine ⟨_, rfl, d, rfl, isd, _, rfl, o, hg, ?_⟩
          rw [og]
          refine ⟨_, rfl, _, rfl, p, _, rfl, DPut.k (k := Sum.inl k) upd_same (szl (by omega)), rfl, _, _, ?_, upd_same, ?_, bk1.put k (gv g k), nf1.put (pg.gv k), uf1.put hk⟩
          · exact But.mut (But.mut B34 hp nap) hp nap
          · rw [upd_ne npr.symm, upd_ne npr.symm]
            exact er4
        · exact ⟨rfl, _, _, But.mut B34 hp nap, upd_same, by rw [upd_ne npr.symm]; exact er4, bk1, nf1, uf1⟩
      rintro σ' H' ⟨rfl, kvs, f, B5, ep5, er5, bk, nf, uf⟩
      have hle := bk.le uf
      refine ⟨_, rfl, _, _, rfl, rfl, _, rfl, ite2 (fun h => ?_) (fun h => ?_)⟩
      · refine ⟨_, rfl, a, rfl, B5.2, fun v H6 v0 B6 K6 => ?_⟩
        have ep6 : H6 p = some (.dK kvs) := by rw [K6 p nap.symm]; exact ep5
        refine ⟨_, rfl, _, rfl, p, _, rfl, DPut.k (k := Sum.inl k) ep6 (szl (by omega)), _, _, _, _, rfl, But.mut (B5.trans B6) hp nap, upd_same, ?_, bk.put k v, nf.put v0, uf.put hk⟩
        rw [upd_ne npr.symm, K6 r nar.symm]
        exact er5
      · exact ⟨_, _, kvs, f, rfl, B5, ep5, er5, bk, nf, uf⟩
    · rintro σ H3 ⟨y4, y5, kvs, f, rfl, B3, ep, er3, bk, nf, uf⟩
      exact ⟨_, rfl, q H3 p f B3 hp ⟨kvs, ep, bk⟩ nf uf⟩
theorem ok_unlike (T : Txt K mg) : FnOk P w K mg base CX0 1 T.f_unlike T.fd_unlike ["_law_base", "_law_book", "_law_places_here"] (sp_unlike K) := by
  refine T.F_unlike.ok sc_unlike (fun vs H Q E h => ?_) (fun cdv A outer s H vs Q E hr h => ?_)
  · obtain ⟨d, e, l, f, g, ps, rfl, _⟩ := h
    rfl
  · obtain ⟨d, e, l, f, g, ps, rfl, ad, ae, hl, hz, q⟩ := h
    have hu := hu_of hr
    refine ⟨_, (pss_cons (ps_set (i := 3) sc_unlike.nd rfl (Or.inl rfl) pe_dnewK)
      (pss_cons (ps_for PassesOwn.never rfl (pi_list (pv 2)) (pg_name (i := 4) sc_unlike.nd rfl (Or.inl rfl))
      (pss_one (ps_if (pt_cmpR op_ne (pe_dget2 hu (pv 0) (pv 4) pe_int (by constructor <;> rfl)) (pe_dget2 hu (pv 1) (pv 4) pe_int (by constructor <;> rfl)) (nomark _))
        (pss_one (ps_dput hu (pv 3) (pv 4) (pe_dget2 hu (pv 1) (pv 4) pe_int (by constructor <;> rfl)) rfl))
        pss_nil)))
      (pss_one (ps_ret (pv 3))))), ?_⟩
    refine fun p hp => ?_
    have s1 : Same H (L2.upd H p (.dK [])) := Same.new hp
    refine ⟨_, rfl, l, rfl, ⟨_, s1.seq hl⟩, for_list (xs := ps.map V.int) (fun i σ H' => ∃ (y4 : Option V) (kvs : List (Key × V)), σ = [some (.ref d), some (.ref e), some (.ref l), some (.ref p), y4] ∧ Same H H' ∧ H' p = some (.dK kvs) ∧ Bk kvs (fun k => if k ∈ ps.take i then ch f g k else none))
      ⟨none, [], rfl, s1, upd_same, Bk.nil.congr fun k => by simp⟩ (fun i σ H' _ h => let ⟨_, _, _, h, _⟩ := h; h.seq hl) ?_ ?_⟩
    · rintro i x σ H2 hx ⟨y4, kvs, rfl, sm, ep, bk⟩
      obtain ⟨k, hk, rfl⟩ := int_at hx
      have mt := mem_take hk
      have hle : kvs.length ≤ ps.length := bk.le fun j hj => by
        by_cases c : j ∈ ps.take i
        · exact List.mem_of_mem_take c
        · rw [if_neg c] at hj
          cases hj
      obtain ⟨i1, o1, g1, v1, _, _⟩ := (ad.same sm).get k
      obtain ⟨i2, o2, g2, v2, _, _⟩ := (ae.same sm).get k
      refine ⟨_, rfl, d, rfl, i1, _, rfl, o1, g1, ?_⟩
      rw [v1]
      refine ⟨_, rfl, e, rfl, i2, _, rfl, o2, g2, ?_⟩
      rw [v2]
      refine ⟨rfl, _, rfl, ite2 (fun h => ?_) (fun h => ?_)⟩
      · have hne : gv f k ≠ gv g k := fun z => by
          rw [z] at h
          simp at h
        refine ⟨_, rfl, e, rfl, i2, _, rfl, o2, g2, ?_⟩
        rw [v2]
        refine ⟨_, rfl, _, rfl, p, _, rfl, DPut.k (k := Sum.inl k) ep (szl (by omega)), _, _, rfl, Same.mut sm hp, upd_same, (bk.put k (gv g k)).congr fun j => ?_⟩
        by_cases c : j = k
        · subst c
          rw [if_pos rfl, if_pos ((mt j).2 (.inr rfl))]
          unfold ch
          rw [if_neg hne]
        · rw [if_neg c]
          by_cases c2 : j ∈ ps.take i
          · rw [if_pos c2, if_pos ((mt j).2 (.inl c2))]
          · rw [if_neg c2, if_neg (fun z => ((mt j).1 z).elim c2 c)]
      · have heq : gv f k = gv g k := by
          have z : (!decide (V.int (gv f k) = V.int (gv g k))) = false := by simpa using h
          have z2 : V.int (gv f k) = V.int (gv g k) := by simpa using z
          exact V.int.inj z2
        refine ⟨_, kvs, rfl, sm, ep, bk.congr fun j => ?_⟩
        by_cases c : j = k
        · subst c
          rw [if_pos ((mt j).2 (.inr rfl))]
          unfold ch
          rw [if_pos heq]
          split <;> rfl
        · by_cases c2 : j ∈ ps.take i
          · rw [if_pos c2, if_pos ((mt j).2 (.inl c2))]
          · rw [if_neg c2, if_neg (fun z => ((mt j).1 z).elim c2 c)]
    · rintro σ H2 ⟨y4, kvs, rfl, sm, ep, bk⟩
      refine ⟨_, rfl, q H2 p sm hp ⟨kvs, ep, bk.congr fun k => ?_⟩⟩
      rw [List.length_map, List.take_length]
theorem ok_after (T : Txt K mg) : FnOk P w K mg base CX0 1 T.f_after T.fd_after ["_law_book", "_law_writes", "_law_places_here"] (sp_after K) := by
  refine T.F_after.ok sc_after (fun vs H Q E h => ?_) (fun cdv A outer s H vs Q E hr h => ?_)
  · obtain ⟨d, e, l, f, g, ps, rfl, _⟩ := h
    rfl
  · obtain ⟨d, e, l, f, g, ps, rfl, ad, ae, hl, hz, q⟩ := h
    have hu := hu_of hr
    refine ⟨_, (pss_cons (ps_set (i := 3) sc_after.nd rfl (Or.inl rfl) pe_dnewK)
      (pss_cons (ps_for PassesOwn.never rfl (pi_list (pv 2)) (pg_name (i := 4) sc_after.nd rfl (Or.inl rfl))
      (pss_cons (ps_set (i := 5) sc_after.nd rfl (Or.inl rfl) (pe_dget2 hu (pv 0) (pv 4) pe_int (by constructor <;> rfl)))
        (C8.pss_cut (ps_if (pt_cmp (pc_din hu (pv 4) (pv 1)))
        (pss_one (ps_set (i := 5) sc_after.nd rfl (Or.inl rfl) (pe_dget hu (pv 1) (pv 4) (fun _ _ => rfl))))
        pss_nil)
        (pss_one (ps_if (pt_cmpR op_gt (pv 5) pe_int (nomark _))
        (pss_one (ps_dput hu (pv 3) (pv 4) (pv 5) rfl))
        pss_nil)))))
      (pss_one (ps_ret (pv 3))))), ?_⟩
    refine fun p hp => ?_
    have s1 : Same H (L2.upd H p (.dK [])) := Same.new hp
    refine ⟨_, rfl, l, rfl, ⟨_, s1.seq hl⟩, for_list (xs := ps.map V.int) (fun i σ H' => ∃ (y4 y5 : Option V) (kvs : List (Key × V)), σ = [some (.ref d), some (.ref e), some (.ref l), some (.ref p), y4, y5] ∧ Same H H' ∧ H' p = some (.dK kvs) ∧ Bk kvs (fun k => if k ∈ ps.take i then af f g k else none))
      ⟨none, none, [], rfl, s1, upd_same, Bk.nil.congr fun k => by simp⟩ (fun i σ H' _ h => let ⟨_, _, _, _, h, _⟩ := h; h.seq hl) ?_ ?_⟩
    · rintro i x σ H2 hx ⟨y4, y5, kvs, rfl, sm, ep, bk⟩
      obtain ⟨k, hk, rfl⟩ := int_at hx
      have mt := mem_take hk
      have hle : kvs.length ≤ ps.length := bk.le fun j hj => by
        by_cases c : j ∈ ps.take i
        · exact List.mem_of_mem_take c
        · rw [if_neg c] at hj
          cases hj
      obtain ⟨i1, o1, g1, v1, _, _⟩ := (ad.same sm).get k
      obtain ⟨i2, o2, g2, v2, w2, x2⟩ := (ae.same sm).get k
      refine ⟨_, rfl, d, rfl, i1, _, rfl, o1, g1, ?_⟩
      rw [v1]
      -- the value that is due
      refine ⟨fun (σ : L2.St) (H' : Hp) => H' = H2 ∧ σ = [some (.ref d), some (.ref e), some (.ref l), some (.ref p), some (.int k), some (.int (match g k with | some v => v | none => gv f k))], ?_, ?_⟩
      · refine ⟨_, rfl, _, rfl, e, o2, rfl, g2, _, rfl, ?_⟩
        rw [w2]
        cases hgk : g k with
        | none => exact iteF ⟨rfl, rfl⟩
        | some v =>
          refine iteT ⟨_, rfl, _, rfl, e, V.int v, rfl, ?_, rfl, rfl⟩
          rw [← x2 v hgk]
          exact g2
      rintro σ' H' ⟨rfl, rfl⟩
      have key : af f g k = if 0 < (match g k with | some v => v | none => gv f k) then some (match g k with | some v => v | none => gv f k) else none := rfl
      generalize (match g k with | some v => v | none => gv f k) = v at key
      refine ⟨_, rfl, _, _, rfl, rfl, _, rfl, ite2 (fun h => ?_) (fun h => ?_)⟩
      · have hv := of_decide_eq_true h
        refine ⟨_, rfl, _, rfl, _, rfl, p, _, rfl, DPut.k (k := Sum.inl k) ep (szl (by omega)), _, _, _, rfl, Same.mut sm hp, upd_same, (bk.put k v).congr fun j => ?_⟩
        by_cases c : j = k
        · subst c
          rw [if_pos rfl, if_pos ((mt j).2 (.inr rfl)), key, if_pos hv]
        · rw [if_neg c]
          by_cases c2 : j ∈ ps.take i
          · rw [if_pos c2, if_pos ((mt j).2 (.inl c2))]
          · rw [if_neg c2, if_neg (fun z => ((mt j).1 z).elim c2 c)]
      · have hv : ¬ 0 < v := fun z => h (decide_eq_true z)
        refine ⟨_, _, kvs, rfl, sm, ep, bk.congr fun j => ?_⟩
        by_cases c : j = k
        · subst c
          rw [if_pos ((mt j).2 (.inr rfl)), key, if_neg hv]
          split <;> rfl
        · by_cases c2 : j ∈ ps.take i
          · rw [if_pos c2, if_pos ((mt j).2 (.inl c2))]
          · rw [if_neg c2, if_neg (fun z => ((mt j).1 z).elim c2 c)]
    · rintro σ H2 ⟨y4, y5, kvs, rfl, sm, ep, bk⟩
      refine ⟨_, rfl, q H2 p sm hp ⟨kvs, ep, bk.congr fun k => ?_⟩⟩
      rw [List.length_map, List.take_length]
end
theorem At.put {H : Hp} {d : Addr} {f : Int → Option Int} {U : List Int} (x : At H d f) (u : In f U) (hU : U.length ≤ 1000) (k v : Int) : ∃ H', DPut H d (.int k) (.int v) H' ∧ At H' d (fun j => if j = k then some v else f j) ∧ ∀ b, b ≠ d → H' b = H b := by
  obtain ⟨kvs, e, b⟩ := x
  have := b.le u
  exact ⟨_, DPut.k (k := Sum.inl k) e (szl (by omega)), ⟨_, upd_same, b.put k v⟩, fun c n => upd_ne n⟩
theorem At.keep {H H' : Hp} {a d : Addr} {f : Int → Option Int} (x : At H a f) (n : a ≠ d) (k : ∀ b, b ≠ d → H' b = H b) : At H' a f := by
  obtain ⟨kvs, e, b⟩ := x
  exact ⟨kvs, by rw [k a n]; exact e, b⟩
theorem Same.keep {H H1 H2 : Hp} {d : Addr} (s : Same H H1) (n : H d = Option.none) (k : ∀ b, b ≠ d → H2 b = H1 b) : Same H H2 := fun b o e => by
  rw [k b (ne_of_none e n)]
  exact s b o e
theorem ne_at {H : Hp} {a b : Addr} {f : Int → Option Int} (x : At H a f) (y : At H b f) {Q : VK} (q : Q (.bl false) H) : rNeDA (.ref a) (.ref b) H Q := by
  obtain ⟨ks, e1, b1⟩ := x
  obtain ⟨ls, e2, b2⟩ := y
  exact ⟨a, b, ks, ls, rfl, rfl, e1, e2, (b1.same b2).1, (b1.same b2).2, q⟩
theorem eq_at {H : Hp} {a b : Addr} {f : Int → Option Int} (x : At H a f) (y : At H b f) {Q : VK} (q : Q (.bl true) H) : rEqDA (.ref a) (.ref b) H Q := by
  obtain ⟨ks, e1, b1⟩ := x
  obtain ⟨ls, e2, b2⟩ := y
  exact ⟨a, b, ks, ls, rfl, rfl, e1, e2, (b1.same b2).1, (b1.same b2).2, q⟩
theorem At.congr {H : Hp} {d : Addr} {f g : Int → Option Int} (x : At H d f) (h : ∀ k, f k = g k) : At H d g := let ⟨kvs, e, b⟩ := x; ⟨kvs, e, b.congr h⟩
theorem ch_out {f g : Int → Option Int} {ps : List Int} (uf : In f ps) (ug : In g ps) {k : Int} (h : k ∉ ps) : ch f g k = none := by
  have e1 : f k = none := by
    cases q : f k with
    | none => rfl
    | some v => exact absurd (uf k (by rw [q]; rfl)) h
  have e2 : g k = none := by
    cases q : g k with
    | none => rfl
    | some v => exact absurd (ug k (by rw [q]; rfl)) h
  unfold ch gv
  rw [e1, e2]
  rfl
theorem ch_in {f g : Int → Option Int} {ps : List Int} (uf : In f ps) (ug : In g ps) : In (ch f g) ps := fun k h => by
  by_cases c : k ∈ ps
  · exact c
  · rw [ch_out uf ug c] at h
    cases h
theorem ch_ps {f g : Int → Option Int} {ps : List Int} (uf : In f ps) (ug : In g ps) (k : Int) : (if k ∈ ps then ch f g k else none) = ch f g k := by
  by_cases c : k ∈ ps
  · rw [if_pos c]
  · rw [if_neg c, ch_out uf ug c]
theorem pos_gv {f : Int → Option Int} (h : Pos f) (k : Int) : f k = if gv f k = 0 then none else some (gv f k) := by
  unfold gv
  cases e : f k with
  | none => rfl
  | some v =>
    have := h k v e
    show some v = if v = 0 then none else some v
    rw [if_neg (by omega)]
theorem wr_ch {f g : Int → Option Int} (pf : Pos f) (pg : Pos g) (k : Int) : wr f (ch f g) k = g k := by
  unfold wr ch
  by_cases c : gv f k = gv g k
  · rw [if_pos c]
    show f k = g k
    rw [pos_gv pf, pos_gv pg, c]
  · rw [if_neg c]
    show (if gv g k = 0 then none else some (gv g k)) = g k
    rw [← pos_gv pg]
theorem In.cons {f : Int → Option Int} {ps : List Int} (u : In f ps) (k v : Int) : In (fun j => if j = k then some v else f j) (k :: ps) := fun j h => by
  have h : (if j = k then some v else f j).isSome = true := h
  by_cases c : j = k
  · rw [c]; exact List.mem_cons_self
  · rw [if_neg c] at h
    exact List.mem_cons_of_mem _ (u j h)
theorem In.wide {f : Int → Option Int} {ps : List Int} (u : In f ps) (k : Int) : In f (k :: ps) := fun j h => List.mem_cons_of_mem _ (u j h)
def sp_leads (K : PySem.W.Frag) : Sp := fun vs H Q _ => ∃ (d e l : Addr) (f g : Int → Option Int) (ps : List Int), vs = [.ref d, .ref e, .ref l] ∧ At H d f ∧ At H e g ∧ Pos f ∧ Pos g ∧ In f ps ∧ In g ps ∧ (201 : Int) ∉ ps ∧ SqL K H l (ps.map V.int) ∧ ps.length ≤ 62 ∧ ∀ H', Same H H' → Q (.bl true) H'
section
variable {P : Program} {w : World} {K : PySem.W.Frag} {mg : Str → Option Value} {base : Heap}
theorem ok_leads (T : Txt K mg) : FnOk P w K mg base CX0 3 T.f_leads T.fd_leads ["_law_base", "_law_book", "_law_places_here"] (sp_leads K) := by
  have G_copy : FnOk P w K mg base CX0 1 T.f_copy T.fd_copy ["_law_book"] sp_copy := ok_copy T
  have G_is_book : FnOk P w K mg base CX0 1 T.f_is_book T.fd_is_book ["_law_told"] sp_is_book := ok_is_book T
  have G_unlike : FnOk P w K mg base CX0 1 T.f_unlike T.fd_unlike ["_law_base", "_law_book", "_law_places_here"] (sp_unlike K) := ok_unlike T
  have G_changes : FnOk P w K mg base CX0 2 T.f_changes T.fd_changes ["base", "book"] sp_changes := ok_changes T (ok_value_at T)
  have G_with_writes : FnOk P w K mg base CX0 1 T.f_with_writes T.fd_with_writes ["book", "writes"] sp_with_writes := ok_with_writes T
  refine T.F_leads.ok sc_leads (fun vs H Q E h => ?_) (fun cdv A outer s H vs Q E hr h => ?_)
  · obtain ⟨d, e, l, f, g, ps, rfl, _⟩ := h
    rfl
  · obtain ⟨d, e, l, f, g, ps, rfl, D0, E0, pf, pg, uf, ug, n201, hl, hz, q⟩ := h
    have hu := hu_of hr
    have uc := ch_in uf ug
    have z1 : ps.length ≤ 1000 := by omega
    have zc : ∀ k : Int, (k :: ps).length ≤ 1000 := fun k => by rw [List.length_cons]; omega
    refine ⟨_, (pss_cons (ps_set (i := 3) sc_leads.nd rfl (Or.inl rfl) (pe_call G_copy (hr.mono (by omega)) (by rfl) T.g_copy T.F_copy.kp T.b_copy .nil pass0 (pa_cons (pv 0) pa_nil)))
      (pss_cons (ps_set (i := 4) sc_leads.nd rfl (Or.inl rfl) (pe_call G_copy (hr.mono (by omega)) (by rfl) T.g_copy T.F_copy.kp T.b_copy .nil pass0 (pa_cons (pv 1) pa_nil)))
      (pss_cons (ps_set (i := 5) sc_leads.nd rfl (Or.inl rfl) (pe_call G_unlike (hr.mono (by omega)) (by rfl) T.g_unlike T.F_unlike.kp T.b_unlike .nil pass0 (pa_cons (pv 0) (pa_cons (pv 1) (pa_cons (pv 2) pa_nil)))))
      (pss_cons (ps_set (i := 6) sc_leads.nd rfl (Or.inl rfl) (pe_call G_changes (hr.mono (by omega)) (by rfl) T.g_changes T.F_changes.kp T.b_changes .nil pass0 (pa_cons (pv 3) (pa_cons (pv 4) pa_nil))))
      (pss_cons (ps_if (PW.pt (pw_or (pt_not (pt_val (pe_call G_is_book (hr.mono (by omega)) (by rfl) T.g_is_book T.F_is_book.kp T.b_is_book .nil pass0 (pa_cons (pv 6) pa_nil)))) (pw_or (pt_cmpR (op_ne_dictA hr.units0) (pv 6) (pv 5) (nomark _)) (pw_or (pt_cmpR (op_ne_dictA hr.units0) (pv 3) (pv 0) (nomark _)) (pw_or1 (pt_cmpR (op_ne_dictA hr.units0) (pv 4) (pv 1) (nomark _)))))))
      (pss_one (ps_ret pe_bl))
      pss_nil)
      (pss_cons (ps_dput hu (pv 6) pe_int pe_int rfl)
      (pss_cons (ps_set (i := 7) sc_leads.nd rfl (Or.inl rfl) (pe_call G_changes (hr.mono (by omega)) (by rfl) T.g_changes T.F_changes.kp T.b_changes .nil pass0 (pa_cons (pv 4) (pa_cons (pv 4) pa_nil))))
      (pss_cons (ps_if (PW.pt (pw_or (pt_not (pt_val (pe_call G_is_book (hr.mono (by omega)) (by rfl) T.g_is_book T.F_is_book.kp T.b_is_book .nil pass0 (pa_cons (pv 7) pa_nil)))) (pw_or1 (pt_cmpR op_gt (pe_callB call_lenD (by rfl) T.z_len PySem.boot_len (pa_cons (pv 7) pa_nil)) pe_int (nomark _)))))
      (pss_one (ps_ret pe_bl))
      pss_nil)
      (pss_cons (ps_dput hu (pv 7) pe_int pe_int rfl)
      (pss_cons (ps_set (i := 8) sc_leads.nd rfl (Or.inl rfl) (pe_call G_changes (hr.mono (by omega)) (by rfl) T.g_changes T.F_changes.kp T.b_changes .nil pass0 (pa_cons (pv 3) (pa_cons (pv 4) pa_nil))))
      (pss_cons (ps_if (PW.pt (pw_or (pt_not (pt_val (pe_call G_is_book (hr.mono (by omega)) (by rfl) T.g_is_book T.F_is_book.kp T.b_is_book .nil pass0 (pa_cons (pv 8) pa_nil)))) (pw_or (pt_cmpR (op_ne_dictA hr.units0) (pv 8) (pv 5) (nomark _)) (pw_or (pt_cmpR (op_ne_dictA hr.units0) (pv 3) (pv 0) (nomark _)) (pw_or1 (pt_cmpR (op_ne_dictA hr.units0) (pv 4) (pv 1) (nomark _)))))))
      (pss_one (ps_ret pe_bl))
      pss_nil)
      (pss_cons (ps_set (i := 9) sc_leads.nd rfl (Or.inl rfl) (pe_call G_with_writes (hr.mono (by omega)) (by rfl) T.g_with_writes T.F_with_writes.kp T.b_with_writes .nil pass0 (pa_cons (pv 3) (pa_cons (pv 8) pa_nil))))
      (pss_cons (ps_if (PW.pt (pw_or (pt_not (pt_val (pe_call G_is_book (hr.mono (by omega)) (by rfl) T.g_is_book T.F_is_book.kp T.b_is_book .nil pass0 (pa_cons (pv 9) pa_nil)))) (pw_or1 (pt_cmpR (op_ne_dictA hr.units0) (pv 9) (pv 1) (nomark _)))))
      (pss_one (ps_ret pe_bl))
      pss_nil)
      (pss_cons (ps_dput hu (pv 9) pe_int pe_int rfl)
      (pss_cons (ps_set (i := 9) sc_leads.nd rfl (Or.inl rfl) (pe_call G_with_writes (hr.mono (by omega)) (by rfl) T.g_with_writes T.F_with_writes.kp T.b_with_writes .nil pass0 (pa_cons (pv 3) (pa_cons (pv 8) pa_nil))))
      (pss_cons (ps_if (PW.pt (pw_or (pt_not (pt_val (pe_call G_is_book (hr.mono (by omega)) (by rfl) T.g_is_book T.F_is_book.kp T.b_is_book .nil pass0 (pa_cons (pv 9) pa_nil)))) (pw_or (pt_cmpR (op_ne_dictA hr.units0) (pv 9) (pv 1) (nomark _)) (pw_or (pt_cmpR (op_ne_dictA hr.units0) (pv 3) (pv 0) (nomark _)) (pw_or1 (pt_cmpR (op_ne_dictA hr.units0) (pv 8) (pv 5) (nomark _)))))))
      (pss_one (ps_ret pe_bl))
      pss_nil)
      (pss_cons (ps_dput hu (pv 3) pe_int pe_int rfl)
      (pss_cons (ps_dput hu (pv 5) pe_int pe_int rfl)
      (pss_cons (ps_set (i := 6) sc_leads.nd rfl (Or.inl rfl) (pe_call G_changes (hr.mono (by omega)) (by rfl) T.g_changes T.F_changes.kp T.b_changes .nil pass0 (pa_cons (pv 3) (pa_cons (pv 4) pa_nil))))
      (pss_one (ps_ret (pe_and (pe_call G_is_book (hr.mono (by omega)) (by rfl) T.g_is_book T.F_is_book.kp T.b_is_book .nil pass0 (pa_cons (pv 6) pa_nil)) (pe_and (pe_cmpR (op_eq_dictA hr.units0) (pv 6) (pv 5) (nomark _)) (pe_and (pe_cmpR (op_eq_dictA hr.units0) (pv 9) (pv 1) (nomark _)) (pe_one (pe_cmpR (op_eq_dictA hr.units0) (pv 4) (pv 1) (nomark _))))))))))))))))))))))))))), ?_⟩
    refine ⟨_, rfl, d, f, ps, rfl, D0, uf, z1, fun H1 p1 s1 n1 O1 => ?_⟩
    have E1 := E0.same s1
    refine ⟨_, rfl, e, g, ps, rfl, E1, ug, z1, fun H2 p2 s2 n2 W2 => ?_⟩
    have S2 := s1.trans s2
    refine ⟨_, rfl, _, rfl, _, rfl, d, e, l, f, g, ps, rfl, D0.same S2, E0.same S2, S2.seq hl, by omega, fun H3 p3 s3 n3 V3 => ?_⟩
    have V3 := V3.congr (ch_ps uf ug)
    have S3 := S2.trans s3
    have O3 := (O1.same s2).same s3
    have W3 := W2.same s3
    refine ⟨_, rfl, _, rfl, p1, p2, f, g, ps, rfl, O3, W3, uf, ug, by omega, fun H4 p4 s4 n4 A4 => ?_⟩
    have S4 := S3.trans s4
    have D4 := D0.same S4
    have E4 := E0.same S4
    have O4 := O3.same s4
    have W4 := W3.same s4
    have V4 := V3.same s4
    have n1H : H p1 = none := n1
    have n2H : H p2 = none := s1.free n2
    have n3H : H p3 = none := S2.free n3
    have n4H : H p4 = none := S3.free n4
    have d1 := D0.no n1H
    have d3 := D0.no n3H
    have d4 := D0.no n4H
    have e1 := E0.no n1H
    have e3 := E0.no n3H
    have e4 := E0.no n4H
    have o4 := O3.no n4
    have w4 := W3.no n4
    have v4 := V3.no n4
    have o3 := (O1.same s2).no n3
    have w3 := W2.no n3
    have w1 : p2 ≠ p1 := (O1.no n2).symm
    refine ⟨_, rfl, p4, _, rfl, A4, _, rfl, iteF ⟨_, rfl, _, rfl, ne_at A4 V4 ⟨_, rfl, iteF ⟨_, rfl, _, rfl, ne_at O4 D4 ⟨_, rfl, iteF ⟨_, rfl, _, rfl, ne_at W4 E4 ⟨_, rfl, iteF ?_⟩⟩⟩⟩⟩⟩⟩
    obtain ⟨H5, dp5, A5, k5⟩ := A4.put uc z1 200 5
    refine ⟨_, rfl, p4, H5, rfl, dp5, ?_⟩
    have S5 := Same.keep S4 n4H k5
    have O5 := O4.keep o4 k5
    have W5 := W4.keep w4 k5
    have V5 := V4.keep v4 k5
    refine ⟨_, rfl, _, rfl, p2, p2, g, g, ps, rfl, W5, W5, ug, ug, by omega, fun H6 p5 s6 n5 A6 => ?_⟩
    have S6 := S5.trans s6
    have n5H : H p5 = none := S5.free n5
    have O6 := O5.same s6
    have W6 := W5.same s6
    have V6 := V5.same s6
    have z6 : In (ch g g) [] := fun k h => by
      unfold ch at h
      rw [if_pos rfl] at h
      cases h
    obtain ⟨kv6, ek6, bk6⟩ := id A6
    have l6 : kv6.length = 0 := Nat.le_zero.mp (bk6.le z6)
    refine ⟨_, rfl, p5, _, rfl, A6, _, rfl, iteF ⟨_, rfl, p5, kv6, rfl, ek6, _, _, rfl, rfl, _, rfl, ?_⟩⟩
    rw [l6]
    refine iteF ?_
    obtain ⟨H7, dp7, A7, k7⟩ := A6.put z6 (by show 0 ≤ 1000; omega) 200 5
    refine ⟨_, rfl, p5, H7, rfl, dp7, ?_⟩
    have S7 := Same.keep S6 n5H k7
    have O7 := O6.keep (O5.no n5) k7
    have W7 := W6.keep (W5.no n5) k7
    have V7 := V6.keep (V5.no n5) k7
    refine ⟨_, rfl, _, rfl, p1, p2, f, g, ps, rfl, O7, W7, uf, ug, by omega, fun H8 p6 s8 n6 A8 => ?_⟩
    have S8 := S7.trans s8
    have n6H : H p6 = none := S7.free n6
    have O8 := O7.same s8
    have W8 := W7.same s8
    have V8 := V7.same s8
    refine ⟨_, rfl, p6, _, rfl, A8, _, rfl, iteF ⟨_, rfl, _, rfl, ne_at A8 V8 ⟨_, rfl, iteF ⟨_, rfl, _, rfl, ne_at O8 (D0.same S8) ⟨_, rfl, iteF ⟨_, rfl, _, rfl, ne_at W8 (E0.same S8) ⟨_, rfl, iteF ?_⟩⟩⟩⟩⟩⟩⟩
    refine ⟨_, rfl, _, rfl, p1, p6, f, ch f g, ps, rfl, O8, A8, uf, uc, z1, fun H9 p7 s9 n7 B9 => ?_⟩
    have B9 := B9.congr (wr_ch pf pg)
    have S9 := S8.trans s9
    have n7H : H p7 = none := S8.free n7
    refine ⟨_, rfl, p7, _, rfl, B9, _, rfl, iteF ⟨_, rfl, _, rfl, ne_at B9 (E0.same S9) ⟨_, rfl, iteF ?_⟩⟩⟩
    obtain ⟨H10, dp10, B10, k10⟩ := B9.put ug z1 200 5
    refine ⟨_, rfl, p7, H10, rfl, dp10, ?_⟩
    have S10 := Same.keep S9 n7H k10
    have O10 := (O8.same s9).keep (O8.no n7) k10
    have W10 := (W8.same s9).keep (W8.no n7) k10
    have V10 := (V8.same s9).keep (V8.no n7) k10
    have A10 := (A8.same s9).keep (A8.no n7) k10
    refine ⟨_, rfl, _, rfl, p1, p6, f, ch f g, ps, rfl, O10, A10, uf, uc, z1, fun H11 p8 s11 n8 B11 => ?_⟩
    have B11 := B11.congr (wr_ch pf pg)
    have S11 := S10.trans s11
    have n8H : H p8 = none := S10.free n8
    have O11 := O10.same s11
    have W11 := W10.same s11
    have V11 := V10.same s11
    have A11 := A10.same s11
    have E11 := E0.same S11
    refine ⟨_, rfl, p8, _, rfl, B11, _, rfl, iteF ⟨_, rfl, _, rfl, ne_at B11 E11 ⟨_, rfl, iteF ⟨_, rfl, _, rfl, ne_at O11 (D0.same S11) ⟨_, rfl, iteF ⟨_, rfl, _, rfl, ne_at A11 V11 ⟨_, rfl, iteF ?_⟩⟩⟩⟩⟩⟩⟩
    obtain ⟨H12, dp12, O12, k12⟩ := O11.put uf z1 201 4
    refine ⟨_, rfl, p1, H12, rfl, dp12, ?_⟩
    have o8 : p8 ≠ p1 := (O10.no n8).symm
    have v8 : p8 ≠ p3 := (V10.no n8).symm
    have S12 := Same.keep S11 n1H k12
    have V12 := V11.keep o3.symm k12
    have W12 := W11.keep w1 k12
    have B12 := B11.keep o8 k12
    have E12 := E11.keep e1 k12
    obtain ⟨H13, dp13, V13, k13⟩ := V12.put uc z1 201 0
    refine ⟨_, rfl, p3, H13, rfl, dp13, ?_⟩
    have S13 := Same.keep S12 n3H k13
    have O13 := O12.keep o3 k13
    have W13 := W12.keep w3 k13
    have B13 := B12.keep v8 k13
    have E13 := E12.keep e3 k13
    refine ⟨_, rfl, _, rfl, p1, p2, _, g, 201 :: ps, rfl, O13, W13, uf.cons 201 4, ug.wide 201, by rw [List.length_cons]; omega, fun H14 p9 s14 n9 A14 => ?_⟩
    have A14 : At H14 p9 (fun j => if j = 201 then some 0 else ch f g j) := A14.congr fun k => by
      by_cases c : k = 201
      · subst c
        have g0 : g 201 = none := by
          cases q : g 201 with
          | none => rfl
          | some v => exact absurd (ug 201 (by rw [q]; rfl)) n201
        simp [ch, gv, g0]
      · have e : gv (fun j => if j = 201 then some 4 else f j) k = gv f k := by
          show (if k = 201 then some 4 else f k).getD 0 = _
          rw [if_neg c]
          rfl
        show (if gv (fun j => if j = 201 then some 4 else f j) k = gv g k then none else some (gv g k)) = if k = 201 then some 0 else (if gv f k = gv g k then none else some (gv g k))
        rw [if_neg c, e]
    have S14 := S13.trans s14
    refine ⟨_, rfl, p9, _, rfl, A14, _, rfl, iteT ⟨_, rfl, _, rfl, eq_at A14 (V13.same s14) ⟨_, rfl, iteT ⟨_, rfl, _, rfl, eq_at (B13.same s14) (E13.same s14) ⟨_, rfl, iteT ⟨_, rfl, _, rfl, eq_at (W13.same s14) (E13.same s14) ?_⟩⟩⟩⟩⟩⟩
    exact q H14 S14
end
theorem In.none {f : Int → Option Int} {ps : List Int} (u : In f ps) {k : Int} (h : k ∉ ps) : f k = Option.none := by
  cases q : f k with
  | none => rfl
  | some v => exact absurd (u k (by rw [q]; rfl)) h
theorem wr_in {f g : Int → Option Int} {ps : List Int} (uf : In f ps) (ug : In g ps) : In (wr f g) ps := fun k h => by
  by_cases c : k ∈ ps
  · exact c
  · unfold wr at h
    rw [ug.none c, uf.none c] at h
    cases h
theorem af_ps {f g : Int → Option Int} {ps : List Int} (pf : Pos f) (ng : Non g) (uf : In f ps) (ug : In g ps) (k : Int) : (if k ∈ ps then af f g k else none) = wr f g k := by
  by_cases c : k ∈ ps
  · rw [if_pos c]
    unfold af wr
    cases hg : g k with
    | none =>
      show (if 0 < gv f k then some (gv f k) else none) = f k
      have h0 := pf.gv k
      rw [pos_gv pf k]
      by_cases c0 : gv f k = 0
      · rw [if_pos c0, if_neg (by omega)]
      · rw [if_neg c0, if_pos (by omega)]
    | some v =>
      have h0 := ng k v hg
      show (if 0 < v then some v else none) = if v = 0 then none else some v
      by_cases c0 : v = 0
      · rw [if_pos c0, if_neg (by omega)]
      · rw [if_neg c0, if_pos (by omega)]
  · rw [if_neg c]
    unfold wr
    rw [ug.none c, uf.none c]
theorem in_none0 (ps : List Int) : In none0 ps := fun k h => by cases h
theorem pos_none0 : Pos none0 := fun k v h => by cases h
theorem At.new {H : Hp} {p : Addr} : At (L2.upd H p (.dK [])) p none0 := ⟨[], upd_same, Bk.nil⟩
def sp_writing (K : PySem.W.Frag) : Sp := fun vs H Q _ => ∃ (d e l : Addr) (f g : Int → Option Int) (ps : List Int), vs = [.ref d, .ref e, .ref l] ∧ At H d f ∧ At H e g ∧ Pos f ∧ Non g ∧ In f ps ∧ In g ps ∧ SqL K H l (ps.map V.int) ∧ ps.length ≤ 62 ∧ ∀ H', Same H H' → Q (.bl true) H'
section
variable {P : Program} {w : World} {K : PySem.W.Frag} {mg : Str → Option Value} {base : Heap}
theorem ok_writing (T : Txt K mg) : FnOk P w K mg base CX0 2 T.f_writing T.fd_writing ["_law_base", "_law_writes", "_law_places_here"] (sp_writing K) := by
  have G_copy : FnOk P w K mg base CX0 1 T.f_copy T.fd_copy ["_law_book"] sp_copy := ok_copy T
  have G_is_book : FnOk P w K mg base CX0 1 T.f_is_book T.fd_is_book ["_law_told"] sp_is_book := ok_is_book T
  have G_after : FnOk P w K mg base CX0 1 T.f_after T.fd_after ["_law_book", "_law_writes", "_law_places_here"] (sp_after K) := ok_after T
  have G_with_writes : FnOk P w K mg base CX0 1 T.f_with_writes T.fd_with_writes ["book", "writes"] sp_with_writes := ok_with_writes T
  refine T.F_writing.ok sc_writing (fun vs H Q E h => ?_) (fun cdv A outer s H vs Q E hr h => ?_)
  · obtain ⟨d, e, l, f, g, ps, rfl, _⟩ := h
    rfl
  · obtain ⟨d, e, l, f, g, ps, rfl, D0, E0, pf, ng, uf, ug, hl, hz, q⟩ := h
    have hu := hu_of hr
    have uw := wr_in uf ug
    have z1 : ps.length ≤ 1000 := by omega
    have z5 : ps.length ≤ 500 := by omega
    refine ⟨_, (pss_cons (ps_set (i := 3) sc_writing.nd rfl (Or.inl rfl) (pe_call G_copy (hr.mono (by omega)) (by rfl) T.g_copy T.F_copy.kp T.b_copy .nil pass0 (pa_cons (pv 0) pa_nil)))
      (pss_cons (ps_set (i := 4) sc_writing.nd rfl (Or.inl rfl) (pe_call G_copy (hr.mono (by omega)) (by rfl) T.g_copy T.F_copy.kp T.b_copy .nil pass0 (pa_cons (pv 1) pa_nil)))
      (pss_cons (ps_set (i := 5) sc_writing.nd rfl (Or.inl rfl) (pe_call G_after (hr.mono (by omega)) (by rfl) T.g_after T.F_after.kp T.b_after .nil pass0 (pa_cons (pv 0) (pa_cons (pv 1) (pa_cons (pv 2) pa_nil)))))
      (pss_cons (ps_set (i := 6) sc_writing.nd rfl (Or.inl rfl) (pe_call G_with_writes (hr.mono (by omega)) (by rfl) T.g_with_writes T.F_with_writes.kp T.b_with_writes .nil pass0 (pa_cons (pv 3) (pa_cons (pv 4) pa_nil))))
      (pss_cons (ps_if (PW.pt (pw_or (pt_not (pt_val (pe_call G_is_book (hr.mono (by omega)) (by rfl) T.g_is_book T.F_is_book.kp T.b_is_book .nil pass0 (pa_cons (pv 6) pa_nil)))) (pw_or (pt_cmpR (op_ne_dictA hr.units0) (pv 6) (pv 5) (nomark _)) (pw_or (pt_cmpR (op_ne_dictA hr.units0) (pv 3) (pv 0) (nomark _)) (pw_or1 (pt_cmpR (op_ne_dictA hr.units0) (pv 4) (pv 1) (nomark _)))))))
      (pss_one (ps_ret pe_bl))
      pss_nil)
      (pss_cons (ps_dput hu (pv 6) pe_int pe_int rfl)
      (pss_cons (ps_set (i := 7) sc_writing.nd rfl (Or.inl rfl) (pe_call G_with_writes (hr.mono (by omega)) (by rfl) T.g_with_writes T.F_with_writes.kp T.b_with_writes .nil pass0 (pa_cons (pv 3) (pa_cons pe_dnewK pa_nil))))
      (pss_cons (ps_if (PW.pt (pw_or (pt_not (pt_val (pe_call G_is_book (hr.mono (by omega)) (by rfl) T.g_is_book T.F_is_book.kp T.b_is_book .nil pass0 (pa_cons (pv 7) pa_nil)))) (pw_or (pt_cmpR (op_ne_dictA hr.units0) (pv 7) (pv 0) (nomark _)) (pw_or1 (pt_cmpR (op_ne_dictA hr.units0) (pv 3) (pv 0) (nomark _))))))
      (pss_one (ps_ret pe_bl))
      pss_nil)
      (pss_cons (ps_dput hu (pv 7) pe_int pe_int rfl)
      (pss_cons (ps_set (i := 8) sc_writing.nd rfl (Or.inl rfl) (pe_call G_with_writes (hr.mono (by omega)) (by rfl) T.g_with_writes T.F_with_writes.kp T.b_with_writes .nil pass0 (pa_cons pe_dnewK (pa_cons (pv 4) pa_nil))))
      (pss_cons (ps_if (PW.pt (pw_or (pt_not (pt_val (pe_call G_is_book (hr.mono (by omega)) (by rfl) T.g_is_book T.F_is_book.kp T.b_is_book .nil pass0 (pa_cons (pv 8) pa_nil)))) (pw_or1 (pt_cmpR (op_ne_dictA hr.units0) (pv 8) (pe_call G_after (hr.mono (by omega)) (by rfl) T.g_after T.F_after.kp T.b_after .nil pass0 (pa_cons pe_dnewK (pa_cons (pv 1) (pa_cons (pv 2) pa_nil)))) (nomark _)))))
      (pss_one (ps_ret pe_bl))
      pss_nil)
      (pss_cons (ps_dput hu (pv 8) pe_int pe_int rfl)
      (pss_cons (ps_set (i := 9) sc_writing.nd rfl (Or.inl rfl) (pe_call G_with_writes (hr.mono (by omega)) (by rfl) T.g_with_writes T.F_with_writes.kp T.b_with_writes .nil pass0 (pa_cons (pv 3) (pa_cons (pv 4) pa_nil))))
      (pss_cons (ps_if (PW.pt (pw_or (pt_not (pt_val (pe_call G_is_book (hr.mono (by omega)) (by rfl) T.g_is_book T.F_is_book.kp T.b_is_book .nil pass0 (pa_cons (pv 9) pa_nil)))) (pw_or (pt_cmpR (op_ne_dictA hr.units0) (pv 9) (pv 5) (nomark _)) (pw_or (pt_cmpR (op_ne_dictA hr.units0) (pv 3) (pv 0) (nomark _)) (pw_or1 (pt_cmpR (op_ne_dictA hr.units0) (pv 4) (pv 1) (nomark _)))))))
      (pss_one (ps_ret pe_bl))
      pss_nil)
      (pss_cons (ps_dput hu (pv 3) pe_int pe_int rfl)
      (pss_cons (ps_dput hu (pv 4) pe_int pe_int rfl)
      (pss_one (ps_ret (pe_cmpR (op_eq_dictA hr.units0) (pv 9) (pv 5) (nomark _)))))))))))))))))))), ?_⟩
    refine ⟨_, rfl, d, f, ps, rfl, D0, uf, z1, fun H1 p1 s1 n1 O1 => ?_⟩
    have E1 := E0.same s1
    refine ⟨_, rfl, e, g, ps, rfl, E1, ug, z1, fun H2 p2 s2 n2 W2 => ?_⟩
    have S2 := s1.trans s2
    refine ⟨_, rfl, _, rfl, _, rfl, d, e, l, f, g, ps, rfl, D0.same S2, E0.same S2, S2.seq hl, z5, fun H3 p3 s3 n3 V3 => ?_⟩
    have V3 := V3.congr (af_ps pf ng uf ug)
    have S3 := S2.trans s3
    have O3 := (O1.same s2).same s3
    have W3 := W2.same s3
    refine ⟨_, rfl, _, rfl, p1, p2, f, g, ps, rfl, O3, W3, uf, ug, z1, fun H4 p4 s4 n4 A4 => ?_⟩
    have S4 := S3.trans s4
    have O4 := O3.same s4
    have W4 := W3.same s4
    have V4 := V3.same s4
    have n1H : H p1 = none := n1
    have n2H : H p2 = none := s1.free n2
    have n3H : H p3 = none := S2.free n3
    have n4H : H p4 = none := S3.free n4
    have o3 := (O1.same s2).no n3
    have w1 : p2 ≠ p1 := (O1.no n2).symm
    refine ⟨_, rfl, p4, _, rfl, A4, _, rfl, iteF ⟨_, rfl, _, rfl, ne_at A4 V4 ⟨_, rfl, iteF ⟨_, rfl, _, rfl, ne_at O4 (D0.same S4) ⟨_, rfl, iteF ⟨_, rfl, _, rfl, ne_at W4 (E0.same S4) ⟨_, rfl, iteF ?_⟩⟩⟩⟩⟩⟩⟩
    obtain ⟨H5, dp5, _, k5⟩ := A4.put uw z1 200 5
    refine ⟨_, rfl, p4, H5, rfl, dp5, ?_⟩
    have S5 := Same.keep S4 n4H k5
    have O5 := O4.keep (O3.no n4) k5
    have W5 := W4.keep (W3.no n4) k5
    have V5 := V4.keep (V3.no n4) k5
    -- nothing written
    refine ⟨_, rfl, fun pz hpz => ?_⟩
    have sz : Same H5 (L2.upd H5 pz (.dK [])) := Same.new hpz
    refine ⟨p1, pz, f, none0, ps, rfl, O5.same sz, At.new, uf, in_none0 _, z1, fun H6 p5 s6' n5 A6 => ?_⟩
    have A6 : At H6 p5 f := A6.congr fun k => rfl
    have s6 := sz.trans s6'
    have n5 := sz.free n5
    have S6 := S5.trans s6
    have n5H : H p5 = none := Same.free S5 n5
    have O6 := O5.same s6
    have W6 := W5.same s6
    have V6 := V5.same s6
    refine ⟨_, rfl, p5, _, rfl, A6, _, rfl, iteF ⟨_, rfl, _, rfl, ne_at A6 (D0.same S6) ⟨_, rfl, iteF ⟨_, rfl, _, rfl, ne_at O6 (D0.same S6) ⟨_, rfl, iteF ?_⟩⟩⟩⟩⟩
    obtain ⟨H7, dp7, _, k7⟩ := A6.put uf z1 200 5
    refine ⟨_, rfl, p5, H7, rfl, dp7, ?_⟩
    have S7 := Same.keep S6 n5H k7
    have O7 := O6.keep (O5.no n5) k7
    have W7 := W6.keep (W5.no n5) k7
    have V7 := V6.keep (V5.no n5) k7
    -- written onto nothing
    refine fun py hpy => ⟨_, rfl, ?_⟩
    have sy : Same H7 (L2.upd H7 py (.dK [])) := Same.new hpy
    refine ⟨py, p2, none0, g, ps, rfl, At.new, W7.same sy, in_none0 _, ug, z1, fun H8 p6 s8' n6 A8 => ?_⟩
    have s8 := sy.trans s8'
    have n6 := sy.free n6
    have S8 := S7.trans s8
    have n6H : H p6 = none := Same.free S7 n6
    have O8 := O7.same s8
    have W8 := W7.same s8
    have V8 := V7.same s8
    refine ⟨_, rfl, p6, _, rfl, A8, _, rfl, iteF ⟨_, rfl, fun px hpx => ⟨_, rfl, _, rfl, ?_⟩⟩⟩
    have sx : Same H8 (L2.upd H8 px (.dK [])) := Same.new hpx
    have S8x := S8.trans sx
    refine ⟨px, e, l, none0, g, ps, rfl, At.new, E0.same S8x, S8x.seq hl, z5, fun H9 p7 s9' n7 B9 => ?_⟩
    have B9 := B9.congr (af_ps pos_none0 ng (in_none0 _) ug)
    have s9 := sx.trans s9'
    have S9 := S8.trans s9
    refine ne_at (A8.same s9) B9 ⟨_, rfl, iteF ?_⟩
    obtain ⟨H10, dp10, _, k10⟩ := (A8.same s9).put (wr_in (in_none0 _) ug) z1 200 5
    refine ⟨_, rfl, p6, H10, rfl, dp10, ?_⟩
    have S10 := Same.keep S9 n6H k10
    have O10 := (O8.same s9).keep (O7.no n6) k10
    have W10 := (W8.same s9).keep (W7.no n6) k10
    have V10 := (V8.same s9).keep (V7.no n6) k10
    refine ⟨_, rfl, _, rfl, p1, p2, f, g, ps, rfl, O10, W10, uf, ug, z1, fun H11 p8 s11 n8 B11 => ?_⟩
    have S11 := S10.trans s11
    have O11 := O10.same s11
    have W11 := W10.same s11
    have V11 := V10.same s11
    refine ⟨_, rfl, p8, _, rfl, B11, _, rfl, iteF ⟨_, rfl, _, rfl, ne_at B11 V11 ⟨_, rfl, iteF ⟨_, rfl, _, rfl, ne_at O11 (D0.same S11) ⟨_, rfl, iteF ⟨_, rfl, _, rfl, ne_at W11 (E0.same S11) ⟨_, rfl, iteF ?_⟩⟩⟩⟩⟩⟩⟩
    obtain ⟨H12, dp12, _, k12⟩ := O11.put uf z1 201 4
    refine ⟨_, rfl, p1, H12, rfl, dp12, ?_⟩
    have S12 := Same.keep S11 n1H k12
    have V12 := V11.keep o3.symm k12
    have W12 := W11.keep w1 k12
    have B12 := B11.keep (O10.no n8).symm k12
    obtain ⟨H13, dp13, _, k13⟩ := W12.put ug z1 202 3
    refine ⟨_, rfl, p2, H13, rfl, dp13, ?_⟩
    have S13 := Same.keep S12 n2H k13
    have V13 := V12.keep (W2.no n3).symm k13
    have B13 := B12.keep (W10.no n8).symm k13
    exact ⟨_, rfl, _, rfl, eq_at B13 V13 (q H13 S13)⟩
end
theorem TabG.ne {H : Hp} {a p : Addr} (t : TabG H a) (n : H p = none) : a ≠ p := by
  obtain ⟨ps, e, _⟩ := t
  exact ne_of_none e n
theorem TabG.new {H : Hp} {tb p : Addr} {o : HO} (t : TabG H tb) (n : H p = none) : TabG (L2.upd H p o) tb := by
  have h := TabG.ne t n
  obtain ⟨ps, e, ht⟩ := t
  exact ⟨ps, by rw [upd_ne h]; exact e, ht⟩
theorem TabG.same {H H' : Hp} {tb : Addr} (t : TabG H tb) (s : Same H H') : TabG H' tb := let ⟨ps, e, ht⟩ := t; ⟨ps, s _ _ e, ht⟩
/-- all is kept but the table at tb -/
def Kt (tb : Addr) (H H' : Hp) : Prop := (∀ b o, b ≠ tb → H b = some o → H' b = some o) ∧ TabG H' tb
theorem Kt.refl {tb : Addr} {H : Hp} (t : TabG H tb) : Kt tb H H := ⟨fun _ _ _ e => e, t⟩
theorem Kt.trans {tb : Addr} {H H1 H2 : Hp} (x : Kt tb H H1) (y : Kt tb H1 H2) : Kt tb H H2 := ⟨fun b o n e => y.1 b o n (x.1 b o n e), y.2⟩
theorem Kt.new {tb p : Addr} {H H' : Hp} {o : HO} (x : Kt tb H H') (n : H' p = none) : Kt tb H (L2.upd H' p o) := ⟨fun b o nb e => (Same.new n) _ _ (x.1 b o nb e), TabG.new x.2 n⟩
theorem Kt.tabbed {tb : Addr} {H H1 H2 : Hp} (x : Kt tb H H1) (t : Tabbed tb H1 H2) : Kt tb H H2 := ⟨fun b o nb e => by rw [t.2 b nb]; exact x.1 b o nb e, t.1⟩
theorem Kt.of {tb : Addr} {H H' : Hp} (t : TabG H tb) (s : Same H H') : Kt tb H H' := ⟨fun b o _ e => s b o e, TabG.same t s⟩
theorem ne_tab {H : Hp} {a tb : Addr} {o : HO} (t : TabG H tb) (e : H a = some o) (h : ∀ q, o ≠ .tbl q) : a ≠ tb := fun z => by
  obtain ⟨ps, ht, _⟩ := t
  rw [z, ht] at e
  exact h ps (Option.some.inj e).symm
theorem At.kt {H H' : Hp} {d tb : Addr} {f : Int → Option Int} (x : At H d f) (t : TabG H tb) (k : Kt tb H H') : At H' d f := by
  obtain ⟨kvs, e, b⟩ := x
  exact ⟨kvs, k.1 _ _ (ne_tab t e fun q z => by cases z) e, b⟩
theorem Mk.kt {H H' : Hp} {tb : Addr} {m : Addr × Int × Int} (x : Mk H m) (t : TabG H tb) (k : Kt tb H H') : Mk H' m := k.1 _ _ (ne_tab t x fun q z => by cases z) x
theorem Mk.same {H H' : Hp} {m : Addr × Int × Int} (x : Mk H m) (s : Same H H') : Mk H' m := s _ _ x
theorem lst_kt {H H' : Hp} {l tb : Addr} {xs : List V} (e : H l = some (.lst xs)) (t : TabG H tb) (k : Kt tb H H') : H' l = some (.lst xs) := k.1 _ _ (ne_tab t e fun q z => by cases z) e
theorem sqL_kt {K : PySem.W.Frag} {H H' : Hp} {l tb : Addr} {xs : List V} (a : SqL K H l xs) (t : TabG H tb) (k : Kt tb H H') : SqL K H' l xs := by
  rcases a with (a | ⟨o, a⟩) | a
  · exact .inl (.inl (k.1 _ _ (ne_tab t a fun q z => by cases z) a))
  · exact .inl (.inr ⟨o, k.1 _ _ (ne_tab t a fun q z => by cases z) a⟩)
  · exact .inr a
/-- do the marks hold? -/
def allM (f : Int → Option Int) (ms : List (Addr × Int × Int)) : Bool := ms.all fun m => decide (gv f m.2.1 = m.2.2)
def sp_holding (K : PySem.W.Frag) (tb : Addr) : Sp := fun vs H Q _ => ∃ (d l : Addr) (f : Int → Option Int) (ms : List (Addr × Int × Int)), vs = [.ref d, .ref l, .bl (allM f ms)] ∧ At H d f ∧ SqL K H l (ms.map fun m => V.ref m.1) ∧ (∀ m ∈ ms, Mk H m) ∧ TabG H tb ∧ ∀ H', Kt tb H H' → Q (.bl true) H'
section
variable {P : Program} {w : World} {K : PySem.W.Frag} {mg : Str → Option Value} {base : Heap}
theorem ok_holding {tb c : Addr} (TB : TabB base mg c tb) (T : Txt K mg) (hc : T.fd_holds.code = .ref c) : FnOk P w K mg base CX0 4 T.f_holding T.fd_holding ["_law_one", "_law_marks", "_law_due"] (sp_holding K tb) := by
  have G_holds : FnOk P w K mg base CX0 3 T.f_holds T.fd_holds ["book", "marks"] (sp_holds K tb) := ok_holds TB T hc (ok_value_at T)
  refine T.F_holding.ok sc_holding (fun vs H Q E h => ?_) (fun cdv A outer s H vs Q E hr h => ?_)
  · obtain ⟨d, l, f, ms, rfl, _⟩ := h
    rfl
  · obtain ⟨d, l, f, ms, rfl, D0, hl, hm, ht, q⟩ := h
    have hu := hu_of hr
    refine ⟨_, (pss_cons (ps_set (i := 3) sc_holding.nd rfl (Or.inl rfl) (pe_call G_holds (hr.mono (by omega)) (by rfl) T.g_holds T.F_holds.kp T.b_holds .nil pass0 (pa_cons (pv 0) (pa_cons (pe_callTy (r := rListK K) call_list_of (by rfl) T.z_list (by decide +kernel) (pa_cons (pv 1) pa_nil)) pa_nil))))
      (pss_cons (ps_if (PW.pt (pw_or (pt_not (pt_val (pe_callB (r := rIsi K) call_isi (by rfl) T.z_isinstance (by decide +kernel) (pa_cons (pv 3) (pa_cons (pe_bltn (v := .ty "bool") (u := .type "bool") (by rfl) T.z_bool (by decide +kernel) rfl) pa_nil))))) (pw_or1 (pt_cmpR op_ne (pv 3) (pv 2) (nomark _)))))
      (pss_one (ps_ret pe_bl))
      pss_nil)
      (pss_cons (ps_set (i := 3) sc_holding.nd rfl (Or.inl rfl) (pe_call G_holds (hr.mono (by omega)) (by rfl) T.g_holds T.F_holds.kp T.b_holds .nil pass0 (pa_cons (pv 0) (pa_cons (pe_callTy (r := rTupleK K) call_tuple_of (by rfl) T.z_tuple (by decide +kernel) (pa_cons (pv 1) pa_nil)) pa_nil))))
      (pss_one (ps_ret (pe_and (pe_callB (r := rIsi K) call_isi (by rfl) T.z_isinstance (by decide +kernel) (pa_cons (pv 3) (pa_cons (pe_bltn (v := .ty "bool") (u := .type "bool") (by rfl) T.z_bool (by decide +kernel) rfl) pa_nil))) (pe_one (pe_cmpR op_eq (pv 3) (pv 2) (nomark _))))))))), ?_⟩
    refine ⟨_, rfl, _, rfl, l, _, rfl, .inl hl, fun p hp => ?_⟩
    have s1 : Same H (L2.upd H p (.lst (ms.map fun m => V.ref m.1))) := Same.new hp
    have K1 : Kt tb H (L2.upd H p (.lst (ms.map fun m => V.ref m.1))) := Kt.of ht s1
    refine ⟨d, p, f, ms, rfl, D0.kt ht K1, .inl (SqL.of upd_same), fun m h => (hm m h).kt ht K1, K1.2, fun H2 t2 => ?_⟩
    have K2 := K1.tabbed t2
    refine ⟨_, rfl, _, _, _, _, true, rfl, .ty "bool", .base (.bl _), kit_ty (by decide +kernel), _, rfl, iteF ⟨_, rfl, _, rfl, rfl, _, rfl, ite2 (fun h => ?_) (fun h => ?_)⟩⟩
    · exact absurd h (by simp [allM])
    refine ⟨_, rfl, _, rfl, l, _, rfl, .inl ⟨sqL_kt hl ht K2, fun p3 hp3 => ?_⟩⟩
    have K3 : Kt tb H (L2.upd H2 p3 (.tup (ms.map fun m => V.ref m.1))) := K2.new hp3
    refine ⟨d, p3, f, ms, rfl, D0.kt ht K3, .inr (SqT.of upd_same), fun m h => (hm m h).kt ht K3, K3.2, fun H4 t4 => ?_⟩
    have K4 := K3.tabbed t4
    refine ⟨_, rfl, _, _, _, _, true, rfl, .ty "bool", .base (.bl _), kit_ty (by decide +kernel), _, rfl, iteT ⟨_, rfl, _, rfl, rfl, ?_⟩⟩
    have e : decide (V.bl (ms.all fun m => decide (gv f m.2.1 = m.2.2)) = V.bl (allM f ms)) = true := by simp [allM]
    rw [e]
    exact q H4 K4
end
def encM (ms : List (Addr × Int × Int)) : PyData := .list (ms.map fun m => .tuple [.int m.2.1, .int m.2.2])
theorem dp_msA {K : PySem.W.Frag} {H : Hp} : ∀ {ms : List (Addr × Int × Int)}, (∀ m ∈ ms, Mk H m) → DpAll K H (ms.map fun m => V.ref m.1) (ms.map fun m => PyData.tuple [.int m.2.1, .int m.2.2])
  | [], _ => .nil
  | m :: ms, h => .cons (.tup (SqT.of (h m List.mem_cons_self)) (.cons (.int _) (.cons (.int _) .nil))) (dp_msA fun n hn => h n (List.mem_cons_of_mem _ hn))
theorem dp_ms {K : PySem.W.Frag} {H : Hp} {p : Addr} {ms : List (Addr × Int × Int)} (hp : H p = some (.lst (ms.map fun m => V.ref m.1))) (h : ∀ m ∈ ms, Mk H m) : Dp K H (.ref p) (encM ms) := .lst (SqL.of hp) (dp_msA h)
theorem lay_ms : ∀ ms : List (Addr × Int × Int), PyData.canLayAll0 (ms.map fun m => PyData.tuple [.int m.2.1, .int m.2.2]) = true ∧ PyData.depthAll (ms.map fun m => PyData.tuple [.int m.2.1, .int m.2.2]) ≤ 5
  | [] => ⟨rfl, Nat.zero_le _⟩
  | b :: r => by
    obtain ⟨h1, h2⟩ := lay_ms r
    constructor
    · simp only [List.map_cons, PyData.canLayAll0, PyData.canLay0, Bool.true_and, Bool.and_true]
      exact h1
    · simp only [List.map_cons, PyData.depthAll, PyData.depth]
      omega
theorem shaped_ms (ms : List (Addr × Int × Int)) : SeqAt.shaped (encM ms) = true := by
  obtain ⟨h1, h2⟩ := lay_ms ms
  unfold SeqAt.shaped encM
  simp only [PyData.canLay0, PyData.depth, h1, Bool.true_and]
  exact decide_eq_true (by omega)
theorem eqv_msA : ∀ ms : List (Addr × Int × Int), PyData.eqvAll (ms.map fun m => PyData.tuple [.int m.2.1, .int m.2.2]) (ms.map fun m => PyData.tuple [.int m.2.1, .int m.2.2]) = true
  | [] => by simp [PyData.eqvAll]
  | m :: ms => by
    have ih := eqv_msA ms
    simp only [List.map_cons, PyData.eqvAll, PyData.eqv, ih, Bool.and_true, beq_self_eq_true]
theorem eqv_ms (ms : List (Addr × Int × Int)) : PyData.eqv (encM ms) (encM ms) = true := by
  unfold encM
  rw [PyData.eqv]
  exact eqv_msA ms
theorem lift_ms {ms : List (Addr × Int × Int)} : ∀ {ys : List V}, (∀ y ∈ ys, y ∈ ms.map fun m => V.ref m.1) → ∃ ns : List (Addr × Int × Int), ys = ns.map (fun m => V.ref m.1) ∧ ∀ n ∈ ns, n ∈ ms
  | [], _ => ⟨[], rfl, fun n h => by cases h⟩
  | y :: ys, h => by
    obtain ⟨m, hm, e⟩ := List.mem_map.mp (h y List.mem_cons_self)
    obtain ⟨ns, e2, h2⟩ := lift_ms fun z hz => h z (List.mem_cons_of_mem _ hz)
    refine ⟨m :: ns, by rw [List.map_cons, ← e2, e], fun n hn => ?_⟩
    rcases List.mem_cons.mp hn with rfl | hn
    · exact hm
    · exact h2 n hn
theorem all_ok {f : Int → Option Int} {ms : List (Addr × Int × Int)} (h : ∀ m ∈ ms, gv f m.2.1 = m.2.2) : allM f ms = true := List.all_eq_true.mpr fun m hm => decide_eq_true (h m hm)
/-- one mark set otherwise -/
theorem all_mid {f : Int → Option Int} {xs ys : List (Addr × Int × Int)} {m : Addr × Int × Int} (hx : ∀ m ∈ xs, gv f m.2.1 = m.2.2) (hy : ∀ m ∈ ys, gv f m.2.1 = m.2.2) : allM f (xs ++ [m] ++ ys) = decide (gv f m.2.1 = m.2.2) := by
  have h1 := all_ok hx
  have h2 := all_ok hy
  unfold allM at h1 h2 ⊢
  rw [List.all_append, List.all_append, h1, h2]
  simp
def Kb (a tb : Addr) (H H' : Hp) : Prop := (∀ b o, b ≠ a → b ≠ tb → H b = some o → H' b = some o) ∧ Box H' a ∧ TabG H' tb
theorem Box.tab {H : Hp} {a tb : Addr} (b : Box H a) (t : TabG H tb) : a ≠ tb := by
  obtain ⟨x, y, z, e⟩ := b.lst
  exact ne_tab t e fun q z => by cases z
theorem TabG.but {H H' : Hp} {a tb : Addr} (t : TabG H tb) (b : Box H a) (h : But a H H') : TabG H' tb := by
  have n := Box.tab b t
  obtain ⟨ps, e, ht⟩ := t
  exact ⟨ps, h.1 _ _ n.symm e, ht⟩
def sp_telling (tb : Addr) : Sp := fun vs H Q _ => ∃ (a d l : Addr) (f : Int → Option Int) (U ps : List Int), vs = [.ref a, .ref d, .ref l] ∧ Box H a ∧ At H d f ∧ In f U ∧ U.length ≤ 62 ∧ H l = some (.lst (ps.map V.int)) ∧ l ≠ a ∧ (203 : Int) ∉ ps ∧ ps.length ≤ 62 ∧ TabG H tb ∧ ∀ H', Kb a tb H H' → Q (.bl true) H'
section
variable {P : Program} {w : World} {K : PySem.W.Frag} {mg : Str → Option Value} {base : Heap}
theorem ok_telling {tb c : Addr} (TB : TabB base mg c tb) (T : Txt K mg) (hc : T.fd_holds.code = .ref c) : FnOk P w K mg base CX0 5 T.f_telling T.fd_telling ["_law_box", "_law_book", "_law_places_here"] (sp_telling tb) := by
  have G_value_at : FnOk P w K mg base CX0 1 T.f_value_at T.fd_value_at ["book", "place"] sp_value_at := ok_value_at T
  have G_copy : FnOk P w K mg base CX0 1 T.f_copy T.fd_copy ["_law_book"] sp_copy := ok_copy T
  have G_choose : FnOk P w K mg base CX0 2 T.f_choose T.fd_choose ["_law_box", "_law_rows", "_law_count"] (sp_choose K) := ok_choose T
  have G_holds : FnOk P w K mg base CX0 3 T.f_holds T.fd_holds ["book", "marks"] (sp_holds K tb) := ok_holds TB T hc G_value_at
  have G_holding : FnOk P w K mg base CX0 4 T.f_holding T.fd_holding ["_law_one", "_law_marks", "_law_due"] (sp_holding K tb) := ok_holding TB T hc
  refine T.F_telling.ok sc_telling (fun vs H Q E h => ?_) (fun cdv A outer s H vs Q E hr h => ?_)
  · obtain ⟨a, d, l, f, U, ps, rfl, _⟩ := h
    rfl
  · obtain ⟨a, d, l, f, U, ps, rfl, hB, D0, uf, hU, hl, nla, n203, hz, ht, q⟩ := h
    have hu := hu_of hr
    refine ⟨_, (pss_cons (ps_set (i := 3) sc_telling.nd rfl (Or.inl rfl) (pe_call G_copy (hr.mono (by omega)) (by rfl) T.g_copy T.F_copy.kp T.b_copy .nil pass0 (pa_cons (pv 1) pa_nil)))
      (pss_cons (ps_for PassesOwn.never rfl (pi_list (pe_op op_cat (pv 2) (pe_lst (pa_cons pe_int pa_nil)))) (pg_name (i := 4) sc_telling.nd rfl (Or.inl rfl))
      (pss_cons (ps_set (i := 5) sc_telling.nd rfl (Or.inl rfl) (pe_call G_value_at (hr.mono (by omega)) (by rfl) T.g_value_at T.F_value_at.kp T.b_value_at .nil pass0 (pa_cons (pv 3) (pa_cons (pv 4) pa_nil))))
        (pss_one (ps_if (PW.pt (pw_or (pt_not (pt_val (pe_callB (r := rIsi K) call_isi (by rfl) T.z_isinstance (by decide +kernel) (pa_cons (pv 5) (pa_cons (pe_bltn (v := .ty "int") (u := .type "int") (by rfl) T.z_int (by decide +kernel) rfl) pa_nil))))) (pw_or (pt_val (pe_callB (r := rIsi K) call_isi (by rfl) T.z_isinstance (by decide +kernel) (pa_cons (pv 5) (pa_cons (pe_bltn (v := .ty "bool") (u := .type "bool") (by rfl) T.z_bool (by decide +kernel) rfl) pa_nil)))) (pw_or1 (pt_cmpR op_ne (pv 5) (pe_dget2 hu (pv 1) (pv 4) pe_int (by constructor <;> rfl)) (nomark _))))))
        (pss_one (ps_ret pe_bl))
        pss_nil))))
      (pss_cons (ps_setLc (i := 6) (own := [("_law_place", 4)]) (g := gName 4) (tt := tYes) rfl sc_telling.nd rfl rfl (sw_true rfl rfl rfl (by decide +kernel)) (pi_list (pe_op op_cat (pv 2) (pe_lst (pa_cons pe_int pa_nil)))) (blkOk_by (own := [("_law_place", 4)]) (N := N_telling) (sc := defScope s_telling) (by decide +kernel)) (fun _ _ _ _ _ => (pg_name (i := 4) sc_telling.nd rfl (Or.inl rfl))) (fun _ _ _ _ _ => pts_nil) (fun _ _ _ _ _ => (pe_tup (pa_cons (pv 4) (pa_cons (pe_dget2 hu (pv 1) (pv 4) pe_int (by constructor <;> rfl)) pa_nil)))))
      (pss_cons (ps_set (i := 7) sc_telling.nd rfl (Or.inl rfl) (pe_call G_choose (hr.mono (by omega)) (by rfl) T.g_choose T.F_choose.kp T.b_choose .nil pass0 (pa_cons (pv 0) (pa_cons (pv 6) (pa_cons (pe_callB (r := rLenK K) call_len_seq (by rfl) T.z_len PySem.boot_len (pa_cons (pv 6) pa_nil)) pa_nil)))))
      (pss_cons (ps_if (PW.pt (pw_or (pt_not (pt_val (pe_call G_holding (hr.mono (by omega)) (by rfl) T.g_holding T.F_holding.kp T.b_holding .nil pass0 (pa_cons (pv 3) (pa_cons (pv 7) (pa_cons pe_bl pa_nil)))))) (pw_or1 (pt_not (pt_val (pe_call G_holding (hr.mono (by omega)) (by rfl) T.g_holding T.F_holding.kp T.b_holding .nil pass0 (pa_cons (pv 3) (pa_cons (pe_lst pa_nil) (pa_cons pe_bl pa_nil)))))))))
      (pss_one (ps_ret pe_bl))
      pss_nil)
      (pss_cons (ps_for PassesOwn.never rfl (pi_range1 (by rfl) T.z_range (pa_cons (pe_callB (r := rLenK K) call_len_seq (by rfl) T.z_len PySem.boot_len (pa_cons (pv 7) pa_nil)) pa_nil)) (pg_name (i := 8) sc_telling.nd rfl (Or.inl rfl))
      (pss_cons (ps_set (i := 4) sc_telling.nd rfl (Or.inl rfl) (pe_ix (r := rIxT K) ix_tup (pe_ix (r := rIxL K) ix_list (pv 7) (pv 8) (fun _ _ => rfl)) pe_int (fun _ _ => rfl)))
        (pss_cons (ps_set (i := 9) sc_telling.nd rfl (Or.inl rfl) (pe_ix (r := rIxT K) ix_tup (pe_ix (r := rIxL K) ix_list (pv 7) (pv 8) (fun _ _ => rfl)) pe_int (fun _ _ => rfl)))
        (pss_one (ps_for PassesOwn.never rfl (pi_list (pe_lst (pa_cons (pv 9) (pa_cons (pe_op op_add (pv 9) pe_int) (pa_cons pe_int (pa_cons pe_int pa_nil)))))) (pg_name (i := 10) sc_telling.nd rfl (Or.inl rfl))
        (pss_cons (ps_set (i := 11) sc_telling.nd rfl (Or.inl rfl) (pe_op op_cat (pe_op op_cat (pe_slice (r := rSlL K) sl_list (pv 7) po_none (po_some (pv 8))) (pe_lst (pa_cons (pe_tup (pa_cons (pv 4) (pa_cons (pv 10) pa_nil))) pa_nil))) (pe_slice (r := rSlL K) sl_list (pv 7) (po_some (pe_op op_add (pv 8) pe_int)) po_none)))
          (pss_cons (ps_set (i := 12) sc_telling.nd rfl (Or.inl rfl) (pe_callTy (r := rListK K) call_list_of (by rfl) T.z_list (by decide +kernel) (pa_cons (pv 11) pa_nil)))
          (pss_cons (ps_set (i := 5) sc_telling.nd rfl (Or.inl rfl) (pe_call G_holds (hr.mono (by omega)) (by rfl) T.g_holds T.F_holds.kp T.b_holds .nil pass0 (pa_cons (pv 3) (pa_cons (pv 12) pa_nil))))
          (pss_cons (ps_if (PW.pt (pw_or (pt_not (pt_val (pe_callB (r := rIsi K) call_isi (by rfl) T.z_isinstance (by decide +kernel) (pa_cons (pv 5) (pa_cons (pe_bltn (v := .ty "bool") (u := .type "bool") (by rfl) T.z_bool (by decide +kernel) rfl) pa_nil))))) (pw_or (pt_cmpR op_ne (pv 5) (pe_cmpR op_eq (pv 10) (pv 9) (nomark _)) (nomark _)) (pw_or1 (pt_cmpR (r := rNeD K) (op_neD hr.units) (pv 12) (pv 11) (nomark _))))))
          (pss_one (ps_ret pe_bl))
          pss_nil)
          (pss_cons (ps_if (PW.pt (pw_or (pt_not (pt_val (pe_call G_holding (hr.mono (by omega)) (by rfl) T.g_holding T.F_holding.kp T.b_holding .nil pass0 (pa_cons (pv 3) (pa_cons (pv 11) (pa_cons (pe_cmpR op_eq (pv 10) (pv 9) (nomark _)) pa_nil)))))) (pw_or1 (pt_not (pt_val (pe_call G_holding (hr.mono (by omega)) (by rfl) T.g_holding T.F_holding.kp T.b_holding .nil pass0 (pa_cons (pv 3) (pa_cons (pe_lst (pa_cons (pe_tup (pa_cons (pv 4) (pa_cons (pv 10) pa_nil))) pa_nil)) (pa_cons (pe_cmpR op_eq (pv 10) (pv 9) (nomark _)) pa_nil)))))))))
          (pss_one (ps_ret pe_bl))
          pss_nil)
          (pss_cons (ps_if (pt_not (pt_val (pe_call G_holding (hr.mono (by omega)) (by rfl) T.g_holding T.F_holding.kp T.b_holding .nil pass0 (pa_cons (pv 3) (pa_cons (pe_lst (pa_cons (pe_tup (pa_cons (pv 4) (pa_cons (pv 10) pa_nil))) (pa_cons (pe_tup (pa_cons (pv 4) (pa_cons (pv 9) pa_nil))) pa_nil))) (pa_cons (pe_cmpR op_eq (pv 10) (pv 9) (nomark _)) pa_nil))))))
          (pss_one (ps_ret pe_bl))
          pss_nil)
          (pss_one (ps_if (pt_not (pt_val (pe_call G_holding (hr.mono (by omega)) (by rfl) T.g_holding T.F_holding.kp T.b_holding .nil pass0 (pa_cons (pv 3) (pa_cons (pe_lst (pa_cons (pe_tup (pa_cons (pv 4) (pa_cons (pv 9) pa_nil))) (pa_cons (pe_tup (pa_cons (pv 4) (pa_cons (pv 10) pa_nil))) pa_nil))) (pa_cons (pe_cmpR op_eq (pv 10) (pv 9) (nomark _)) pa_nil))))))
          (pss_one (ps_ret pe_bl))
          pss_nil)))))))))))))
      (pss_cons (ps_if (pt_cmpR (op_ne_dictA hr.units0) (pv 3) (pv 1) (nomark _))
      (pss_one (ps_ret pe_bl))
      pss_nil)
      (pss_cons (ps_dput hu (pv 3) pe_int pe_int rfl)
      (pss_one (ps_ret (pe_and (pe_cmpR op_eq (pe_call G_value_at (hr.mono (by omega)) (by rfl) T.g_value_at T.F_value_at.kp T.b_value_at .nil pass0 (pa_cons (pv 3) (pa_cons pe_int pa_nil))) pe_int (nomark _)) (pe_one (pe_call G_holding (hr.mono (by omega)) (by rfl) T.g_holding T.F_holding.kp T.b_holding .nil pass0 (pa_cons (pv 3) (pa_cons (pe_op op_cat (pv 7) (pe_lst (pa_cons (pe_tup (pa_cons pe_int (pa_cons pe_int pa_nil))) pa_nil))) (pa_cons pe_bl pa_nil)))))))))))))))), ?_⟩
    refine ⟨_, rfl, d, f, U, rfl, D0, uf, by omega, fun H1 p1 s1 n1 O1 => ?_⟩
    have eqs : ps.map V.int ++ [V.int 200] = (ps ++ [200]).map V.int := by simp
    have lqs : (ps ++ [200]).length ≤ 63 := by rw [List.length_append]; show ps.length + 1 ≤ 63; omega
    generalize hqs : ps ++ [200] = qs at eqs lqs
    -- each place is told as the book has it
    refine ⟨_, rfl, sz (by show 1 ≤ _; omega), fun b1 hb1 => ?_⟩
    have s2 := s1.trans (Same.new (o := .lst [V.int 200]) hb1)
    refine ⟨l, b1, _, _, rfl, rfl, s2 _ _ hl, upd_same, sz (by rw [List.length_map]; show ps.length + 1 ≤ _; omega), fun c1 hc1 => ?_⟩
    rw [eqs]
    have s3' := (Same.new (o := .lst [V.int 200]) hb1).trans (Same.new (o := .lst (qs.map V.int)) hc1)
    have s3 := s1.trans s3'
    refine ⟨c1, rfl, ⟨_, SqL.of upd_same⟩, for_list (xs := qs.map V.int) (fun i σ H' => H' = L2.upd (L2.upd H1 b1 (.lst [V.int 200])) c1 (.lst (qs.map V.int)) ∧ ∃ (y4 y5 : Option V), σ = [some (.ref a), some (.ref d), some (.ref l), some (.ref p1), y4, y5, none, none, none, none, none, none, none])
      ⟨rfl, none, none, rfl⟩ (fun i σ H' _ h => by rw [h.1]; exact SqL.of upd_same) ?_ ?_⟩
    · rintro i x σ H2 hx ⟨rfl, y4, y5, rfl⟩
      obtain ⟨k, hk, rfl⟩ := int_at hx
      refine ⟨_, rfl, _, rfl, p1, f, k, rfl, O1.same s3', ?_⟩
      obtain ⟨i1, o1, g1, v1, _, _⟩ := (D0.same s3).get k
      refine ⟨_, rfl, _, _, _, _, true, rfl, .ty "int", .base (.int _), kit_ty (by decide +kernel), _, rfl, iteF ⟨_, rfl, _, _, _, _, false, rfl, .ty "bool", .base (.int _), kit_ty (by decide +kernel), _, rfl, iteF ⟨_, rfl, _, rfl, d, rfl, i1, _, rfl, o1, g1, ?_⟩⟩⟩
      rw [v1]
      refine ⟨rfl, _, rfl, ite2 (fun h => absurd h (by simp)) (fun h => ?_)⟩
      exact ⟨rfl, _, _, rfl⟩
    rintro σ H3 ⟨e3, y4, y5, rfl⟩
    have S3 : Same H H3 := by rw [e3]; exact s3
    have O3 : At H3 p1 f := by rw [e3]; exact O1.same s3'
    have n1H : H p1 = none := n1
    clear e3
    -- the marks
    refine ⟨_, rfl, sz (by show 1 ≤ _; omega), fun b2 hb2 => ?_⟩
    have s4 := S3.trans (Same.new (o := .lst [V.int 200]) hb2)
    refine ⟨l, b2, _, _, rfl, rfl, s4 _ _ hl, upd_same, sz (by rw [List.length_map]; show ps.length + 1 ≤ _; omega), fun c2 hc2 => ?_⟩
    rw [eqs]
    have s5' := (Same.new (o := .lst [V.int 200]) hb2).trans (Same.new (o := .lst (qs.map V.int)) hc2)
    have S5 := S3.trans s5'
    have O5 := O3.same s5'
    have e5 : (L2.upd (L2.upd H3 b2 (.lst [V.int 200])) c2 (.lst (qs.map V.int))) c2 = some (.lst (qs.map V.int)) := upd_same
    generalize L2.upd (L2.upd H3 b2 (.lst [V.int 200])) c2 (.lst (qs.map V.int)) = H5 at S5 O5 e5
    refine ⟨c2, rfl, ⟨_, SqL.of e5⟩, fun D hD => ?_⟩
    refine lc_it (walk_list (xs := qs.map V.int)) (fun i H' => Same H5 H' ∧ ∃ ms : List (Addr × Int × Int), H' D = some (.lst (ms.map fun m => V.ref m.1)) ∧ ms.length = i ∧ ∀ m ∈ ms, Mk H' m ∧ gv f m.2.1 = m.2.2 ∧ m.2.1 ∈ qs)
      ⟨Same.new hD, [], upd_same, rfl, fun m h => by cases h⟩ (fun i H' _ h => SqL.of (h.1 _ _ e5)) ?_ ?_
    · rintro i x H6 H7 hi ⟨sm, ms, eD, lm, hm⟩ ⟨rfl, hx⟩
      obtain ⟨k, hk, rfl⟩ := int_at hx
      rw [List.length_map] at hi
      obtain ⟨i1, o1, g1, v1, _, _⟩ := (D0.same (S5.trans sm)).get k
      refine ⟨rfl, _, rfl, _, rfl, d, rfl, i1, _, rfl, o1, g1, ?_⟩
      rw [v1]
      refine ⟨sz (by show 2 ≤ _; omega), fun t ht7 => ?_⟩
      have nDt : D ≠ t := ne_of_none eD ht7
      have st := Same.new (o := .tup [V.int k, V.int (gv f k)]) ht7
      refine ⟨_, st _ _ eD, szl (by rw [List.length_map]; omega), Same.mut (sm.trans st) hD, ms ++ [(t, k, gv f k)], ?_, by rw [List.length_append, lm]; rfl, fun m h => ?_⟩
      · rw [upd_same, List.map_append]
        rfl
      · rcases List.mem_append.mp h with h | h
        · obtain ⟨h1, h2, h3⟩ := hm m h
          refine ⟨?_, h2, h3⟩
          have nd : m.1 ≠ D := ne_of h1 eD (fun z => by cases z)
          show L2.upd _ D _ m.1 = _
          rw [upd_ne nd]
          exact st _ _ h1
        · rw [List.mem_singleton.mp h]
          refine ⟨?_, rfl, List.mem_of_getElem? hk⟩
          show L2.upd _ D _ t = _
          rw [upd_ne nDt.symm]
          exact upd_same
    rintro H6 ⟨sm, ms, eD, lm, hm⟩
    rw [List.length_map] at lm
    have S6 := S5.trans sm
    have O6 := O5.same sm
    have hB6 : Box H6 a := let ⟨o, e, z⟩ := hB; ⟨o, S6 _ _ e, z⟩
    have naD : D ≠ a := fun z => by
      have := S5.free hD
      rw [z] at this
      obtain ⟨o, e, _⟩ := hB
      rw [this] at e
      cases e
    obtain ⟨ax, ay, az, eA⟩ := hB6.lst
    refine ⟨_, rfl, _, rfl, _, rfl, D, _, rfl, .inl (SqL.of eD), a, D, _, (ms.map fun m => V.ref m.1).length, rfl, hB6, SqL.of eD, naD, by rw [List.length_map]; omega, fun H7 p7 ys B7 n7 er my ly => ?_⟩
    obtain ⟨ns, rfl, hns⟩ := lift_ms my
    rw [List.length_map, List.length_map] at ly
    have mk7 : ∀ n ∈ ns, Mk H7 n := fun n hn => by
      have h1 := (hm n (hns n hn)).1
      exact B7.1 _ _ (ne_of h1 eA (fun z => by cases z)) h1
    have gv7 : ∀ n ∈ ns, gv f n.2.1 = n.2.2 := fun n hn => (hm n (hns n hn)).2.1
    have in7 : ∀ n ∈ ns, n.2.1 ∈ qs := fun n hn => (hm n (hns n hn)).2.2
    have hall := all_ok gv7
    have ht7 : TabG H7 tb := TabG.but (TabG.same ht S6) hB6 B7
    have O7 := O6.but hB6 B7
    have D7 := (D0.same S6).but hB6 B7
    have nap7 : p7 ≠ a := (hB6.ne n7).symm
    have K67 : ∀ H', Kt tb H7 H' → Kb a tb H H' := fun H' k => by
      refine ⟨fun b o nb nt e => k.1 b o nt (B7.1 b o nb (S6 b o e)), ?_, k.2⟩
      obtain ⟨o, e, z⟩ := B7.2
      exact ⟨o, k.1 _ _ (Box.tab B7.2 ht7) e, z⟩
    refine ⟨_, rfl, _, rfl, p1, p7, f, ns, by rw [hall]; rfl, O7, SqL.of er, mk7, ht7, fun H8 K8 => ⟨_, rfl, iteF ?_⟩⟩
    refine ⟨_, rfl, Nat.zero_le _, fun h0 hh0 => ?_⟩
    have K8' := Kt.new (o := .lst []) K8 hh0
    refine ⟨p1, h0, f, [], rfl, O7.kt ht7 K8', SqL.of upd_same, (fun m h => by cases h), K8'.2, fun H9 K9 => ⟨_, rfl, iteF ?_⟩⟩
    have K9 := K8'.trans K9
    refine ⟨_, rfl, p7, _, rfl, .inl (SqL.of (lst_kt er ht7 K9)), _, rfl, by rw [List.length_map]; omega, by rw [List.length_map]; omega, for_range (fun i σ H' => ∃ (y4 y5 y8 y9 y10 y11 y12 : Option V), σ = [some (.ref a), some (.ref d), some (.ref l), some (.ref p1), y4, y5, some (.ref D), some (.ref p7), y8, y9, y10, y11, y12] ∧ Kt tb H7 H')
      ⟨_, _, _, _, _, _, _, rfl, K9⟩ ?_ ?_⟩
    · rintro i σ H10 hi ⟨y4, y5, y8, y9, y10, y11, y12, rfl, K10⟩
      rw [Int.toNat_natCast, List.length_map] at hi
      obtain ⟨n, hn⟩ : ∃ n, ns[i]? = some n := ⟨ns[i], List.getElem?_eq_getElem hi⟩
      have mn := List.mem_of_getElem? hn
      obtain ⟨ta, k, v⟩ := n
      have hxi : (ns.map fun m => V.ref m.1)[i]? = some (V.ref ta) := by rw [List.getElem?_map, hn]; rfl
      have hgk : gv f k = v := gv7 _ mn
      have mt : H7 ta = some (.tup [.int k, .int v]) := mk7 _ mn
      have mt10 : Mk H10 (ta, k, v) := Mk.kt (m := (ta, k, v)) mt ht7 K10
      rw [Int.zero_add]
      refine ⟨_, rfl, _, rfl, p7, _, _, _, rfl, rfl, SqL.of (lst_kt er ht7 K10), atI_nat hxi, ta, _, _, _, rfl, rfl, SqT.of mt10, rfl, ?_⟩
      refine ⟨_, rfl, _, rfl, p7, _, _, _, rfl, rfl, SqL.of (lst_kt er ht7 K10), atI_nat hxi, ta, _, _, _, rfl, rfl, SqT.of mt10, rfl, ?_⟩
      refine ⟨_, rfl, _, rfl, _, _, rfl, rfl, sz (by show 4 ≤ _; omega), fun b hb => ?_⟩
      have Kb0 := K10.new (o := .lst (([v, v + 1, 0, 9999] : List Int).map V.int)) hb
      have eb : (L2.upd H10 b (.lst (([v, v + 1, 0, 9999] : List Int).map V.int))) b = some (.lst (([v, v + 1, 0, 9999] : List Int).map V.int)) := upd_same
      refine ⟨b, rfl, ⟨_, SqL.of eb⟩, for_list (xs := ([v, v + 1, 0, 9999] : List Int).map V.int) (fun j σ H' => ∃ (y5 y10 y11 y12 : Option V), σ = [some (.ref a), some (.ref d), some (.ref l), some (.ref p1), some (.int k), y5, some (.ref D), some (.ref p7), some (.int (i : Nat)), some (.int v), y10, y11, y12] ∧ Kt tb (L2.upd H10 b (.lst (([v, v + 1, 0, 9999] : List Int).map V.int))) H')
        ⟨_, _, _, _, rfl, Kt.refl Kb0.2⟩ (fun j σ H' _ h => let ⟨_, _, _, _, _, h⟩ := h; SqL.of (lst_kt eb Kb0.2 h)) ?_ ?_⟩
      · rintro j x σ G0 hx ⟨y5, y10, y11, y12, rfl, Kj⟩
        obtain ⟨o, ho, rfl⟩ := int_at hx
        have K0 : Kt tb H7 G0 := Kb0.trans Kj
        have dk : decide (gv f k = o) = decide (V.int o = V.int v) := by
          rw [hgk]
          by_cases z : o = v
          · rw [z]
            simp
          · have z2 : ¬ v = o := fun q => z q.symm
            simp [z, z2]
        have a1 : ∀ t : Addr, allM f [(t, k, o)] = decide (V.int o = V.int v) := fun t => by
          show (decide (gv f k = o) && true) = _
          rw [dk, Bool.and_true]
        have a2 : ∀ t u : Addr, allM f [(t, k, o), (u, k, v)] = decide (V.int o = V.int v) := fun t u => by
          show (decide (gv f k = o) && (decide (gv f k = v) && true)) = _
          rw [dk, decide_eq_true hgk, Bool.and_true, Bool.and_true]
        have a3 : ∀ t u : Addr, allM f [(t, k, v), (u, k, o)] = decide (V.int o = V.int v) := fun t u => by
          show (decide (gv f k = v) && (decide (gv f k = o) && true)) = _
          rw [dk, decide_eq_true hgk, Bool.and_true, Bool.true_and]
        have hsp : ∀ t : Addr, allM f (ns.take i ++ [(t, k, o)] ++ ns.drop (i + 1)) = decide (V.int o = V.int v) := fun t => (all_mid (m := (t, k, o)) (fun m h => gv7 m (List.mem_of_mem_take h)) (fun m h => gv7 m (List.mem_of_mem_drop h))).trans dk
        have c1 := cut_lo (ns.map fun m => V.ref m.1) i (by rw [List.length_map]; omega)
        have c2 : cutV (ns.map fun m => V.ref m.1) (some ((i : Int) + 1)) none = (ns.map fun m => V.ref m.1).drop (i + 1) := cut_hi _ (i + 1) (by rw [List.length_map]; omega)
        have l7 : (ns.map fun m => V.ref m.1).length ≤ 63 := by rw [List.length_map]; omega
        have Z0 := Kt.refl K0.2
        refine ⟨_, rfl, _, rfl, _, rfl, p7, _, rfl, SqL.of (lst_kt er ht7 K0), fun q1 hq1 => ?_⟩
        rw [c1]
        have Z1 := Z0.new (o := .lst ((ns.map fun m => V.ref m.1).take i)) hq1
        refine ⟨_, rfl, _, rfl, sz (by show 2 ≤ _; omega), fun t htt => ⟨sz (by show 1 ≤ _; omega), fun q2 hq2 => ?_⟩⟩
        have Z2 := Z1.new (o := .tup [V.int k, V.int o]) htt
        have Z3 := Z2.new (o := .lst [V.ref t]) hq2
        have x1 := (Same.new (o := .tup [V.int k, V.int o]) htt).trans (Same.new (o := .lst [V.ref t]) hq2)
        refine ⟨q1, q2, _, _, rfl, rfl, x1 _ _ upd_same, upd_same, sz (by rw [List.length_take]; show min i _ + 1 ≤ _; omega), fun q3 hq3 => ?_⟩
        have Z4 := Z3.new (o := .lst ((ns.map fun m => V.ref m.1).take i ++ [V.ref t])) hq3
        refine ⟨_, rfl, _, rfl, _, _, rfl, rfl, _, rfl, p7, _, rfl, SqL.of (lst_kt er ht7 (K0.trans Z4)), fun q4 hq4 => ?_⟩
        rw [c2]
        have Z5 := Z4.new (o := .lst ((ns.map fun m => V.ref m.1).drop (i + 1))) hq4
        refine ⟨q3, q4, _, _, rfl, rfl, (Same.new hq4) _ _ upd_same, upd_same, sz (by rw [List.length_append, List.length_take, List.length_drop]; show min i _ + 1 + _ ≤ _; omega), fun q5 hq5 => ?_⟩
        have elst : (ns.map fun m => V.ref m.1).take i ++ [V.ref t] ++ (ns.map fun m => V.ref m.1).drop (i + 1) = (ns.take i ++ [(t, k, o)] ++ ns.drop (i + 1)).map fun m => V.ref m.1 := by
          rw [List.map_append, List.map_append, List.map_take, List.map_drop]
          rfl
        rw [elst]
        have Z6 := Z5.new (o := .lst ((ns.take i ++ [(t, k, o)] ++ ns.drop (i + 1)).map fun m => V.ref m.1)) hq5
        have et := ((Same.new (o := .lst [V.ref t]) hq2).trans ((Same.new (o := .lst ((ns.map fun m => V.ref m.1).take i ++ [V.ref t])) hq3).trans ((Same.new (o := .lst ((ns.map fun m => V.ref m.1).drop (i + 1))) hq4).trans (Same.new (o := .lst ((ns.take i ++ [(t, k, o)] ++ ns.drop (i + 1)).map fun m => V.ref m.1)) hq5)))) t _ (upd_same (o := .tup [V.int k, V.int o]))
        have K6 := K0.trans Z6
        have mk6 : ∀ m ∈ ns.take i ++ [(t, k, o)] ++ ns.drop (i + 1), Mk _ m := fun m h => by
          rcases List.mem_append.mp h with h | h
          · rcases List.mem_append.mp h with h | h
            · exact (mk7 m (List.mem_of_mem_take h)).kt ht7 K6
            · rw [List.mem_singleton.mp h]
              exact et
          · exact (mk7 m (List.mem_of_mem_drop h)).kt ht7 K6
        have hsp := hsp t
        refine ⟨_, rfl, q5, _, rfl, .inl (SqL.of upd_same), fun q6 hq6 => ?_⟩
        have Z7 := Z6.new (o := .lst ((ns.take i ++ [(t, k, o)] ++ ns.drop (i + 1)).map fun m => V.ref m.1)) hq6
        have x7 := Same.new (o := .lst ((ns.take i ++ [(t, k, o)] ++ ns.drop (i + 1)).map fun m => V.ref m.1)) hq6
        have e5 := x7 q5 _ upd_same
        have m7 := fun m h => Mk.same (mk6 m h) x7
        refine ⟨_, rfl, _, rfl, p1, q6, f, ns.take i ++ [(t, k, o)] ++ ns.drop (i + 1), rfl, O7.kt ht7 (K0.trans Z7), .inl (SqL.of upd_same), m7, Z7.2, fun J1 t1 => ?_⟩
        have Z8 := Z7.tabbed t1
        have Y := (Kt.refl Z7.2).tabbed t1
        have e5' := lst_kt e5 Z7.2 Y
        have e6' := lst_kt (l := q6) (xs := (ns.take i ++ [(t, k, o)] ++ ns.drop (i + 1)).map fun m => V.ref m.1) upd_same Z7.2 Y
        have mk8 := fun m h => Mk.kt (m7 m h) Z7.2 Y
        clear Z1 Z2 Z3 Z4 Z5 Z6 x1 elst et K6 mk6 x7 e5 m7 Y
        generalize ns.take i ++ [(t, k, o)] ++ ns.drop (i + 1) = sp at *
        refine ⟨_, rfl, _, _, _, _, true, rfl, .ty "bool", .base (.bl _), kit_ty (by decide +kernel), _, rfl, iteF ⟨_, rfl, _, rfl, _, rfl, rfl, rfl, _, rfl, ite2 (fun h => absurd h ?_) (fun _ => ?_)⟩⟩
        · have z := hsp
          unfold allM at z
          rw [z]
          simp
        refine ⟨_, rfl, _, rfl, encM sp, encM sp, dp_ms e6' mk8, dp_ms e5' mk8, shaped_ms _, shaped_ms _, _, rfl, ite2 (fun h => absurd h ?_) (fun _ => ?_)⟩
        · rw [eqv_ms]
          simp
        refine ⟨_, rfl, _, rfl, _, rfl, _, rfl, rfl, p1, q5, f, sp, by rw [hsp]; rfl, O7.kt ht7 (K0.trans Z8), SqL.of e5', mk8, Z8.2, fun J2 K9 => ⟨_, rfl, iteF ?_⟩⟩
        have Z9 := Z8.trans K9
        refine ⟨_, rfl, _, rfl, _, rfl, sz (by show 2 ≤ _; omega), fun t1 h1 => ⟨sz (by show 1 ≤ _; omega), fun r1 g1 => ?_⟩⟩
        have Z10 := (Z9.new (o := .tup [V.int k, V.int o]) h1).new (o := .lst [V.ref t1]) g1
        have u1 := (Same.new (o := .lst [V.ref t1]) g1) t1 _ (upd_same (o := .tup [V.int k, V.int o]))
        refine ⟨_, rfl, _, rfl, rfl, p1, r1, f, [(t1, k, o)], by rw [a1]; rfl, O7.kt ht7 (K0.trans Z10), SqL.of upd_same, fun m h => by rw [List.mem_singleton.mp h]; exact u1, Z10.2, fun J3 K10 => ⟨_, rfl, iteF ?_⟩⟩
        have Z11 := Z10.trans K10
        refine ⟨_, rfl, _, rfl, _, rfl, sz (by show 2 ≤ _; omega), fun t2 h2 => ⟨_, rfl, _, rfl, sz (by show 2 ≤ _; omega), fun t3 h3 => ⟨sz (by show 2 ≤ _; omega), fun r2 g2 => ?_⟩⟩⟩
        have Z12 := ((Z11.new (o := .tup [V.int k, V.int o]) h2).new (o := .tup [V.int k, V.int v]) h3).new (o := .lst [V.ref t2, V.ref t3]) g2
        have u2 := ((Same.new (o := .tup [V.int k, V.int v]) h3).trans (Same.new (o := .lst [V.ref t2, V.ref t3]) g2)) t2 _ (upd_same (o := .tup [V.int k, V.int o]))
        have u3 := (Same.new (o := .lst [V.ref t2, V.ref t3]) g2) t3 _ (upd_same (o := .tup [V.int k, V.int v]))
        refine ⟨_, rfl, _, rfl, rfl, p1, r2, f, [(t2, k, o), (t3, k, v)], by rw [a2]; rfl, O7.kt ht7 (K0.trans Z12), SqL.of upd_same, fun m h => ?_, Z12.2, fun J4 K12 => ⟨_, rfl, iteF ?_⟩⟩
        · rcases List.mem_cons.mp h with z | z
          · rw [z]
            exact u2
          · rw [List.mem_singleton.mp z]
            exact u3
        have Z13 := Z12.trans K12
        refine ⟨_, rfl, _, rfl, _, rfl, sz (by show 2 ≤ _; omega), fun t4 h4 => ⟨_, rfl, _, rfl, sz (by show 2 ≤ _; omega), fun t5 h5 => ⟨sz (by show 2 ≤ _; omega), fun r3 g3 => ?_⟩⟩⟩
        have Z14 := ((Z13.new (o := .tup [V.int k, V.int v]) h4).new (o := .tup [V.int k, V.int o]) h5).new (o := .lst [V.ref t4, V.ref t5]) g3
        have u4 := ((Same.new (o := .tup [V.int k, V.int o]) h5).trans (Same.new (o := .lst [V.ref t4, V.ref t5]) g3)) t4 _ (upd_same (o := .tup [V.int k, V.int v]))
        have u5 := (Same.new (o := .lst [V.ref t4, V.ref t5]) g3) t5 _ (upd_same (o := .tup [V.int k, V.int o]))
        refine ⟨_, rfl, _, rfl, rfl, p1, r3, f, [(t4, k, v), (t5, k, o)], by rw [a3]; rfl, O7.kt ht7 (K0.trans Z14), SqL.of upd_same, fun m h => ?_, Z14.2, fun J5 K14 => ⟨_, rfl, iteF ?_⟩⟩
        · rcases List.mem_cons.mp h with z | z
          · rw [z]
            exact u4
          · rw [List.mem_singleton.mp z]
            exact u5
        exact ⟨_, _, _, _, rfl, Kj.trans (Z14.trans K14)⟩
      · rintro σ G0 ⟨y5, y10, y11, y12, rfl, Kj⟩
        exact ⟨_, _, _, _, _, _, _, rfl, Kb0.trans Kj⟩
    rintro σ H10 ⟨y4, y5, y8, y9, y10, y11, y12, rfl, K10⟩
    have O10 := O7.kt ht7 K10
    have D10 := D7.kt ht7 K10
    refine ⟨_, rfl, _, rfl, ne_at O10 D10 ⟨_, rfl, iteF ?_⟩⟩
    obtain ⟨H11, dp11, O11, k11⟩ := O10.put uf (by omega) 203 6
    refine ⟨_, rfl, p1, H11, rfl, dp11, ?_⟩
    have e10 := lst_kt er ht7 K10
    obtain ⟨kvp, ep10, _⟩ := id O10
    have n71 : p7 ≠ p1 := ne_of e10 ep10 (fun z => by cases z)
    have e11 : H11 p7 = some (.lst (ns.map fun m => V.ref m.1)) := by rw [k11 _ n71]; exact e10
    have mk11 : ∀ n ∈ ns, Mk H11 n := fun n hn => by
      have h1 := (mk7 n hn).kt ht7 K10
      show H11 n.1 = _
      rw [k11 _ (ne_of h1 ep10 (fun z => by cases z))]
      exact h1
    have ht11 : TabG H11 tb := by
      obtain ⟨qs, e, hq⟩ := K10.2
      exact ⟨qs, by rw [k11 _ (ne_of e ep10 (fun z => by cases z))]; exact e, hq⟩
    refine ⟨_, rfl, p1, _, 203, rfl, O11, rfl, _, rfl, ite2 (fun _ => ?_) (fun h => absurd h (by simp [gv]))⟩
    refine ⟨_, rfl, _, rfl, sz (by show 2 ≤ _; omega), fun t ht12 => ⟨sz (by show 1 ≤ _; omega), fun q2 hq2 => ?_⟩⟩
    have K12 := (Kt.refl ht11).new (o := .tup [V.int 203, V.int 6]) ht12
    have e12 : (L2.upd H11 t (.tup [V.int 203, V.int 6])) t = some (.tup [V.int 203, V.int 6]) := upd_same
    have K13 := K12.new (o := .lst [V.ref t]) hq2
    refine ⟨p7, q2, _, _, rfl, rfl, lst_kt e11 ht11 K13, upd_same, sz (by rw [List.length_map]; show ns.length + 1 ≤ _; omega), fun q3 hq3 => ?_⟩
    have K14 := K13.new (o := .lst (ns.map (fun m => V.ref m.1) ++ [V.ref t])) hq3
    have e14 := (Same.new (o := .lst (ns.map (fun m => V.ref m.1) ++ [V.ref t])) hq3) _ _ ((Same.new (o := .lst [V.ref t]) hq2) _ _ e12)
    have gn : ∀ n ∈ ns ++ [(t, (203 : Int), (6 : Int))], gv (fun j => if j = 203 then some 6 else f j) n.2.1 = n.2.2 := fun n hn => by
      rcases List.mem_append.mp hn with h | h
      · have h2 := in7 n h
        have n2 : n.2.1 ≠ 203 := fun z => by
          rw [← hqs, z] at h2
          rcases List.mem_append.mp h2 with h3 | h3
          · exact n203 h3
          · exact absurd (List.mem_singleton.mp h3) (by decide)
        rw [← gv7 n h]
        show (if n.2.1 = 203 then some 6 else f n.2.1).getD 0 = _
        rw [if_neg n2]
        rfl
      · rw [List.mem_singleton.mp h]
        rfl
    refine ⟨p1, q3, _, ns ++ [(t, 203, 6)], by rw [all_ok gn]; rfl, O11.kt ht11 K14, SqL.of ?_, fun m h => ?_, K14.2, fun H15 K15 => ?_⟩
    · rw [upd_same, List.map_append]
      rfl
    · rcases List.mem_append.mp h with h | h
      · exact (mk11 m h).kt ht11 K14
      · rw [List.mem_singleton.mp h]
        exact e14
    refine q H15 ⟨fun b o nb nt e => ?_, ?_, K15.2⟩
    · have K := (K67 H10 K10).1 b o nb nt e
      have := (K14.trans K15).1 b o nt
      rw [k11 b (ne_of_none e n1H)] at this
      exact this K
    · obtain ⟨o, e, z⟩ := (K67 H10 K10).2.1
      have nt := Box.tab (K67 H10 K10).2.1 K10.2
      refine ⟨o, (K14.trans K15).1 a o nt ?_, z⟩
      rw [k11 a (hB.ne n1H)]
      exact e
end
theorem lift_ints {ps : List Int} : ∀ {ys : List V}, (∀ y ∈ ys, y ∈ ps.map V.int) → ∃ qs : List Int, ys = qs.map V.int ∧ ∀ n ∈ qs, n ∈ ps
  | [], _ => ⟨[], rfl, fun n h => by cases h⟩
  | y :: ys, h => by
    obtain ⟨m, hm, e⟩ := List.mem_map.mp (h y List.mem_cons_self)
    obtain ⟨ns, e2, h2⟩ := lift_ints fun z hz => h z (List.mem_cons_of_mem _ hz)
    refine ⟨m :: ns, by rw [List.map_cons, ← e2, e], fun n hn => ?_⟩
    rcases List.mem_cons.mp hn with rfl | hn
    · exact hm
    · exact h2 n hn
def sp_large (tb : Addr) : Sp := fun vs H Q _ => ∃ a : Addr, vs = [.ref a] ∧ Box H a ∧ TabG H tb ∧ ∀ H', Kb a tb H H' → Q (.bl true) H'
theorem Kb.of {a tb : Addr} {H H1 H2 : Hp} (x : But a H H1) (k : Kb a tb H1 H2) : Kb a tb H H2 := ⟨fun b o nb nt e => k.1 b o nb nt (x.1 b o nb e), k.2⟩
section
variable {P : Program} {w : World} {K : PySem.W.Frag} {mg : Str → Option Value} {base : Heap}
theorem ok_large {tb c : Addr} (TB : TabB base mg c tb) (T : Txt K mg) (hc : T.fd_holds.code = .ref c) : FnOk P w K mg base CX0 6 T.f_large T.fd_large ["_law_box"] (sp_large tb) := by
  have G_take : FnOk P w K mg base CX0 1 T.f_take T.fd_take ["_law_box", "_law_size"] sp_take := ok_take T
  have G_choose : FnOk P w K mg base CX0 2 T.f_choose T.fd_choose ["_law_box", "_law_rows", "_law_count"] (sp_choose K) := ok_choose T
  have G_first : FnOk P w K mg base CX0 3 T.f_first T.fd_first ["_law_box", "_law_places_here"] (sp_first K) := ok_first T
  have G_second : FnOk P w K mg base CX0 3 T.f_second T.fd_second ["_law_box", "_law_book", "_law_places_here"] (sp_second K) := ok_second T
  have G_leads : FnOk P w K mg base CX0 3 T.f_leads T.fd_leads ["_law_base", "_law_book", "_law_places_here"] (sp_leads K) := ok_leads T
  have G_telling : FnOk P w K mg base CX0 5 T.f_telling T.fd_telling ["_law_box", "_law_book", "_law_places_here"] (sp_telling tb) := ok_telling TB T hc
  refine T.F_large.ok sc_large (fun vs H Q E h => ?_) (fun cdv A outer s H vs Q E hr h => ?_)
  · obtain ⟨a, rfl, _⟩ := h
    rfl
  · obtain ⟨a, rfl, hB, ht, q⟩ := h
    have hu := hu_of hr
    refine ⟨_, (pss_cons (ps_set (i := 1) sc_large.nd rfl (Or.inr rfl) (pe_call G_take (hr.mono (by omega)) (by rfl) T.g_take T.F_take.kp T.b_take .nil pass0 (pa_cons (pv 0) (pa_cons pe_int pa_nil))))
      (pss_cons (ps_setLc (i := 2) (own := [("_law_k", 5)]) (g := gName 5) (tt := tYes) rfl sc_large.nd rfl rfl (sw_true rfl rfl rfl (by decide +kernel)) (pi_range1 (by rfl) T.z_range (pa_cons (pe_op op_add pe_int (pe_call G_take (hr.mono (by omega)) (by rfl) T.g_take T.F_take.kp T.b_take .nil pass0 (pa_cons (pv 0) (pa_cons pe_int pa_nil)))) pa_nil)) (blkOk_by (own := [("_law_k", 5)]) (N := N_large) (sc := defScope s_large) (by decide +kernel)) (fun _ _ _ _ _ => (pg_name (i := 5) sc_large.nd rfl (Or.inl rfl))) (fun _ _ _ _ _ => pts_nil) (fun _ _ _ _ _ => (pe_op op_add (pv 1) (pe_op op_mul pe_int (pv 5)))))
      (pss_cons (ps_set (i := 3) sc_large.nd rfl (Or.inl rfl) (pe_call G_first (hr.mono (by omega)) (by rfl) T.g_first T.F_first.kp T.b_first .nil pass0 (pa_cons (pv 0) (pa_cons (pv 2) pa_nil))))
      (pss_cons (ps_set (i := 4) sc_large.nd rfl (Or.inl rfl) (pe_call G_second (hr.mono (by omega)) (by rfl) T.g_second T.F_second.kp T.b_second .nil pass0 (pa_cons (pv 0) (pa_cons (pv 3) (pa_cons (pv 2) pa_nil)))))
      (pss_cons (ps_if (PW.pt (pw_or (pt_not (pt_val (pe_call G_leads (hr.mono (by omega)) (by rfl) T.g_leads T.F_leads.kp T.b_leads .nil pass0 (pa_cons (pv 3) (pa_cons (pv 4) (pa_cons (pv 2) pa_nil)))))) (pw_or1 (pt_not (pt_val (pe_call G_leads (hr.mono (by omega)) (by rfl) T.g_leads T.F_leads.kp T.b_leads .nil pass0 (pa_cons (pv 4) (pa_cons (pv 3) (pa_cons (pv 2) pa_nil)))))))))
      (pss_one (ps_ret pe_bl))
      pss_nil)
      (pss_one (ps_ret (pe_call G_telling (hr.mono (by omega)) (by rfl) T.g_telling T.F_telling.kp T.b_telling .nil pass0 (pa_cons (pv 0) (pa_cons (pv 4) (pa_cons (pe_call G_choose (hr.mono (by omega)) (by rfl) T.g_choose T.F_choose.kp T.b_choose .nil pass0 (pa_cons (pv 0) (pa_cons (pv 2) (pa_cons pe_int pa_nil)))) pa_nil))))))))))), ?_⟩
    refine ⟨_, rfl, a, _, rfl, hB, by decide, by decide, fun d1 H1 d10 d11 B1 _ => ?_⟩
    refine ⟨_, rfl, a, _, rfl, B1.2, by decide, by decide, fun d2 H2 d20 d21 B2 _ => ?_⟩
    have B12 := B1.trans B2
    refine ⟨_, _, rfl, rfl, _, rfl, by omega, by omega, fun D hD => ?_⟩
    have naD : a ≠ D := Box.ne B12.2 hD
    have hDH : H D = none := But.none B12 hD
    refine lc_it (walk_range (lo := 0) (n := (20 + d2).toNat)) (fun i H' => But a H H' ∧ ∃ ps : List Int, H' D = some (.lst (ps.map V.int)) ∧ ps.length = i ∧ ∀ p ∈ ps, p < 8 + 3 * (i : Int))
      ⟨But.mut B12 hDH naD, [], upd_same, rfl, fun p h => by cases h⟩ (fun i H' _ _ => trivial) ?_ ?_
    · rintro i x H3 H4 hi ⟨B3, ps, eD, lps, hps⟩ ⟨rfl, rfl⟩
      refine ⟨rfl, _, rfl, _, rfl, _, _, rfl, rfl, .inl ⟨by decide, by decide⟩, _, _, rfl, rfl, _, eD, szl (by rw [List.length_map]; omega), But.mut B3 hDH naD, ps ++ [d1 + 3 * (0 + (i : Int))], ?_, by rw [List.length_append, lps]; rfl, fun p hp => ?_⟩
      · rw [upd_same, List.map_append]
        rfl
      · rcases List.mem_append.mp hp with h | h
        · have := hps p h
          omega
        · rw [List.mem_singleton.mp h]
          omega
    rintro H3 ⟨B3, ps, eD, lps, hps⟩
    have hp : ∀ p ∈ ps, p < 200 := fun p h => by
      have := hps p h
      omega
    have hl : ps.length ≤ 62 := by omega
    have m1 : (201 : Int) ∉ ps := fun h => absurd (hp _ h) (by decide)
    refine ⟨_, rfl, _, rfl, a, D, ps, rfl, B3.2, SqL.of eD, naD.symm, by omega, fun H4 p4 f B4 n4 A4 pf uf => ?_⟩
    have eD4 := B4.1 _ _ naD.symm eD
    refine ⟨_, rfl, _, rfl, _, rfl, a, p4, D, f, ps, rfl, B4.2, A4, SqL.of eD4, naD.symm, by omega, fun H5 p5 g B5 n5 A5 pg ug => ?_⟩
    have eD5 := B5.1 _ _ naD.symm eD4
    have A45 := A4.but B4.2 B5
    refine ⟨_, rfl, _, rfl, _, rfl, p4, p5, D, f, g, ps, rfl, A45, A5, pf, pg, uf, ug, m1, SqL.of eD5, hl, fun H6 S6 => ⟨_, rfl, iteF ?_⟩⟩
    refine ⟨_, rfl, _, rfl, _, rfl, p5, p4, D, g, f, ps, rfl, A5.same S6, A45.same S6, pg, pf, ug, uf, m1, SqL.of (S6 _ _ eD5), hl, fun H7 S7 => ⟨_, rfl, iteF ?_⟩⟩
    have S67 := S6.trans S7
    have B7 : But a H H7 := ((B3.trans B4).trans B5).same S67
    refine ⟨_, rfl, _, rfl, _, rfl, _, rfl, a, D, ps.map V.int, 20, rfl, B7.2, SqL.of (S67 _ _ eD5), naD.symm, by rw [List.length_map]; omega, fun H8 p8 ys B8 n8 er my ly => ?_⟩
    obtain ⟨qs, rfl, hqs⟩ := lift_ints my
    rw [List.length_map, List.length_map] at ly
    have B78 := B7.trans B8
    exact ⟨a, p5, p8, g, ps, qs, rfl, B8.2, (A5.same S67).but B7.2 B8, ug, by omega, er, (Box.ne B7.2 n8).symm, fun h => absurd (hp _ (hqs _ h)) (by decide), by omega, TabG.but ht hB B78, fun H9 K9 => q H9 (Kb.of B78 K9)⟩
end
def sp_law (K : PySem.W.Frag) (tb : Addr) : Sp := fun vs H Q _ => ∃ (a : Addr) (ns : List Int), vs = [.ref a] ∧ SqL K H a (ns.map V.int) ∧ TabG H tb ∧ ∀ H', Q (.bl true) H'
section
variable {P : Program} {w : World} {K : PySem.W.Frag} {mg : Str → Option Value} {base : Heap}
theorem ok_law {tb c : Addr} (TB : TabB base mg c tb) (T : Txt K mg) (hc : T.fd_holds.code = .ref c) : FnOk P w K mg base CX0 7 T.f_law T.fd_law ["_law_script"] (sp_law K tb) := by
  have G_open : FnOk P w K mg base CX0 1 T.f_open T.fd_open ["_law_script", "_law_at"] (sp_open K) := ok_open T
  have G_take : FnOk P w K mg base CX0 1 T.f_take T.fd_take ["_law_box", "_law_size"] sp_take := ok_take T
  have G_places : FnOk P w K mg base CX0 2 T.f_places T.fd_places ["_law_box", "_law_count"] sp_places := ok_places T
  have G_first : FnOk P w K mg base CX0 3 T.f_first T.fd_first ["_law_box", "_law_places_here"] (sp_first K) := ok_first T
  have G_second : FnOk P w K mg base CX0 3 T.f_second T.fd_second ["_law_box", "_law_book", "_law_places_here"] (sp_second K) := ok_second T
  have G_wanted : FnOk P w K mg base CX0 3 T.f_wanted T.fd_wanted ["_law_box", "_law_book", "_law_places_here"] (sp_wanted K) := ok_wanted T
  have G_leads : FnOk P w K mg base CX0 3 T.f_leads T.fd_leads ["_law_base", "_law_book", "_law_places_here"] (sp_leads K) := ok_leads T
  have G_writing : FnOk P w K mg base CX0 2 T.f_writing T.fd_writing ["_law_base", "_law_writes", "_law_places_here"] (sp_writing K) := ok_writing T
  have G_telling : FnOk P w K mg base CX0 5 T.f_telling T.fd_telling ["_law_box", "_law_book", "_law_places_here"] (sp_telling tb) := ok_telling TB T hc
  have G_large : FnOk P w K mg base CX0 6 T.f_large T.fd_large ["_law_box"] (sp_large tb) := ok_large TB T hc
  refine T.F_law.ok sc_law (fun vs H Q E h => ?_) (fun cdv A outer s H vs Q E hr h => ?_)
  · obtain ⟨a, ns, rfl, _⟩ := h
    rfl
  · obtain ⟨a, ns, rfl, hS, ht, q⟩ := h
    have hu := hu_of hr
    refine ⟨_, (pss_cons (ps_set (i := 1) sc_law.nd rfl (Or.inl rfl) (pe_call G_open (hr.mono (by omega)) (by rfl) T.g_open T.F_open.kp T.b_open .nil pass0 (pa_cons (pv 0) (pa_cons pe_int pa_nil))))
      (pss_cons (ps_set (i := 2) sc_law.nd rfl (Or.inl rfl) (pe_call G_places (hr.mono (by omega)) (by rfl) T.g_places T.F_places.kp T.b_places .nil pass0 (pa_cons (pv 1) (pa_cons (pe_call G_take (hr.mono (by omega)) (by rfl) T.g_take T.F_take.kp T.b_take .nil pass0 (pa_cons (pv 1) (pa_cons pe_int pa_nil))) pa_nil))))
      (C8.pss_cut (ps_if (pt_cmpR op_eq (pe_call G_take (hr.mono (by omega)) (by rfl) T.g_take T.F_take.kp T.b_take .nil pass0 (pa_cons (pv 1) (pa_cons pe_int pa_nil))) pe_int (nomark _))
      (pss_one (ps_expr (pe_bm PySem.F.plainAttrs_list PySem.F.slot_list_append PySem.F.type_list_append mt_append (pv 2) (pa_cons pe_int pa_nil))))
      pss_nil)
      (pss_cons (ps_set (i := 3) sc_law.nd rfl (Or.inl rfl) (pe_call G_first (hr.mono (by omega)) (by rfl) T.g_first T.F_first.kp T.b_first .nil pass0 (pa_cons (pv 1) (pa_cons (pv 2) pa_nil))))
      (pss_cons (ps_set (i := 4) sc_law.nd rfl (Or.inl rfl) (pe_call G_second (hr.mono (by omega)) (by rfl) T.g_second T.F_second.kp T.b_second .nil pass0 (pa_cons (pe_call G_open (hr.mono (by omega)) (by rfl) T.g_open T.F_open.kp T.b_open .nil pass0 (pa_cons (pv 0) (pa_cons pe_int pa_nil))) (pa_cons (pv 3) (pa_cons (pv 2) pa_nil)))))
      (pss_cons (ps_set (i := 5) sc_law.nd rfl (Or.inl rfl) (pe_call G_wanted (hr.mono (by omega)) (by rfl) T.g_wanted T.F_wanted.kp T.b_wanted .nil pass0 (pa_cons (pe_call G_open (hr.mono (by omega)) (by rfl) T.g_open T.F_open.kp T.b_open .nil pass0 (pa_cons (pv 0) (pa_cons pe_int pa_nil))) (pa_cons (pv 3) (pa_cons (pv 2) pa_nil)))))
      (pss_cons (ps_if (PW.pt (pw_or (pt_not (pt_val (pe_call G_leads (hr.mono (by omega)) (by rfl) T.g_leads T.F_leads.kp T.b_leads .nil pass0 (pa_cons (pv 3) (pa_cons (pv 4) (pa_cons (pv 2) pa_nil)))))) (pw_or1 (pt_not (pt_val (pe_call G_leads (hr.mono (by omega)) (by rfl) T.g_leads T.F_leads.kp T.b_leads .nil pass0 (pa_cons (pv 4) (pa_cons (pv 3) (pa_cons (pv 2) pa_nil)))))))))
      (pss_one (ps_ret pe_bl))
      pss_nil)
      (pss_cons (ps_if (PW.pt (pw_or (pt_not (pt_val (pe_call G_leads (hr.mono (by omega)) (by rfl) T.g_leads T.F_leads.kp T.b_leads .nil pass0 (pa_cons (pv 3) (pa_cons (pv 3) (pa_cons (pv 2) pa_nil)))))) (pw_or1 (pt_not (pt_val (pe_call G_leads (hr.mono (by omega)) (by rfl) T.g_leads T.F_leads.kp T.b_leads .nil pass0 (pa_cons pe_dnewK (pa_cons (pv 4) (pa_cons (pv 2) pa_nil)))))))))
      (pss_one (ps_ret pe_bl))
      pss_nil)
      (pss_cons (ps_if (PW.pt (pw_or (pt_not (pt_val (pe_call G_writing (hr.mono (by omega)) (by rfl) T.g_writing T.F_writing.kp T.b_writing .nil pass0 (pa_cons (pv 3) (pa_cons (pv 5) (pa_cons (pv 2) pa_nil)))))) (pw_or1 (pt_not (pt_val (pe_call G_writing (hr.mono (by omega)) (by rfl) T.g_writing T.F_writing.kp T.b_writing .nil pass0 (pa_cons (pv 4) (pa_cons (pv 5) (pa_cons (pv 2) pa_nil)))))))))
      (pss_one (ps_ret pe_bl))
      pss_nil)
      (pss_cons (ps_set (i := 6) sc_law.nd rfl (Or.inl rfl) (pe_call G_open (hr.mono (by omega)) (by rfl) T.g_open T.F_open.kp T.b_open .nil pass0 (pa_cons (pv 0) (pa_cons pe_int pa_nil))))
      (pss_cons (ps_if (PW.pt (pw_or (pt_not (pt_val (pe_call G_telling (hr.mono (by omega)) (by rfl) T.g_telling T.F_telling.kp T.b_telling .nil pass0 (pa_cons (pv 6) (pa_cons (pv 3) (pa_cons (pv 2) pa_nil)))))) (pw_or1 (pt_not (pt_val (pe_call G_telling (hr.mono (by omega)) (by rfl) T.g_telling T.F_telling.kp T.b_telling .nil pass0 (pa_cons (pv 6) (pa_cons (pv 4) (pa_cons (pv 2) pa_nil)))))))))
      (pss_one (ps_ret pe_bl))
      pss_nil)
      (pss_cons (ps_set (i := 7) sc_law.nd rfl (Or.inl rfl) (pe_call G_open (hr.mono (by omega)) (by rfl) T.g_open T.F_open.kp T.b_open .nil pass0 (pa_cons (pv 0) (pa_cons pe_int pa_nil))))
      (pss_one (ps_ret (pe_or (pe_cmpR op_lt (pe_call G_take (hr.mono (by omega)) (by rfl) T.g_take T.F_take.kp T.b_take .nil pass0 (pa_cons (pv 7) (pa_cons pe_int pa_nil))) pe_int (nomark _)) (pe_one (pe_call G_large (hr.mono (by omega)) (by rfl) T.g_large T.F_large.kp T.b_large .nil pass0 (pa_cons (pv 7) pa_nil)))))))))))))))))), ?_⟩
    refine ⟨_, rfl, a, ns, 0, rfl, hS, fun b0 o0 hb0 ho0 => ?_⟩
    have S1 : Same H (L2.upd H b0 o0) := Same.new hb0
    refine ⟨_, rfl, _, rfl, b0, _, rfl, ⟨o0, upd_same, ho0⟩, by decide, by decide, fun d H2 d0 d13 B2 _ => ?_⟩
    obtain ⟨d, rfl⟩ := Int.eq_ofNat_of_zero_le d0
    refine ⟨b0, d, rfl, B2.2, by omega, fun H3 p3 ps B3 n3 e3 l3 m3 => ?_⟩
    have B23 := B2.trans B3
    have n30 : p3 ≠ b0 := (Box.ne B2.2 n3).symm
    refine ⟨fun σ H' => ∃ ps : List Int, σ = [some (.ref a), some (.ref b0), some (.ref p3), none, none, none, none, none] ∧ But b0 (L2.upd H b0 o0) H' ∧ H' p3 = some (.lst (ps.map V.int)) ∧ ps.length ≤ 13 ∧ ∀ k ∈ ps, k < 200 ∨ k = 255, ?_, ?_⟩
    · refine ⟨_, rfl, b0, _, rfl, B3.2, by decide, by decide, fun d2 H4 _ _ B4 _ => ⟨rfl, _, rfl, ite2 (fun h => ?_) (fun h => ?_)⟩⟩
      · have e4 := B4.1 _ _ n30 e3
        have n3H : H p3 = none := S1.free (But.none B2 n3)
        refine ⟨_, rfl, .inl ⟨rfl, _, SqL.of e4⟩, p3, ps.map V.int, _, rfl, rfl, e4, szl (by rw [List.length_map]; omega), ps ++ [255], rfl, But.mut (B23.trans B4) (But.none B2 n3) n30.symm, ?_, by rw [List.length_append, l3]; show d + 1 ≤ 13; omega, fun k hk => ?_⟩
        · rw [upd_same, List.map_append]
          rfl
        · rcases List.mem_append.mp hk with h | h
          · exact .inl (m3 k h)
          · exact .inr (List.mem_singleton.mp h)
      · exact ⟨ps, rfl, B23.trans B4, B4.1 _ _ n30 e3, by omega, fun k hk => .inl (m3 k hk)⟩
    rintro σ H4 ⟨qs, rfl, B4, e4, l4, m4⟩
    clear B2 B3 B23 n3 e3 l3 m3
    have S4 : Same H H4 := But.same_of S1 hb0 B4
    have o201 : (201 : Int) ∉ qs := fun h => by
      rcases m4 _ h with z | z
      · exact absurd z (by decide)
      · exact absurd z (by decide)
    have o203 : (203 : Int) ∉ qs := fun h => by
      rcases m4 _ h with z | z
      · exact absurd z (by decide)
      · exact absurd z (by decide)
    refine ⟨_, rfl, _, rfl, b0, p3, qs, rfl, B4.2, SqL.of e4, n30, by omega, fun H5 p4 f B5 n4 A5 pf uf => ?_⟩
    have S5 : Same H H5 := But.same_of S4 hb0 B5
    have e5 := B5.1 _ _ n30 e4
    -- book
    refine ⟨_, rfl, a, ns, 1, rfl, S5.seq hS, fun b1 o1 hb1 ho1 => ?_⟩
    have s6 : Same H5 (L2.upd H5 b1 o1) := Same.new hb1
    have e6 := s6 _ _ e5
    have n31 : p3 ≠ b1 := ne_of_none e5 hb1
    have X1 : Box (L2.upd H5 b1 o1) b1 := ⟨o1, upd_same, ho1⟩
    refine ⟨_, rfl, _, rfl, b1, p4, p3, f, qs, rfl, X1, A5.same s6, SqL.of e6, n31, by omega, fun H7 p5 g B7 n5 A7 pg ug => ?_⟩
    have S7 : Same H H7 := But.same_of (S5.trans s6) (S5.free hb1) B7
    have F7 := (A5.same s6).but X1 B7
    have e7 := B7.1 _ _ n31 e6
    -- writes
    refine ⟨_, rfl, a, ns, 2, rfl, S7.seq hS, fun b2 o2 hb2 ho2 => ?_⟩
    have s8 : Same H7 (L2.upd H7 b2 o2) := Same.new hb2
    have e8 := s8 _ _ e7
    have n32 : p3 ≠ b2 := ne_of_none e7 hb2
    have X2 : Box (L2.upd H7 b2 o2) b2 := ⟨o2, upd_same, ho2⟩
    refine ⟨_, rfl, _, rfl, b2, p4, p3, f, qs, rfl, X2, F7.same s8, pf, SqL.of e8, n32, by omega, fun H9 p6 hw B9 n6 W9 nw uw => ?_⟩
    have S9 : Same H H9 := But.same_of (S7.trans s8) (S7.free hb2) B9
    have F9 := (F7.same s8).but X2 B9
    have G9 := (A7.same s8).but X2 B9
    have e9 := B9.1 _ _ n32 e8
    have hl : qs.length ≤ 62 := by omega
    refine ⟨_, rfl, _, rfl, _, rfl, p4, p5, p3, f, g, qs, rfl, F9, G9, pf, pg, uf, ug, o201, SqL.of e9, hl, fun H10 S10 => ⟨_, rfl, iteF ?_⟩⟩
    refine ⟨_, rfl, _, rfl, _, rfl, p5, p4, p3, g, f, qs, rfl, G9.same S10, F9.same S10, pg, pf, ug, uf, o201, SqL.of (S10 _ _ e9), hl, fun H11 S11 => ⟨_, rfl, iteF ?_⟩⟩
    have S11 := S10.trans S11
    refine ⟨_, rfl, _, rfl, _, rfl, p4, p4, p3, f, f, qs, rfl, F9.same S11, F9.same S11, pf, pf, uf, uf, o201, SqL.of (S11 _ _ e9), hl, fun H12 S12 => ⟨_, rfl, iteF ?_⟩⟩
    have S12 := S11.trans S12
    refine fun z hz => ⟨_, rfl, _, rfl, ?_⟩
    have sz' : Same H12 (L2.upd H12 z (.dK [])) := Same.new hz
    have Sz := S12.trans sz'
    refine ⟨z, p5, p3, none0, g, qs, rfl, At.new, G9.same Sz, pos_none0, pg, in_none0 _, ug, o201, SqL.of (Sz _ _ e9), hl, fun H13 S13 => ⟨_, rfl, iteF ?_⟩⟩
    have S13 := Sz.trans S13
    refine ⟨_, rfl, _, rfl, _, rfl, p4, p6, p3, f, hw, qs, rfl, F9.same S13, W9.same S13, pf, nw, uf, uw, SqL.of (S13 _ _ e9), hl, fun H14 S14 => ⟨_, rfl, iteF ?_⟩⟩
    have S14 := S13.trans S14
    refine ⟨_, rfl, _, rfl, _, rfl, p5, p6, p3, g, hw, qs, rfl, G9.same S14, W9.same S14, pg, nw, ug, uw, SqL.of (S14 _ _ e9), hl, fun H15 S15 => ⟨_, rfl, iteF ?_⟩⟩
    have S15 := S14.trans S15
    have SH := S9.trans S15
    -- the marks told
    refine ⟨_, rfl, a, ns, 3, rfl, SH.seq hS, fun b3 o3 hb3 ho3 => ?_⟩
    have s16 : Same H15 (L2.upd H15 b3 o3) := Same.new hb3
    have S16 := SH.trans s16
    have e16 := s16 _ _ (S15 _ _ e9)
    have n33 : p3 ≠ b3 := ne_of_none (S15 _ _ e9) hb3
    have X3 : Box (L2.upd H15 b3 o3) b3 := ⟨o3, upd_same, ho3⟩
    have F16 := F9.same (S15.trans s16)
    have G16 := G9.same (S15.trans s16)
    have t16 := TabG.same ht S16
    refine ⟨_, rfl, _, rfl, _, rfl, b3, p4, p3, f, qs, qs, rfl, X3, F16, uf, hl, e16, n33, o203, hl, t16, fun H17 K17 => ⟨_, rfl, iteF ?_⟩⟩
    have n3t := ne_tab t16 e16 (fun q z => by cases z)
    have e17 := K17.1 _ _ n33 n3t e16
    have G17 : At H17 p5 g := by
      have n5 := At.ne G16 X3
      obtain ⟨kvs, e, bk⟩ := G16
      exact ⟨kvs, K17.1 _ _ n5 (ne_tab t16 e (fun q z => by cases z)) e, bk⟩
    refine ⟨_, rfl, _, rfl, _, rfl, b3, p5, p3, g, qs, qs, rfl, K17.2.1, G17, ug, hl, e17, n33, o203, hl, K17.2.2, fun H18 K18 => ⟨_, rfl, iteF ?_⟩⟩
    have hb3H : H b3 = none := SH.free hb3
    have K : Kt tb H H18 := ⟨fun b o nt e => by
      have n3 : b ≠ b3 := ne_of_none e hb3H
      exact K18.1 _ _ n3 nt (K17.1 _ _ n3 nt (S16 _ _ e)), K18.2.2⟩
    refine ⟨_, rfl, a, ns, 4, rfl, sqL_kt hS ht K, fun b4 o4 hb4 ho4 => ?_⟩
    have t19 := TabG.new (o := o4) K18.2.2 hb4
    have X4 : Box (L2.upd H18 b4 o4) b4 := ⟨o4, upd_same, ho4⟩
    refine ⟨_, rfl, b4, _, rfl, X4, by decide, by decide, fun d5 H20 _ _ B20 _ => ⟨_, _, rfl, rfl, _, rfl, ite2 (fun h => ?_) (fun h => ?_)⟩⟩
    · exact q H20
    · exact ⟨_, rfl, b4, rfl, B20.2, TabG.but t19 X4 B20, fun H21 _ => q H21⟩
end
/-- the end of a law with the table of the def y -/
theorem walk_ofTab {lw : PySem.W.OpenLaw} {most lv : Nat} {pg : Program} {ls : List Str} {XP : (Str → Option Value) → Heap → Prop} {YP : World → Heap → Prop} {dr : DefRec} {KF : Params → PySem.W.Frag} {CX : World → CXT} {arg : Str} (y : Str) (h1 : lw.most = some most) (h2 : most ≤ sizeLine) (h3 : dr.params.defaults = [])
    (room : Room lv callerA) (hy : ((recsOf pg).find? fun e => e.name == y).isSome = true) (inK : ∀ (w : World) (g : Heap), YP w g → (KF w.params).In g)
    (F : ∀ (w : World) (mg : Str → Option Value) (fa : Addr) (g : Heap), YP w g → (KF w.params).In g → g.Ns mainGlobals mg → mg dr.name = some (.ref fa) → (∀ c P, PySem.W.tabIn (KF w.params) y = some (c, P) → PySem.W.CodeHd g c P ∧ g.get? P = some { cls := .none, data := .fields #[] }) → LamX.LawAtS lw w (KF w.params) (CX w) lv most arg mg fa g)
    (noX : ∀ (w : World) (H : Hp) (s1 : Shared) (v : Value) (s2 : Shared), CX w [] H s1 (fun _ _ _ => False) v s2 → False) : PySem.W.WalkO pg ls XP YP lw.row.toRowW dr [] (fun f us => PySem.call f us) := by
  refine Att.attach_callB h1 h3 fun w sA sB mg mb fa ob pm cd doc a us ks G Y ho hd hcd hmg hobj intl hlen bits hg => ?_
  have inH := inK w _ Y
  obtain ⟨dy, ey⟩ := Option.isSome_iff_exists.mp hy
  obtain ⟨fd, cs, sp, tT, noT, cT, bT, spT, fT⟩ := F w mg fa _ Y inH G.T.g hmg fun c P ht => PySem.W.tab_of G.T inH ey ht
  exact LamX.law_callTs inH G.T.g G.T.b G.T.builtins G.T.nolimit hg tT noT cT G.T.bmain hobj intl (Nat.le_trans hlen h2) room fT bT (fun H z1 z2 => spT H a ks hlen bits z1 z2) fun H v s2 => noX w H sB v s2
theorem all_mk {l : PySem.W.OpenLaw} {w : World} {K : PySem.W.Frag} {h : Heap} {mg : Str → Option Value} {fa f0 f1 f2 f3 f4 f5 f6 f7 f8 f9 f10 f11 f12 f13 f14 f15 f16 f17 f18 f19 f20 f21 : Addr} (X : K.In h) (G : h.Ns mainGlobals mg) (hfa : mg "law" = some (.ref fa)) {cc tP : Addr} {ecl : Value} {edd : Option Addr} {cvs : Array Value} {esl : Array (Option Value)} (own : ∀ c P, PySem.W.tabIn K "holds" = some (c, P) → PySem.W.CodeHd h c P ∧ h.get? P = some { cls := .none, data := .fields #[] })
    {od0 an0 od1 an1 od2 an2 od3 an3 od4 an4 od5 an5 od6 an6 od7 an7 od8 an8 od9 an9 od10 an10 od11 an11 od12 an12 od13 an13 od14 an14 od15 an15 od16 an16 od17 an17 od18 an18 od19 an19 od20 an20 od21 an21 : Option Addr} {sl0 sl1 sl2 sl3 sl4 sl5 sl6 sl7 sl8 sl9 sl10 sl11 sl12 sl13 sl14 sl15 sl16 sl17 sl18 sl19 sl20 sl21 : Array (Option Value)} {oc0 kV0 dc0 pm0 cd0 ct0 oc1 kV1 dc1 pm1 cd1 ct1 oc2 kV2 dc2 pm2 cd2 ct2 oc3 kV3 dc3 pm3 ct3 oc4 kV4 dc4 pm4 cd4 ct4 oc5 kV5 dc5 pm5 cd5 ct5 oc6 kV6 dc6 pm6 cd6 ct6 oc7 kV7 dc7 pm7 cd7 ct7 oc8 kV8 dc8 pm8 cd8 ct8 oc9 kV9 dc9 pm9 cd9 ct9 oc10 kV10 dc10 pm10 cd10 ct10 oc11 kV11 dc11 pm11 cd11 ct11 oc12 kV12 dc12 pm12 cd12 ct12 oc13 kV13 dc13 pm13 cd13 ct13 oc14 kV14 dc14 pm14 cd14 ct14 oc15 kV15 dc15 pm15 cd15 ct15 oc16 kV16 dc16 pm16 cd16 ct16 oc17 kV17 dc17 pm17 cd17 ct17 oc18 kV18 dc18 pm18 cd18 ct18 oc19 kV19 dc19 pm19 cd19 ct19 oc20 kV20 dc20 pm20 cd20 ct20 oc21 kV21 dc21 pm21 cd21 ct21 : Value}
    (a0 : PySem.W.nsIn K mainGlobals "value_at" = some (some (.ref f0))) (l0 : K.lookup f0 = some ⟨oc0, od0, .func (PySem.W.fnOf "value_at" "value_at" (defArgs s_value_at) (defBody s_value_at) (defScope s_value_at) .none kV0 dc0 pm0 an0 cd0 ct0), sl0⟩) (c0 : PySem.W.codeIn K cd0 "value_at" = true) (k0 : PySem.W.keepIn K (.ref f0) = true)
    (a1 : PySem.W.nsIn K mainGlobals "with_writes" = some (some (.ref f1))) (l1 : K.lookup f1 = some ⟨oc1, od1, .func (PySem.W.fnOf "with_writes" "with_writes" (defArgs s_with_writes) (defBody s_with_writes) (defScope s_with_writes) .none kV1 dc1 pm1 an1 cd1 ct1), sl1⟩) (c1 : PySem.W.codeIn K cd1 "with_writes" = true) (k1 : PySem.W.keepIn K (.ref f1) = true)
    (a2 : PySem.W.nsIn K mainGlobals "changes" = some (some (.ref f2))) (l2 : K.lookup f2 = some ⟨oc2, od2, .func (PySem.W.fnOf "changes" "changes" (defArgs s_changes) (defBody s_changes) (defScope s_changes) .none kV2 dc2 pm2 an2 cd2 ct2), sl2⟩) (c2 : PySem.W.codeIn K cd2 "changes" = true) (k2 : PySem.W.keepIn K (.ref f2) = true)
    (a3 : PySem.W.nsIn K mainGlobals "holds" = some (some (.ref f3))) (l3 : K.lookup f3 = some ⟨oc3, od3, .func (PySem.W.fnOf "holds" "holds" (defArgs s_holds) (defBody s_holds) (defScope s_holds) .none kV3 dc3 pm3 an3 (.ref cc) ct3), sl3⟩) (c3 : PySem.W.codeIn K (.ref cc) "holds" = true) (k3 : PySem.W.keepIn K (.ref f3) = true)
    (a4 : PySem.W.nsIn K mainGlobals "_law_open" = some (some (.ref f4))) (l4 : K.lookup f4 = some ⟨oc4, od4, .func (PySem.W.fnOf "_law_open" "_law_open" (defArgs s_open) (defBody s_open) (defScope s_open) .none kV4 dc4 pm4 an4 cd4 ct4), sl4⟩) (c4 : PySem.W.codeIn K cd4 "_law_open" = true) (k4 : PySem.W.keepIn K (.ref f4) = true)
    (a5 : PySem.W.nsIn K mainGlobals "_law_take" = some (some (.ref f5))) (l5 : K.lookup f5 = some ⟨oc5, od5, .func (PySem.W.fnOf "_law_take" "_law_take" (defArgs s_take) (defBody s_take) (defScope s_take) .none kV5 dc5 pm5 an5 cd5 ct5), sl5⟩) (c5 : PySem.W.codeIn K cd5 "_law_take" = true) (k5 : PySem.W.keepIn K (.ref f5) = true)
    (a6 : PySem.W.nsIn K mainGlobals "_law_choose" = some (some (.ref f6))) (l6 : K.lookup f6 = some ⟨oc6, od6, .func (PySem.W.fnOf "_law_choose" "_law_choose" (defArgs s_choose) (defBody s_choose) (defScope s_choose) .none kV6 dc6 pm6 an6 cd6 ct6), sl6⟩) (c6 : PySem.W.codeIn K cd6 "_law_choose" = true) (k6 : PySem.W.keepIn K (.ref f6) = true)
    (a7 : PySem.W.nsIn K mainGlobals "_law_places" = some (some (.ref f7))) (l7 : K.lookup f7 = some ⟨oc7, od7, .func (PySem.W.fnOf "_law_places" "_law_places" (defArgs s_places) (defBody s_places) (defScope s_places) .none kV7 dc7 pm7 an7 cd7 ct7), sl7⟩) (c7 : PySem.W.codeIn K cd7 "_law_places" = true) (k7 : PySem.W.keepIn K (.ref f7) = true)
    (a8 : PySem.W.nsIn K mainGlobals "_law_is_book" = some (some (.ref f8))) (l8 : K.lookup f8 = some ⟨oc8, od8, .func (PySem.W.fnOf "_law_is_book" "_law_is_book" (defArgs s_is_book) (defBody s_is_book) (defScope s_is_book) .none kV8 dc8 pm8 an8 cd8 ct8), sl8⟩) (c8 : PySem.W.codeIn K cd8 "_law_is_book" = true) (k8 : PySem.W.keepIn K (.ref f8) = true)
    (a9 : PySem.W.nsIn K mainGlobals "_law_copy" = some (some (.ref f9))) (l9 : K.lookup f9 = some ⟨oc9, od9, .func (PySem.W.fnOf "_law_copy" "_law_copy" (defArgs s_copy) (defBody s_copy) (defScope s_copy) .none kV9 dc9 pm9 an9 cd9 ct9), sl9⟩) (c9 : PySem.W.codeIn K cd9 "_law_copy" = true) (k9 : PySem.W.keepIn K (.ref f9) = true)
    (a10 : PySem.W.nsIn K mainGlobals "_law_value" = some (some (.ref f10))) (l10 : K.lookup f10 = some ⟨oc10, od10, .func (PySem.W.fnOf "_law_value" "_law_value" (defArgs s_value) (defBody s_value) (defScope s_value) .none kV10 dc10 pm10 an10 cd10 ct10), sl10⟩) (c10 : PySem.W.codeIn K cd10 "_law_value" = true) (k10 : PySem.W.keepIn K (.ref f10) = true)
    (a11 : PySem.W.nsIn K mainGlobals "_law_first" = some (some (.ref f11))) (l11 : K.lookup f11 = some ⟨oc11, od11, .func (PySem.W.fnOf "_law_first" "_law_first" (defArgs s_first) (defBody s_first) (defScope s_first) .none kV11 dc11 pm11 an11 cd11 ct11), sl11⟩) (c11 : PySem.W.codeIn K cd11 "_law_first" = true) (k11 : PySem.W.keepIn K (.ref f11) = true)
    (a12 : PySem.W.nsIn K mainGlobals "_law_second" = some (some (.ref f12))) (l12 : K.lookup f12 = some ⟨oc12, od12, .func (PySem.W.fnOf "_law_second" "_law_second" (defArgs s_second) (defBody s_second) (defScope s_second) .none kV12 dc12 pm12 an12 cd12 ct12), sl12⟩) (c12 : PySem.W.codeIn K cd12 "_law_second" = true) (k12 : PySem.W.keepIn K (.ref f12) = true)
    (a13 : PySem.W.nsIn K mainGlobals "_law_wanted" = some (some (.ref f13))) (l13 : K.lookup f13 = some ⟨oc13, od13, .func (PySem.W.fnOf "_law_wanted" "_law_wanted" (defArgs s_wanted) (defBody s_wanted) (defScope s_wanted) .none kV13 dc13 pm13 an13 cd13 ct13), sl13⟩) (c13 : PySem.W.codeIn K cd13 "_law_wanted" = true) (k13 : PySem.W.keepIn K (.ref f13) = true)
    (a14 : PySem.W.nsIn K mainGlobals "_law_unlike" = some (some (.ref f14))) (l14 : K.lookup f14 = some ⟨oc14, od14, .func (PySem.W.fnOf "_law_unlike" "_law_unlike" (defArgs s_unlike) (defBody s_unlike) (defScope s_unlike) .none kV14 dc14 pm14 an14 cd14 ct14), sl14⟩) (c14 : PySem.W.codeIn K cd14 "_law_unlike" = true) (k14 : PySem.W.keepIn K (.ref f14) = true)
    (a15 : PySem.W.nsIn K mainGlobals "_law_after" = some (some (.ref f15))) (l15 : K.lookup f15 = some ⟨oc15, od15, .func (PySem.W.fnOf "_law_after" "_law_after" (defArgs s_after) (defBody s_after) (defScope s_after) .none kV15 dc15 pm15 an15 cd15 ct15), sl15⟩) (c15 : PySem.W.codeIn K cd15 "_law_after" = true) (k15 : PySem.W.keepIn K (.ref f15) = true)
    (a16 : PySem.W.nsIn K mainGlobals "_law_leads" = some (some (.ref f16))) (l16 : K.lookup f16 = some ⟨oc16, od16, .func (PySem.W.fnOf "_law_leads" "_law_leads" (defArgs s_leads) (defBody s_leads) (defScope s_leads) .none kV16 dc16 pm16 an16 cd16 ct16), sl16⟩) (c16 : PySem.W.codeIn K cd16 "_law_leads" = true) (k16 : PySem.W.keepIn K (.ref f16) = true)
    (a17 : PySem.W.nsIn K mainGlobals "_law_writing" = some (some (.ref f17))) (l17 : K.lookup f17 = some ⟨oc17, od17, .func (PySem.W.fnOf "_law_writing" "_law_writing" (defArgs s_writing) (defBody s_writing) (defScope s_writing) .none kV17 dc17 pm17 an17 cd17 ct17), sl17⟩) (c17 : PySem.W.codeIn K cd17 "_law_writing" = true) (k17 : PySem.W.keepIn K (.ref f17) = true)
    (a18 : PySem.W.nsIn K mainGlobals "_law_holding" = some (some (.ref f18))) (l18 : K.lookup f18 = some ⟨oc18, od18, .func (PySem.W.fnOf "_law_holding" "_law_holding" (defArgs s_holding) (defBody s_holding) (defScope s_holding) .none kV18 dc18 pm18 an18 cd18 ct18), sl18⟩) (c18 : PySem.W.codeIn K cd18 "_law_holding" = true) (k18 : PySem.W.keepIn K (.ref f18) = true)
    (a19 : PySem.W.nsIn K mainGlobals "_law_telling" = some (some (.ref f19))) (l19 : K.lookup f19 = some ⟨oc19, od19, .func (PySem.W.fnOf "_law_telling" "_law_telling" (defArgs s_telling) (defBody s_telling) (defScope s_telling) .none kV19 dc19 pm19 an19 cd19 ct19), sl19⟩) (c19 : PySem.W.codeIn K cd19 "_law_telling" = true) (k19 : PySem.W.keepIn K (.ref f19) = true)
    (a20 : PySem.W.nsIn K mainGlobals "_law_large" = some (some (.ref f20))) (l20 : K.lookup f20 = some ⟨oc20, od20, .func (PySem.W.fnOf "_law_large" "_law_large" (defArgs s_large) (defBody s_large) (defScope s_large) .none kV20 dc20 pm20 an20 cd20 ct20), sl20⟩) (c20 : PySem.W.codeIn K cd20 "_law_large" = true) (k20 : PySem.W.keepIn K (.ref f20) = true)
    (a21 : PySem.W.nsIn K mainGlobals "law" = some (some (.ref f21))) (l21 : K.lookup f21 = some ⟨oc21, od21, .func (PySem.W.fnOf "law" "law" (defArgs s_law) (defBody s_law) (defScope s_law) .none kV21 dc21 pm21 an21 cd21 ct21), sl21⟩) (c21 : PySem.W.codeIn K cd21 "law" = true) (k21 : PySem.W.keepIn K (.ref f21) = true)
    (z0 : PySem.W.nsIn K mainGlobals "dict" = some none)
    (z1 : PySem.W.nsIn K mainGlobals "sorted" = some none)
    (z2 : PySem.W.nsIn K mainGlobals "set" = some none)
    (z3 : PySem.W.nsIn K mainGlobals "all" = some none)
    (z4 : PySem.W.nsIn K mainGlobals "len" = some none)
    (z5 : PySem.W.nsIn K mainGlobals "int" = some none)
    (z6 : PySem.W.nsIn K mainGlobals "list" = some none)
    (z7 : PySem.W.nsIn K mainGlobals "range" = some none)
    (z8 : PySem.W.nsIn K mainGlobals "min" = some none)
    (z9 : PySem.W.nsIn K mainGlobals "isinstance" = some none)
    (z10 : PySem.W.nsIn K mainGlobals "bool" = some none)
    (z11 : PySem.W.nsIn K mainGlobals "reversed" = some none)
    (z12 : PySem.W.nsIn K mainGlobals "max" = some none)
    (z13 : PySem.W.nsIn K mainGlobals "tuple" = some none)
    (lc : K.lookup cc = some ⟨ecl, edd, .fields cvs, esl⟩) (vP : cvs[11]? = some (.ref tP)) (nP : K.lookup tP = none)
    : LamX.LawAtS l w K CX0 7 63 "_law_script" mg fa h := by
  have e := hfa.symm.trans (PySem.W.mg_of X G a21)
  cases e
  have F0 := fun_mk (st := s_value_at) l0 c0 k0
  have F1 := fun_mk (st := s_with_writes) l1 c1 k1
  have F2 := fun_mk (st := s_changes) l2 c2 k2
  have F3 := fun_mk (st := s_holds) l3 c3 k3
  have F4 := fun_mk (st := s_open) l4 c4 k4
  have F5 := fun_mk (st := s_take) l5 c5 k5
  have F6 := fun_mk (st := s_choose) l6 c6 k6
  have F7 := fun_mk (st := s_places) l7 c7 k7
  have F8 := fun_mk (st := s_is_book) l8 c8 k8
  have F9 := fun_mk (st := s_copy) l9 c9 k9
  have F10 := fun_mk (st := s_value) l10 c10 k10
  have F11 := fun_mk (st := s_first) l11 c11 k11
  have F12 := fun_mk (st := s_second) l12 c12 k12
  have F13 := fun_mk (st := s_wanted) l13 c13 k13
  have F14 := fun_mk (st := s_unlike) l14 c14 k14
  have F15 := fun_mk (st := s_after) l15 c15 k15
  have F16 := fun_mk (st := s_leads) l16 c16 k16
  have F17 := fun_mk (st := s_writing) l17 c17 k17
  have F18 := fun_mk (st := s_holding) l18 c18 k18
  have F19 := fun_mk (st := s_telling) l19 c19 k19
  have F20 := fun_mk (st := s_large) l20 c20 k20
  have F21 := fun_mk (st := s_law) l21 c21 k21
  let T : Txt K mg := ⟨_, _, F0, (F0.binds (ps := ["book", "place"]) fun _ _ _ _ _ _ us hl => match us, hl with | [_, _], _ => rfl), PySem.W.mg_of X G a0,
    _, _, F1, (F1.binds (ps := ["book", "writes"]) fun _ _ _ _ _ _ us hl => match us, hl with | [_, _], _ => rfl), PySem.W.mg_of X G a1,
    _, _, F2, (F2.binds (ps := ["base", "book"]) fun _ _ _ _ _ _ us hl => match us, hl with | [_, _], _ => rfl), PySem.W.mg_of X G a2,
    _, _, F3, (F3.binds (ps := ["book", "marks"]) fun _ _ _ _ _ _ us hl => match us, hl with | [_, _], _ => rfl), PySem.W.mg_of X G a3,
    _, _, F4, (F4.binds (ps := ["_law_script", "_law_at"]) fun _ _ _ _ _ _ us hl => match us, hl with | [_, _], _ => rfl), PySem.W.mg_of X G a4,
    _, _, F5, (F5.binds (ps := ["_law_box", "_law_size"]) fun _ _ _ _ _ _ us hl => match us, hl with | [_, _], _ => rfl), PySem.W.mg_of X G a5,
    _, _, F6, (F6.binds (ps := ["_law_box", "_law_rows", "_law_count"]) fun _ _ _ _ _ _ us hl => match us, hl with | [_, _, _], _ => rfl), PySem.W.mg_of X G a6,
    _, _, F7, (F7.binds (ps := ["_law_box", "_law_count"]) fun _ _ _ _ _ _ us hl => match us, hl with | [_, _], _ => rfl), PySem.W.mg_of X G a7,
    _, _, F8, (F8.binds (ps := ["_law_told"]) fun _ _ _ _ _ _ us hl => match us, hl with | [_], _ => rfl), PySem.W.mg_of X G a8,
    _, _, F9, (F9.binds (ps := ["_law_book"]) fun _ _ _ _ _ _ us hl => match us, hl with | [_], _ => rfl), PySem.W.mg_of X G a9,
    _, _, F10, (F10.binds (ps := ["_law_box"]) fun _ _ _ _ _ _ us hl => match us, hl with | [_], _ => rfl), PySem.W.mg_of X G a10,
    _, _, F11, (F11.binds (ps := ["_law_box", "_law_places_here"]) fun _ _ _ _ _ _ us hl => match us, hl with | [_, _], _ => rfl), PySem.W.mg_of X G a11,
    _, _, F12, (F12.binds (ps := ["_law_box", "_law_book", "_law_places_here"]) fun _ _ _ _ _ _ us hl => match us, hl with | [_, _, _], _ => rfl), PySem.W.mg_of X G a12,
    _, _, F13, (F13.binds (ps := ["_law_box", "_law_book", "_law_places_here"]) fun _ _ _ _ _ _ us hl => match us, hl with | [_, _, _], _ => rfl), PySem.W.mg_of X G a13,
    _, _, F14, (F14.binds (ps := ["_law_base", "_law_book", "_law_places_here"]) fun _ _ _ _ _ _ us hl => match us, hl with | [_, _, _], _ => rfl), PySem.W.mg_of X G a14,
    _, _, F15, (F15.binds (ps := ["_law_book", "_law_writes", "_law_places_here"]) fun _ _ _ _ _ _ us hl => match us, hl with | [_, _, _], _ => rfl), PySem.W.mg_of X G a15,
    _, _, F16, (F16.binds (ps := ["_law_base", "_law_book", "_law_places_here"]) fun _ _ _ _ _ _ us hl => match us, hl with | [_, _, _], _ => rfl), PySem.W.mg_of X G a16,
    _, _, F17, (F17.binds (ps := ["_law_base", "_law_writes", "_law_places_here"]) fun _ _ _ _ _ _ us hl => match us, hl with | [_, _, _], _ => rfl), PySem.W.mg_of X G a17,
    _, _, F18, (F18.binds (ps := ["_law_one", "_law_marks", "_law_due"]) fun _ _ _ _ _ _ us hl => match us, hl with | [_, _, _], _ => rfl), PySem.W.mg_of X G a18,
    _, _, F19, (F19.binds (ps := ["_law_box", "_law_book", "_law_places_here"]) fun _ _ _ _ _ _ us hl => match us, hl with | [_, _, _], _ => rfl), PySem.W.mg_of X G a19,
    _, _, F20, (F20.binds (ps := ["_law_box"]) fun _ _ _ _ _ _ us hl => match us, hl with | [_], _ => rfl), PySem.W.mg_of X G a20,
    _, _, F21, (F21.binds (ps := ["_law_script"]) fun _ _ _ _ _ _ us hl => match us, hl with | [_], _ => rfl), PySem.W.mg_of X G a21,
    PySem.W.mg_none_of X G z0, PySem.W.mg_none_of X G z1, PySem.W.mg_none_of X G z2, PySem.W.mg_none_of X G z3, PySem.W.mg_none_of X G z4, PySem.W.mg_none_of X G z5, PySem.W.mg_none_of X G z6, PySem.W.mg_none_of X G z7, PySem.W.mg_none_of X G z8, PySem.W.mg_none_of X G z9, PySem.W.mg_none_of X G z10, PySem.W.mg_none_of X G z11, PySem.W.mg_none_of X G z12, PySem.W.mg_none_of X G z13⟩
  have tI : PySem.W.tabIn K "holds" = some (cc, tP) := by
    unfold PySem.W.tabIn
    rw [a3]
    dsimp only
    rw [l3]
    show (match K.lookup cc with
      | some ⟨_, _, .fields vs, _⟩ => (match (vs[11]? : Option Value) with
        | some (.ref P) => some (cc, P)
        | _ => none)
      | _ => none) = some (cc, tP)
    rw [lc]
    dsimp only
    rw [vP]
  obtain ⟨hC, hP⟩ := own cc tP tI
  refine ⟨PySem.W.fnOf "law" "law" (defArgs s_law) (defBody s_law) (defScope s_law) .none kV21 dc21 pm21 an21 cd21 ct21, [(cc, tP)], sp_law K tP, fun p hp => ?_, fun p hp => ?_, fun p hp => ?_, fun s v => .of_eq rfl, fun H a ns hl _ hT hS => ⟨a, ns, rfl, hS, ⟨#[], hT _ List.mem_cons_self, trivial⟩, fun _ => rfl⟩, fun base _ _ hTB => ok_law ⟨(hTB _ List.mem_cons_self).code, (hTB _ List.mem_cons_self).bm, (hTB _ List.mem_cons_self).gP⟩ T rfl⟩
  · rw [List.mem_singleton.mp hp]
    exact hP
  · rw [List.mem_singleton.mp hp]
    exact nP
  · rw [List.mem_singleton.mp hp]
    exact hC
end P1
open PySem PySem.W PyProof.Rows in
set_option maxRecDepth 100000 in
set_option maxHeartbeats 0 in
theorem PySem.Challenge.cw_forkedshelves_k01_changes_lead_back_holds : PySem.Challenge.rw_forkedshelves_k01_changes_lead_back.Holds := by
  w_on; o_law; k_head; (case hw => w_witness2)
  k_fill
  refine P1.walk_ofTab (lw := PySem.Challenge.rw_forkedshelves_k01_changes_lead_back) (most := 63) (lv := 7) (arg := "_law_script") (CX := fun _ => L2.CX0) "holds" rfl (by decide) rfl ⟨rfl, by decide, by decide⟩ (by rfl) (fun w h Y => PySem.W.kIn_of Y) ?F (fun _ _ _ _ _ h => h)
  case F =>
    intro w mg fa h YY KX G hmg own
    refine' P1.all_mk KX G hmg own ?a0 ?l0 ?c0 ?k0 ?a1 ?l1 ?c1 ?k1 ?a2 ?l2 ?c2 ?k2 ?a3 ?l3 ?c3 ?k3 ?a4 ?l4 ?c4 ?k4 ?a5 ?l5 ?c5 ?k5 ?a6 ?l6 ?c6 ?k6 ?a7 ?l7 ?c7 ?k7 ?a8 ?l8 ?c8 ?k8 ?a9 ?l9 ?c9 ?k9 ?a10 ?l10 ?c10 ?k10 ?a11 ?l11 ?c11 ?k11 ?a12 ?l12 ?c12 ?k12 ?a13 ?l13 ?c13 ?k13 ?a14 ?l14 ?c14 ?k14 ?a15 ?l15 ?c15 ?k15 ?a16 ?l16 ?c16 ?k16 ?a17 ?l17 ?c17 ?k17 ?a18 ?l18 ?c18 ?k18 ?a19 ?l19 ?c19 ?k19 ?a20 ?l20 ?c20 ?k20 ?a21 ?l21 ?c21 ?k21 ?z0 ?z1 ?z2 ?z3 ?z4 ?z5 ?z6 ?z7 ?z8 ?z9 ?z10 ?z11 ?z12 ?z13 ?lc ?vP ?nP
    (case a0 => k_is)
    (case l0 => k_is)
    (case c0 => k_is)
    (case k0 => k_is)
    (case a1 => k_is)
    (case l1 => k_is)
    (case c1 => k_is)
    (case k1 => k_is)
    (case a2 => k_is)
    (case l2 => k_is)
    (case c2 => k_is)
    (case k2 => k_is)
    (case a3 => k_is)
    (case l3 => k_is)
    (case c3 => k_is)
    (case k3 => k_is)
    (case a4 => k_is)
    (case l4 => k_is)
    (case c4 => k_is)
    (case k4 => k_is)
    (case a5 => k_is)
    (case l5 => k_is)
    (case c5 => k_is)
    (case k5 => k_is)
    (case a6 => k_is)
    (case l6 => k_is)
    (case c6 => k_is)
    (case k6 => k_is)
    (case a7 => k_is)
    (case l7 => k_is)
    (case c7 => k_is)
    (case k7 => k_is)
    (case a8 => k_is)
    (case l8 => k_is)
    (case c8 => k_is)
    (case k8 => k_is)
    (case a9 => k_is)
    (case l9 => k_is)
    (case c9 => k_is)
    (case k9 => k_is)
    (case a10 => k_is)
    (case l10 => k_is)
    (case c10 => k_is)
    (case k10 => k_is)
    (case a11 => k_is)
    (case l11 => k_is)
    (case c11 => k_is)
    (case k11 => k_is)
    (case a12 => k_is)
    (case l12 => k_is)
    (case c12 => k_is)
    (case k12 => k_is)
    (case a13 => k_is)
    (case l13 => k_is)
    (case c13 => k_is)
    (case k13 => k_is)
    (case a14 => k_is)
    (case l14 => k_is)
    (case c14 => k_is)
    (case k14 => k_is)
    (case a15 => k_is)
    (case l15 => k_is)
    (case c15 => k_is)
    (case k15 => k_is)
    (case a16 => k_is)
    (case l16 => k_is)
    (case c16 => k_is)
    (case k16 => k_is)
    (case a17 => k_is)
    (case l17 => k_is)
    (case c17 => k_is)
    (case k17 => k_is)
    (case a18 => k_is)
    (case l18 => k_is)
    (case c18 => k_is)
    (case k18 => k_is)
    (case a19 => k_is)
    (case l19 => k_is)
    (case c19 => k_is)
    (case k19 => k_is)
    (case a20 => k_is)
    (case l20 => k_is)
    (case c20 => k_is)
    (case k20 => k_is)
    (case a21 => k_is)
    (case l21 => k_is)
    (case c21 => k_is)
    (case k21 => k_is)
    (case z0 => k_is)
    (case z1 => k_is)
    (case z2 => k_is)
    (case z3 => k_is)
    (case z4 => k_is)
    (case z5 => k_is)
    (case z6 => k_is)
    (case z7 => k_is)
    (case z8 => k_is)
    (case z9 => k_is)
    (case z10 => k_is)
    (case z11 => k_is)
    (case z12 => k_is)
    (case z13 => k_is)
    (case lc => k_is)
    (case vP => rfl)
    (case nP => first | rfl | decide +kernel)
