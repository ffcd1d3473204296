import PyProof.Rows.All
import Wide.All
import OpenK.AllK
import Wide.FinOn
import HandS.ForMost
import HandS.IsInst
import HandS.DictComp
import HandS.SetFor
import HandS.Codes
import HandS.Iter
import HandS.ListItems
import HandS.Strs
import HandS.TupSets
import HandS.AnyAll
import HandS.GenList
import HandS.EndTab
import HandS.Rev
import HandS.Walk
import HandS.EndOwn
import HandS.SortInts
import HandS.DeepEq
import HandS.NoneIn
import KE.KNest
import KE.GoesSet
import KE.KDictList
import PySem.Challenge.RW_forkedshelves_k27_merged_by_values
set_option Elab.async false
set_option linter.all false
set_option maxRecDepth 100000
set_option maxHeartbeats 4000000
namespace GxP
open PySem PySem.Spec PyProof.Rows L2 GxR GenW
/-- the context of a generator expression's frame that begins at s, its iterator's objects at fp -/
abbrev _root_.L2.Cx.gen (X : Cx) (s : Shared) (H : Hp) (cenv : Env) (A' : Around) (fp : List Addr) : Cx :=
  { X with s_0 := s, H_0 := H, env := cenv, outer := X.stack, stack := cenv :: X.stack, A := A', ex := fp, fn := fun _ => false, pn := [], xe := fun _ _ => False }
section
variable {X : Cx} {pins : List (Addr × Obj)} {σ : L2.St} {H : Hp} {s : Shared}
theorem gen_start {scope : Scope} {own : List (Str × Nat)} {fp : List Addr} {A' : Around} {code it : Value} {h' : Heap} {go : Obj} {gs : GenState} {tk : Nat} {cenv : Env}
    (I : Inv X pins σ H s) (ok : BlkOk X.N X.env.scope scope own) (hncell : ∀ y ∈ scope.names, y.2 ≠ .cell) (hN : X.N.Nodup) (hfp : ∀ b ∈ fp, FpOk X pins H b ∧ b < s.heap.objs.size)
    (hce : cenv = genEnv scope (cloFrom X.env.cells scope.names []) s.heap.objs.size code builtinsNs X.env)
    (hA : A'.frames = some (cenv :: X.stack)) (hAh : X.calm = true → A'.handled = none)
    (hn' : h'.Ns s.heap.objs.size (fun y => if y = ".0" then some it else none)) (hs' : Heap.SameBut s.heap.objs.size (s.heap.push { cls := .type "frame", data := .dict #[] }) h')
    (hgo : ∀ v, go.data ≠ .cell v) (hgf : (h'.push go).get? h'.objs.size = some go) (hgb : gs.bare = true) :
    Inv (X.gen s H cenv A' fp) [(h'.objs.size, go)] (wipe σ (own.map (·.2))) H { s with gens := s.gens.push gs, toks := tk, heap := h'.push go } := by
  have hfree : ∀ y ∈ scope.names, y.2 = .free → ∃ c, X.env.cells.lookup y.1 = some c := fun y hy e => by
    rcases ok.free y hy e with k | k
    · exact I.ok.has _ (.inl k)
    · exact I.ok.has _ (.inr k)
  have hsz : h'.objs.size = s.heap.objs.size + 1 := by rw [hs'.1, Heap.size_push]
  have kp0 : ∀ b o, s.heap.get? b = some o → h'.get? b = some o := fun b o e => hs'.extBut b o (Nat.ne_of_lt (Heap.lt_size e)) (Heap.get?_push_of_some _ e)
  have kp : ∀ b o, s.heap.get? b = some o → (h'.push go).get? b = some o := fun b o e => Heap.get?_push_of_some _ (kp0 b o e)
  have hL : cenv.locals = s.heap.objs.size := by rw [hce]; rfl
  have hcl : cenv.cells = cloFrom X.env.cells scope.names [] := by rw [hce]; rfl
  have hsc : cenv.scope = scope := by rw [hce]; rfl
  have cm : ∀ {y c}, cenv.cells.lookup y = some c → X.env.cells.lookup y = some c ∧ c < s.heap.objs.size ∧ (y, NameKind.free) ∈ scope.names := fun {y c} e => by
    rw [hcl] at e
    rcases cloFrom_mem (PySem.mem_of_lookup e) with hm | ⟨h1, rfl⟩
    · cases hm
    · obtain ⟨c, hc⟩ := hfree _ h1 rfl
      rw [hc]
      obtain ⟨w, z⟩ := I.cell _ _ hc
      exact ⟨rfl, z.lt, h1⟩
  have look : ∀ {y}, scope.names.lookup y = some .free → ∃ c, cenv.cells.lookup y = some c ∧ X.env.cells.lookup y = some c := fun {y} hl => by
    have hy : (y, NameKind.free) ∈ scope.names := PySem.mem_of_lookup hl
    obtain ⟨c', e'⟩ := mem_lookup (cloFrom_has (cells := X.env.cells) (acc := []) hy)
    rw [← hcl] at e'
    exact ⟨c', e', (cm e').1⟩
  have nocell : ∀ {y}, scope.names.lookup y ≠ some .cell := fun {y} e => hncell _ (PySem.mem_of_lookup e) rfl
  have okB : (X.gen s H cenv A' fp).Ok := by
    refine ⟨I.ok.mod, by show cenv.scope.kind = _; rw [hsc]; exact ok.kind, by show cenv.globals = _; rw [hce]; exact I.ok.glob, by show cenv.builtins = _; rw [hce]; rfl, by show s.heap.objs.size ≤ cenv.locals; rw [hL]; exact Nat.le_refl _,
      fun y z c e1 e2 => I.ok.inj y z c (cm e1).1 (cm e2).1, fun y hy => ?_, fun y c z e => (by cases z), hAh, hA, .inr ⟨rfl, by show cenv.frame = some cenv.locals; rw [hce]; rfl⟩, fun b hb => ⟨?_, fun y c e z => ?_⟩, I.bs, Nat.le_trans I.ok.bsz I.sz, fun b o e hb => ?_, fun b hb z => ?_, I.stack, I.stkFree⟩
    · have hy : cenv.scope.names.lookup y = some .cell ∨ cenv.scope.names.lookup y = some .free := hy
      rw [hsc] at hy
      rcases hy with hy | hy
      · exact absurd hy nocell
      · obtain ⟨c, h1, _⟩ := look hy
        exact ⟨c, h1⟩
    · show b ≠ cenv.locals
      rw [hL]; exact Nat.ne_of_lt (hfp b hb).2
    · exact (hfp b hb).1.2.2.2.2.1 y c (cm e).1 z
    · rcases (hfp b hb).1.2.2.2.1 with z | z
      · exact I.ok.noex b o e z
      · exact absurd (Nat.lt_of_lt_of_le (Heap.lt_size e) (Nat.le_trans I.ok.bsz z)) (Nat.lt_irrefl _)
    · rcases List.mem_cons.mp (I.stkSub b z) with z | z
      · exact (hfp b hb).1.2.1 z
      · exact (hfp b hb).1.2.2.1 z
  have hok' : HOk X.prog X.w H (h'.push go) := I.hok.kept kp
  have young : ∀ b, s.heap.objs.size ≤ b → H b = none ∧ b ∉ frs X.stack := fun b hb => by
    refine ⟨I.hok.fresh hb, fun z => ?_⟩
    rcases List.mem_cons.mp (I.stkSub b z) with z | z
    · have := I.lt
      rw [z] at hb
      exact absurd (Nat.lt_of_lt_of_le this hb) (Nat.lt_irrefl _)
    · exact I.nofs hb z
  refine ⟨okB, rfl, I.bare.push hgb, Un.kept kp, ⟨fun y => if y = ".0" then some it else none, ?_, fun i y av e1 e2 e3 => ?_⟩, fun y c e => ?_, ?_, fun y c e => ?_, fun p hp => ?_, hok', by rw [wipe_length]; exact I.len⟩
  · show Heap.Ns _ cenv.locals _
    rw [hL]
    exact hn'.push _
  · obtain ⟨e2, hne⟩ := wipe_some e2
    have e3 : Vis cenv.scope y := e3
    rw [hsc] at e3
    have no : ∀ k, scope.names.lookup y = some k → ¬ (k = .local ∨ k = .cell) := fun k e hh => by
      rcases ok.own _ (PySem.mem_of_lookup e) hh with e' | e'
      · obtain ⟨p, hp, hpy⟩ := List.mem_map.mp e'
        have e3 := ok.ix p hp
        have : p.1 = y := hpy
        rw [this] at e3
        exact hne (List.mem_map.mpr ⟨p, hp, nodup_ix hN e3 e1⟩)
      · exact e' (List.mem_of_getElem? e1)
    have hfr : scope.names.lookup y = some .free := by
      rcases e3 with e3 | e3 | e3
      · exact absurd (.inl rfl) (no _ e3)
      · exact absurd (.inr rfl) (no _ e3)
      · exact e3
    obtain ⟨m, hn, hl⟩ := I.loc
    have hvis : Vis X.env.scope y := (ok.free _ (PySem.mem_of_lookup hfr) rfl).elim (fun k => .inr (.inl k)) (fun k => .inr (.inr k))
    obtain ⟨w, r, q⟩ := hl i y av e1 e2 hvis
    refine ⟨w, r, .inr ⟨.inr (by show cenv.scope.names.lookup y = _; rw [hsc]; exact hfr), ?_⟩⟩
    obtain ⟨c, h1, h2⟩ := look hfr
    rcases q with ⟨k, _⟩ | ⟨_, c', e', z⟩
    · have k : X.env.scope.names.lookup y = some .local := k
      rcases ok.free _ (PySem.mem_of_lookup hfr) rfl with k' | k' <;> rw [show X.env.scope.names.lookup y = _ from k'] at k <;> cases k
    · rw [h2] at e'; cases e'
      exact ⟨c, h1, z.keeps kp⟩
  · obtain ⟨h1, _, _⟩ := cm e
    obtain ⟨w, z⟩ := I.cell y c h1
    exact ⟨w, z.keeps kp⟩
  · show H cenv.locals = none
    rw [hL]; exact I.hok.fresh (Nat.le_refl _)
  · exact I.freeC y c (cm e).1
  · have hp : p ∈ [(h'.objs.size, go)] := hp
    rw [List.mem_singleton.mp hp]
    have hy := young h'.objs.size (by omega)
    exact ⟨hgf, hy.1, by show h'.objs.size ≠ cenv.locals; rw [hL]; omega, hy.2, hgo⟩
end
/-- what a turn hands out: a bool; where it is the one that stops, the end holds; else the frame goes on -/
def GYb (Xg : Cx) (pins : List (Addr × Obj)) (b0 : Bool) (Q : VK) : Protocol := fun _ _ v s kap =>
  ∃ (b : Bool) (σ : L2.St) (H : Hp), v = .bool b ∧ Inv Xg pins σ H s ∧ (b = b0 → Q (.bl b0) H) ∧ (b ≠ b0 → ∀ s' : Shared, s'.heap = s.heap → s'.os = s.os → AllBare s'.gens → kap (.send .none) s')
def GFb (Xg : Cx) (pins : List (Addr × Obj)) (b0 : Bool) (Q : VK) : Nat → Shared → Shared → Prop := fun _ _ s => ∃ (σ : L2.St) (H : Hp), Inv Xg pins σ H s ∧ Q (.bl (!b0)) H
abbrev GRb (Xg : Cx) (pins : List (Addr × Obj)) (b0 : Bool) (Q : VK) : GenEnd := fun n s₀ r s₁ => r = .ok .next ∧ GFb Xg pins b0 Q n s₀ s₁
/-- only the table of generators (the counters) is another one -/
theorem inv_slept {X : Cx} {pins : List (Addr × Obj)} {σ : L2.St} {H : Hp} {s s' : Shared} (I : Inv X pins σ H s) (hh : s'.heap = s.heap) (ho : s'.os = s.os) (hb : AllBare s'.gens) : Inv X pins σ H s' :=
  ⟨I.ok, ho.trans I.os, hb, by rw [hh]; exact I.base, by rw [hh]; exact I.loc, by rw [hh]; exact I.cell, I.free, I.freeC, by rw [hh]; exact I.pin, by rw [hh]; exact I.hok, I.len⟩
section
variable {X : Cx}
theorem seg_gen {A₀ : Around} {elt tg iter : Expr} {ifs : List Expr} {scope : Scope} {pos : Pos} {it : Addr} {cenv : Env} {fp : List Addr} {tn : Nat → Heap → Prop} {J : It} {g : TG} {tt : TT} {te : TE} {vs : List Nat} {b0 : Bool} {Q : VK} {σ : L2.St} {pins : List (Addr × Obj)} {s4 : Shared} {H4 : Hp}
    (W : Nat → Nat → Hp → Prop) (hc : X.calm = true) (hco : cenv.scope.isCoroutine = false)
    (T : Turn X.prog X.w X.K tg J fp it tn)
    (pg : PG (X.gen s4 H4 cenv (A₀.over (.compLoop (.GeneratorExp elt [⟨tg, iter, ifs, 0⟩] scope pos) 0 (.ref it) .none cenv) []) fp) tg g)
    (pt : PTs (X.gen s4 H4 cenv (A₀.over (.compLoop (.GeneratorExp elt [⟨tg, iter, ifs, 0⟩] scope pos) 0 (.ref it) .none cenv) []) fp) ifs tt)
    (pe : PE (X.gen s4 H4 cenv (A₀.over (.compLoop (.GeneratorExp elt [⟨tg, iter, ifs, 0⟩] scope pos) 0 (.ref it) .none cenv) []) fp) elt te)
    (hpin : ∀ p ∈ pins, p.1 ∉ fp)
    (turn : ∀ i m H, W i m H → (J.stop i H ∧ Q (.bl (!b0)) H) ∨ (J.go i H ∧ ∃ Nx : Hp → Prop, (∀ H', Nx H' → ∃ m', m' < m ∧ W (i + 1) m' H') ∧ ∀ x H', J.yld i H x H' → g x (wipe σ vs) H' fun σ2 H2 => wipe σ2 vs = wipe σ vs ∧ tt σ2 H2 fun b H3 =>
      if b = true then te σ2 H3 fun y H4 => ∃ c, y = .bl c ∧ (c = b0 → Q (.bl b0) H4) ∧ (c ≠ b0 → Nx H4) else Nx H3)) :
    ∀ (m n i : Nat) (H : Hp) (s₀ s : Shared), m < n → Inv (X.gen s4 H4 cenv (A₀.over (.compLoop (.GeneratorExp elt [⟨tg, iter, ifs, 0⟩] scope pos) 0 (.ref it) .none cenv) []) fp) pins (wipe σ vs) H s → tn i s.heap → (∀ b ∈ fp, H b = none) → W i m H →
      Seg (model X.prog X.w) A₀ (GRb (X.gen s4 H4 cenv (A₀.over (.compLoop (.GeneratorExp elt [⟨tg, iter, ifs, 0⟩] scope pos) 0 (.ref it) .none cenv) []) fp) pins b0 Q)
        (GYb (X.gen s4 H4 cenv (A₀.over (.compLoop (.GeneratorExp elt [⟨tg, iter, ifs, 0⟩] scope pos) 0 (.ref it) .none cenv) []) fp) pins b0 Q) n s₀
        (.compLoop (.GeneratorExp elt [⟨tg, iter, ifs, 0⟩] scope pos) 0 (.ref it) .none cenv)
        ((model X.prog X.w).den (.compLoop (.GeneratorExp elt [⟨tg, iter, ifs, 0⟩] scope pos) 0 (.ref it) .none cenv)) [] s := by
  generalize hXg : X.gen s4 H4 cenv (A₀.over (.compLoop (.GeneratorExp elt [⟨tg, iter, ifs, 0⟩] scope pos) 0 (.ref it) .none cenv) []) fp = Xg at pg pt pe ⊢
  have eA : Xg.A = A₀.over (.compLoop (.GeneratorExp elt [⟨tg, iter, ifs, 0⟩] scope pos) 0 (.ref it) .none cenv) [] := by subst hXg; rfl
  have eP : Xg.prog = X.prog := by subst hXg; rfl
  have eW : Xg.w = X.w := by subst hXg; rfl
  have eK : Xg.K = X.K := by subst hXg; rfl
  have eC : Xg.calm = true := by subst hXg; exact hc
  have eE : Xg.env = cenv := by subst hXg; rfl
  have eX : Xg.ex = fp := by subst hXg; rfl
  have epn : Xg.pn = [] := by subst hXg; rfl
  have exe : Xg.xe = fun _ _ => False := by subst hXg; rfl
  have stat : ∀ {σ' : L2.St} {H' : Hp} {s' : Shared}, Inv Xg pins σ' H' s' → (∀ b ∈ fp, H' b = none) → ∀ b ∈ fp, FpOk Xg pins H' b := fun {σ' H' s'} I' hn b hb =>
    ⟨hn b hb, (I'.ok.exf b (by rw [eX]; exact hb)).1, I'.ok.exfs b (by rw [eX]; exact hb), .inl (by rw [eX]; exact hb), fun x c e => (I'.ok.exf b (by rw [eX]; exact hb)).2 x c e, fun p hp => by
      rw [epn] at hp
      exact fun z => hpin p hp (by rw [z]; exact hb)⟩
  intro m
  induction m using Nat.strongRecOn with
  | ind m ih =>
  intro n i H s₀ s hmn I st hn w
  show Seg _ A₀ _ _ _ s₀ _ ((compTurn (.GeneratorExp elt [⟨tg, iter, ifs, 0⟩] scope pos) 0 (.ref it) .none cenv).onRaise (leaving cenv)) [] s
  rw [compTurn_gen, Sem.onRaise_eq_wrap]
  refine seg_bind_wrap (wpAny_standAt ?_)
  rcases turn i m H w with ⟨stop, qq⟩ | ⟨go, Nx, hNx, step⟩
  · have td := T.done Xg eP eW eK eC i pins s _ H (fun _ _ => False) I (stat I hn) st stop
    rw [eA] at td
    refine seg_bind_wrap (thnF td fun r s6 ⟨hr, I6⟩ => ?_)
    subst hr
    exact seg_end (.ok .next) ⟨rfl, _, H, I6, qq⟩
  · have ti := T.item Xg eP eW eK eC i pins s _ H (fun _ _ => False) I (stat I hn) st go
    rw [eA] at ti
    refine seg_bind_wrap (thnF ti fun r s6 ⟨u, hr, h6⟩ => ?_)
    subst hr
    refine seg_bind_wrap (thnF h6 fun _ s7 ⟨x, H7, I7, r7, y7, st7, n7⟩ => ?_)
    have I7' := I7.pinned (stat I7 n7) (T.obj _ _ st7)
    have pgr := pg.run _ s7 _ H7 x u _ I7' r7 (step x H7 y7)
    rw [eA, eP, eW, eE, exe] at pgr
    refine seg_bind_wrap (thnF pgr fun _ s8 ⟨σ8, H8, I8, hw8, q8⟩ => ?_)
    have ptr := pt.run _ s8 σ8 H8 _ I8 q8
    rw [eA, eP, eW, eE, exe] at ptr
    refine seg_bind_wrap (thnF ptr fun b s9 ⟨H9, I9, q9⟩ => ?_)
    have fin : ∀ {s' : Shared} {H' : Hp}, Inv Xg (pins ++ pinsAt fp s7.heap) σ8 H' s' → Nx H' → ∃ m', m' < m ∧ ∀ (n' : Nat) (s₀' : Shared), m' < n' → Seg (model X.prog X.w) A₀ (GRb Xg pins b0 Q) (GYb Xg pins b0 Q) n' s₀'
        (.compLoop (.GeneratorExp elt [⟨tg, iter, ifs, 0⟩] scope pos) 0 (.ref it) .none cenv) ((model X.prog X.w).den (.compLoop (.GeneratorExp elt [⟨tg, iter, ifs, 0⟩] scope pos) 0 (.ref it) .none cenv)) [] s' := fun {s' H'} I' nx => by
      obtain ⟨m', hm, w'⟩ := hNx H' nx
      have pin' : ∀ b ∈ fp, ∀ o, s7.heap.get? b = some o → s'.heap.get? b = some o ∧ H' b = none := fun b hb o e =>
        let z := I'.pin (b, o) (List.mem_append_right _ (List.mem_append_right _ (mem_pinsAt hb e)))
        ⟨z.1, z.2.1⟩
      have hl : (wipe σ vs).length = σ8.length := by rw [← hw8, wipe_length]
      refine ⟨m', hm, fun n' s₀' hn' => ih m' hm n' (i + 1) H' s₀' s' hn' ((I'.unpinned (pins := pins)).weak hl (fun j v e => ?_)) (T.keep _ _ _ st7 fun b hb o e => (pin' b hb o e).1) (fun b hb => ?_) w'⟩
      · rw [← hw8] at e
        exact (wipe_some e).1
      · obtain ⟨o, e, _⟩ := T.obj _ _ st7 b hb
        exact (pin' b hb o e).2
    cases b with
    | false =>
      simp only [Bool.false_eq_true, if_false] at q9 ⊢
      obtain ⟨m', hm, k⟩ := fin I9 q9
      exact seg_again rfl (k n s₀ (by omega))
    | true =>
      simp only [if_true] at q9 ⊢
      have hy : ∀ v, yieldOut cenv v = yieldValue v := fun v => by simp only [yieldOut, hco, Bool.false_eq_true, if_false]
      simp only [hy]
      rw [Sem.bind_eq_wrap', Sem.bind_eq_wrap', Sem.wrap_wrap, Sem.wrap_wrap]
      have per := pe.run _ s9 σ8 H9 _ I9 q9
      rw [eA, eP, eW, eE, exe] at per
      refine seg_wrap (thnF per fun z s10 ⟨yv, H10, I10, r10, c, hyv, hstop, hgo⟩ => ?_)
      subst hyv
      have ez : z = .bool c := r10
      subst ez
      obtain ⟨n', rfl⟩ : ∃ n', n = n' + 1 := ⟨n - 1, by omega⟩
      refine seg_at (seg_yield rfl rfl rfl ⟨c, σ8, H10, rfl, I10.unpinned, hstop, fun hcb s'' h1 h2 h3 => ?_⟩)
      obtain ⟨m', hm, k⟩ := fin (inv_slept I10 h1 h2 h3) (hgo hcb)
      exact seg_again rfl (k n' s'' (by omega))
end
section
theorem loop_all {A : Around} {Xg : Cx} {pins : List (Addr × Obj)} {Q : VK} {a : Addr} {g : Nat} {R : Result → Shared → Prop} (hh : A.handled = none) (hroom : A.depth < recursionLimit)
    (hg : ∀ (σ : L2.St) (H : Hp) (s : Shared), Inv Xg pins σ H s → s.heap.IsGen a g)
    (hfin : ∀ (b : Bool) (σ : L2.St) (H : Hp) (s1 s' : Shared), Inv Xg pins σ H s1 → (∀ b o, s1.heap.get? b = some o → s'.heap.get? b = some o) → s'.os = s1.os → AllBare s'.gens → Q (.bl b) H → R (.ok (.ret (.bool b))) s') :
    ∀ (n : Nat) (gs : GenState) (s : Shared), s.heap.NoLimit → s.heap.IsGen a g → s.gens[g]? = some gs → gs.Goes (model Xg.prog Xg.w) A.in1.in1 (GRb Xg pins false Q) (GYb Xg pins false Q) n (.send .none) (s.setGen g .running) →
      codeAny (model Xg.prog Xg.w) A (.builtin "all.loop" ⟨[.ref a], []⟩) R s := by
  intro n
  induction n with
  | zero =>
    intro gs s hl hga hgs hgo
    refine codeAny_builtin F.entry_all_loop ?_
    rw [Around.under_plainId F.plain_all_loop _]
    show wpAny _ A.in1 (pyNext (.ref a) >>= _) _ _ s
    refine wpAny_bind (wpAny_gsz (n := s.gens.size) (Nat.le_refl _) (wpAny_pyNext_genexpQ (P := GFb Xg pins false Q) hh hl hroom hga hgs hgo (fun v s₁ gs' hb hv hsz => ?_) (fun s₁ hp h' hk hsz => ?_)))
    · obtain ⟨b, σ, H, rfl, I, hs, hn⟩ := hv
      refine wpAny_bind (wpAny_holding (wpAny_truthy_bool ?_))
      refine wpAny_bind (wpAny_letGo ?_)
      by_cases hb0 : b = false
      · subst hb0
        simp only [Bool.false_eq_true, if_false]
        refine wpAny_bind (wpAny_rule (wpAny_pure ?_))
        exact hfin false σ H s₁ _ I (fun _ _ e => e) rfl (allBare_setGen I.bare hb) (hs rfl)
      · exact False.elim (hn hb0 s₁ rfl rfl I.bare)
    · obtain ⟨σ, H, I, hq⟩ := hp
      refine wpAny_bind (wpAny_rule (wpAny_pure ?_))
      exact hfin true σ H s₁ _ I hk rfl (allBare_setGen I.bare rfl) hq
  | succ n ih =>
    intro gs s hl hga hgs hgo
    have hlt : g < s.gens.size := (Array.getElem?_eq_some_iff.mp hgs).1
    refine codeAny_builtin F.entry_all_loop ?_
    rw [Around.under_plainId F.plain_all_loop _]
    show wpAny _ A.in1 (pyNext (.ref a) >>= _) _ _ s
    refine wpAny_bind (wpAny_gsz (n := s.gens.size) (Nat.le_refl _) (wpAny_pyNext_genexpQ (P := GFb Xg pins false Q) hh hl hroom hga hgs hgo (fun v s₁ gs' hb hv hsz => ?_) (fun s₁ hp h' hk hsz => ?_)))
    · obtain ⟨b, σ, H, rfl, I, hs, hn⟩ := hv
      refine wpAny_bind (wpAny_holding (wpAny_truthy_bool ?_))
      refine wpAny_bind (wpAny_letGo ?_)
      have hb1 : AllBare (s₁.setGen g gs').gens := allBare_setGen I.bare hb
      by_cases hb0 : b = false
      · subst hb0
        simp only [Bool.false_eq_true, if_false]
        refine wpAny_bind (wpAny_rule (wpAny_pure ?_))
        exact hfin false σ H s₁ _ I (fun _ _ e => e) rfl hb1 (hs rfl)
      · have hbo : b = true := by cases b <;> first | rfl | exact absurd rfl hb0
        subst hbo
        simp only [if_true]
        have hk := hn hb0 ((s₁.setGen g gs').setGen g .running) rfl rfl (allBare_setGen hb1 rfl)
        rw [setGen_size] at hsz
        exact wpAny_pure ⟨plainId_quiet F.plain_all_loop _, ih gs' (s₁.setGen g gs') I.nolimit (show s₁.heap.IsGen a g from hg _ _ _ I) (setGen_at (by omega)) hk⟩
    · obtain ⟨σ, H, I, hq⟩ := hp
      refine wpAny_bind (wpAny_rule (wpAny_pure ?_))
      exact hfin true σ H s₁ _ I hk rfl (allBare_setGen I.bare rfl) hq

theorem loop_any {A : Around} {Xg : Cx} {pins : List (Addr × Obj)} {Q : VK} {a : Addr} {g : Nat} {R : Result → Shared → Prop} (hh : A.handled = none) (hroom : A.depth < recursionLimit)
    (hg : ∀ (σ : L2.St) (H : Hp) (s : Shared), Inv Xg pins σ H s → s.heap.IsGen a g)
    (hfin : ∀ (b : Bool) (σ : L2.St) (H : Hp) (s1 s' : Shared), Inv Xg pins σ H s1 → (∀ b o, s1.heap.get? b = some o → s'.heap.get? b = some o) → s'.os = s1.os → AllBare s'.gens → Q (.bl b) H → R (.ok (.ret (.bool b))) s') :
    ∀ (n : Nat) (gs : GenState) (s : Shared), s.heap.NoLimit → s.heap.IsGen a g → s.gens[g]? = some gs → gs.Goes (model Xg.prog Xg.w) A.in1.in1 (GRb Xg pins true Q) (GYb Xg pins true Q) n (.send .none) (s.setGen g .running) →
      codeAny (model Xg.prog Xg.w) A (.builtin "any.loop" ⟨[.ref a], []⟩) R s := by
  intro n
  induction n with
  | zero =>
    intro gs s hl hga hgs hgo
    refine codeAny_builtin F.entry_any_loop ?_
    rw [Around.under_plainId F.plain_any_loop _]
    show wpAny _ A.in1 (pyNext (.ref a) >>= _) _ _ s
    refine wpAny_bind (wpAny_gsz (n := s.gens.size) (Nat.le_refl _) (wpAny_pyNext_genexpQ (P := GFb Xg pins true Q) hh hl hroom hga hgs hgo (fun v s₁ gs' hb hv hsz => ?_) (fun s₁ hp h' hk hsz => ?_)))
    · obtain ⟨b, σ, H, rfl, I, hs, hn⟩ := hv
      refine wpAny_bind (wpAny_holding (wpAny_truthy_bool ?_))
      refine wpAny_bind (wpAny_letGo ?_)
      by_cases hb0 : b = true
      · subst hb0
        simp only [if_true]
        refine wpAny_bind (wpAny_rule (wpAny_pure ?_))
        exact hfin true σ H s₁ _ I (fun _ _ e => e) rfl (allBare_setGen I.bare hb) (hs rfl)
      · exact False.elim (hn hb0 s₁ rfl rfl I.bare)
    · obtain ⟨σ, H, I, hq⟩ := hp
      refine wpAny_bind (wpAny_rule (wpAny_pure ?_))
      exact hfin false σ H s₁ _ I hk rfl (allBare_setGen I.bare rfl) hq
  | succ n ih =>
    intro gs s hl hga hgs hgo
    have hlt : g < s.gens.size := (Array.getElem?_eq_some_iff.mp hgs).1
    refine codeAny_builtin F.entry_any_loop ?_
    rw [Around.under_plainId F.plain_any_loop _]
    show wpAny _ A.in1 (pyNext (.ref a) >>= _) _ _ s
    refine wpAny_bind (wpAny_gsz (n := s.gens.size) (Nat.le_refl _) (wpAny_pyNext_genexpQ (P := GFb Xg pins true Q) hh hl hroom hga hgs hgo (fun v s₁ gs' hb hv hsz => ?_) (fun s₁ hp h' hk hsz => ?_)))
    · obtain ⟨b, σ, H, rfl, I, hs, hn⟩ := hv
      refine wpAny_bind (wpAny_holding (wpAny_truthy_bool ?_))
      refine wpAny_bind (wpAny_letGo ?_)
      have hb1 : AllBare (s₁.setGen g gs').gens := allBare_setGen I.bare hb
      by_cases hb0 : b = true
      · subst hb0
        simp only [if_true]
        refine wpAny_bind (wpAny_rule (wpAny_pure ?_))
        exact hfin true σ H s₁ _ I (fun _ _ e => e) rfl hb1 (hs rfl)
      · have hbo : b = false := by cases b <;> first | rfl | exact absurd rfl hb0
        subst hbo
        simp only [Bool.false_eq_true, if_false]
        have hk := hn hb0 ((s₁.setGen g gs').setGen g .running) rfl rfl (allBare_setGen hb1 rfl)
        rw [setGen_size] at hsz
        exact wpAny_pure ⟨plainId_quiet F.plain_any_loop _, ih gs' (s₁.setGen g gs') I.nolimit (show s₁.heap.IsGen a g from hg _ _ _ I) (setGen_at (by omega)) hk⟩
    · obtain ⟨σ, H, I, hq⟩ := hp
      refine wpAny_bind (wpAny_rule (wpAny_pure ?_))
      exact hfin false σ H s₁ _ I hk rfl (allBare_setGen I.bare rfl) hq
end

/-- all(..), any(..) of a generator expression: b0 stops it; P the table of the def's code objects -/
def tGx (P : Addr) (b0 : Bool) (wi : TI) (g : TG) (tt : TT) (te : TE) (vs : List Nat) : TE := fun σ H Q => wi σ H fun J H1 => TabG H1 P ∧ ∀ H1', Tabbed P H1 H1' → ∃ W : Nat → Nat → Hp → Prop, (∃ m, W 0 m H1') ∧ ∀ i m H, W i m H →
  (J.stop i H ∧ Q (.bl (!b0)) H) ∨ (J.go i H ∧ ∃ Nx : Hp → Prop, (∀ H', Nx H' → ∃ m', m' < m ∧ W (i + 1) m' H') ∧ ∀ x H', J.yld i H x H' → g x (wipe σ vs) H' fun σ2 H2 => wipe σ2 vs = wipe σ vs ∧ tt σ2 H2 fun b H3 =>
    if b = true then te σ2 H3 fun y H4 => ∃ c, y = .bl c ∧ (c = b0 → Q (.bl b0) H4) ∧ (c ≠ b0 → Nx H4) else Nx H3)
/-- a generator expression's scope: no cell of its own, the walked thing at «.0» -/
structure GenSc (scope : Scope) : Prop where
  co : scope.isCoroutine = false
  cell : ∀ y ∈ scope.names, y.2 ≠ .cell
  dot : scope.names.lookup (".0" : Str) = some NameKind.local
section
variable {X : Cx} {pins : List (Addr × Obj)} {σ : L2.St} {H : Hp} {s : Shared}
/-- the generator is made; it is ready to be walked -/
def Made (X : Cx) (pins : List (Addr × Obj)) (σ : L2.St) (b0 : Bool) (Q : VK) (u : Value) (s5 : Shared) : Prop :=
  ∃ (a : Addr) (gi n : Nat) (gs : GenState) (Xg : Cx) (pl : List (Addr × Obj)), u = .ref a ∧ Xg.prog = X.prog ∧ Xg.w = X.w ∧ s5.heap.NoLimit ∧ s5.heap.IsGen a gi ∧ s5.gens[gi]? = some gs ∧
    gs.Goes (model X.prog X.w) X.A.in1.in1 (GRb Xg pl b0 Q) (GYb Xg pl b0 Q) n (.send .none) (s5.setGen gi .running) ∧
    (∀ (σ : L2.St) (H : Hp) (s : Shared), Inv Xg pl σ H s → s.heap.IsGen a gi) ∧
    (∀ (b : Bool) (σ' : L2.St) (H : Hp) (s1 s' : Shared), Inv Xg pl σ' H s1 → (∀ b o, s1.heap.get? b = some o → s'.heap.get? b = some o) → s'.os = s1.os → AllBare s'.gens → Q (.bl b) H → Inv X pins σ H s')
theorem gen_make {c P : Addr} {elt tg iter : Expr} {ifs : List Expr} {scope : Scope} {own : List (Str × Nat)} {gpos : Pos} {wi : TI} {g : TG} {tt : TT} {te : TE} {k : Nat} {b0 : Bool} {Q : VK} {Q' : Value → Shared → Prop}
    (hr : Room (k + 1) X.A) (TB : TabB X.base X.mg c P) (hcode : X.env.code = .ref c) (hc : X.calm = true) (hN : X.N.Nodup) (S : GenSc scope) (ok : BlkOk X.N X.env.scope scope own) (hi : PI X tg iter wi)
    (hg : ∀ (s : Shared) (H : Hp) (C : Addr) (code : Value) (A' : Around) (fp : List Addr), Room k A' → PG (X.gen s H (genEnv scope (cloFrom X.env.cells scope.names []) C code builtinsNs X.env) A' fp) tg g)
    (ht : ∀ (s : Shared) (H : Hp) (C : Addr) (code : Value) (A' : Around) (fp : List Addr), Room k A' → PTs (X.gen s H (genEnv scope (cloFrom X.env.cells scope.names []) C code builtinsNs X.env) A' fp) ifs tt)
    (he : ∀ (s : Shared) (H : Hp) (C : Addr) (code : Value) (A' : Around) (fp : List Addr), Room k A' → PE (X.gen s H (genEnv scope (cloFrom X.env.cells scope.names []) C code builtinsNs X.env) A' fp) elt te)
    (hs : ∀ v, genFold iter X.env v = pure v) (I : Inv X pins σ H s) (h : tGx P b0 wi g tt te (own.map (·.2)) σ H Q) (hQ : ∀ u s5, Made X pins σ b0 Q u s5 → Q' u s5) :
    wpAny (model X.prog X.w) X.A (eval (.GeneratorExp elt [⟨tg, iter, ifs, 0⟩] scope gpos) X.env) Q' X.xe s := by
  have hfree : ∀ y ∈ scope.names, y.2 = .free → ∃ c, X.env.cells.lookup y.1 = some c := fun y hy e => by
    rcases ok.free y hy e with k | k
    · exact I.ok.has _ (.inl k)
    · exact I.ok.has _ (.inr k)
  refine wpAny_GeneratorExp_make S.co (closure_ok hfree) S.cell S.dot ok.kind (by have := hr.dp; omega) ?_ hs
  refine thn (hi.run pins s σ H _ I h) fun xv s1 hx => thn hx fun itv s2 h2 => ?_
  obtain ⟨it, fp, tn, J, H2, e, I2, T, st2, f2, ⟨ps, hP, htri⟩, q⟩ := h2
  subst e
  have hPs : s2.heap.get? P = some { cls := .none, data := .fields ps } := I2.hok P _ hP
  have cd : PySem.W.CodeHd s2.heap c P := TB.code.keeps I2.bk
  have fpP : ∀ b ∈ fp, b ≠ P := fun b hb z => by
    have := (f2 b hb).1
    rw [z, hP] at this
    cases this
  have cont : ∀ (code : Value) (h3 : Heap) (tk : Nat) (ps' : Array Value), Heap.ExtBut P s2.heap h3 → h3.get? P = some { cls := .none, data := .fields ps' } → (∃ more, ps' = ps ++ more) → TriplesOk ps'.toList →
      wpAny (model X.prog X.w) X.A (builtinsFor X.env.globals X.env.builtins) (fun bi s₄ =>
        ∀ h', h'.Ns s₄.heap.objs.size (fun y => if y = ".0" then some (.ref it) else none) → Heap.SameBut s₄.heap.objs.size (s₄.heap.push { cls := .type "frame", data := .dict #[] }) h' →
          Q' (.ref h'.objs.size) { s₄ with
            gens := s₄.gens.push (.fresh (.compStart (.GeneratorExp elt [⟨tg, iter, ifs, 0⟩] scope gpos) 0 (.ref it) .none (genEnv scope (cloFrom X.env.cells scope.names []) s₄.heap.objs.size code bi X.env))),
            toks := s₄.toks + 1 + 1 + 1,
            heap := h'.push { cls := .type "generator", data := .fields #[.int s₄.gens.size 0, .str "<genexpr>" (s₄.toks + 1), .str (X.env.qual ++ "<genexpr>") (s₄.toks + 1 + 1)] } }) X.xe { s2 with heap := h3, toks := tk } := by
    intro code h3 tk ps' hx hP3 hmore ht3
    obtain ⟨more, rfl⟩ := hmore
    obtain ⟨bm, ob, e1, e2, e3, e4, e5, e6, e7, e8⟩ := TB.bm
    have keep3 : ∀ b u, b ≠ P → s2.heap.get? b = some u → h3.get? b = some u := fun b u hb e => hx b u hb e
    refine wpAny_builtinsFor (m := X.mg) (by rw [I2.ok.glob]; exact (I2.mod.glob.keeps I2.bk).extBut hx TB.gP) e1 e2 (keep3 _ _ e4 (I2.bk _ _ e5)) e6 e7 e8 ?_
    intro h' hn' hs'
    have I4 : Inv X pins σ (upd H2 P (.tbl (ps ++ more))) { s2 with heap := h3, toks := tk } := inv_tab (more := more) (h' := h3) (g' := s2.gens) (d' := s2.drawn) (t' := tk) I2 hP (fun b u hb e => keep3 b u hb e) hP3 I2.bare
    generalize hs4 : ({ s2 with heap := h3, toks := tk } : Shared) = s4 at I4 hn' hs' ⊢
    have h34 : s4.heap = h3 := by rw [← hs4]
    have TBD : Tabbed P H2 (upd H2 P (.tbl (ps ++ more))) := ⟨⟨ps ++ more, upd_same, ht3⟩, fun b hb => upd_ne hb⟩
    generalize hH4 : upd H2 P (.tbl (ps ++ more)) = H4 at I4 TBD
    obtain ⟨W, ⟨m0, w0⟩, turn⟩ := q H4 TBD
    have f4 : ∀ b ∈ fp, FpOk X pins H4 b ∧ b < s4.heap.objs.size := fun b hb => by
      obtain ⟨o, e, _⟩ := T.obj _ _ st2 b hb
      refine ⟨⟨?_, (f2 b hb).2⟩, by rw [h34]; exact Heap.lt_size (keep3 b o (fpP b hb) e)⟩
      rw [TBD.2 b (fpP b hb)]
      exact (f2 b hb).1
    have st4 : tn 0 s4.heap := T.keep _ _ _ st2 fun b hb o e => by rw [h34]; exact keep3 b o (fpP b hb) e
    have hsz : h'.objs.size = s4.heap.objs.size + 1 := by rw [hs'.1, Heap.size_push]
    generalize hce : genEnv scope (cloFrom X.env.cells scope.names []) s4.heap.objs.size code builtinsNs X.env = cenv
    generalize hgo : ({ cls := .type "generator", data := .fields #[.int s4.gens.size 0, .str "<genexpr>" (s4.toks + 1), .str (X.env.qual ++ "<genexpr>") (s4.toks + 1 + 1)] } : Obj) = go
    have hgd : ∀ v, go.data ≠ .cell v := fun v => by rw [← hgo]; exact fun z => by cases z
    have hgf : (h'.push go).get? h'.objs.size = some go := by rw [← hgo]; exact Heap.get?_push_size _ rfl
    have hgen : ∀ h : Heap, h.get? h'.objs.size = some go → h.IsGen h'.objs.size s4.gens.size := fun h e => ⟨go, _, _, e, by rw [← hgo], by rw [← hgo], by rw [← hgo]⟩
    -- the frame's around
    have Rg : Room k ((X.A.in1.in1).over (.compLoop (.GeneratorExp elt [⟨tg, iter, ifs, 0⟩] scope gpos) 0 (.ref it) .none cenv) []) := ⟨hr.hd, by have := hr.dp; show X.A.depth + 0 + 1 + 3 * k + 5 < _; omega, by have := hr.un; show X.A.units + 1 + 1 + 0 + 3 + 16 * k + 200 < _; omega⟩
    have hfr : ((X.A.in1.in1).over (.compLoop (.GeneratorExp elt [⟨tg, iter, ifs, 0⟩] scope gpos) 0 (.ref it) .none cenv) []).frames = some (cenv :: X.stack) := by
      show pushEnvs [cenv] (pushEnvs [] X.A.frames) = _
      rw [I4.ok.frames]
      rfl
    have I5 := gen_start (gs := .fresh (.compStart (.GeneratorExp elt [⟨tg, iter, ifs, 0⟩] scope gpos) 0 (.ref it) .none cenv)) (tk := s4.toks + 1 + 1 + 1) I4 ok S.cell hN f4 hce.symm hfr (fun _ => Rg.hd) hn' hs' hgd hgf rfl
    have kp : ∀ b o, s4.heap.get? b = some o → (h'.push go).get? b = some o := fun b o e => Heap.get?_push_of_some _ (hs'.extBut b o (Nat.ne_of_lt (Heap.lt_size e)) (Heap.get?_push_of_some _ e))
    have pgx := hg s4 H4 s4.heap.objs.size code _ fp Rg
    have ptx := ht s4 H4 s4.heap.objs.size code _ fp Rg
    have pex := he s4 H4 s4.heap.objs.size code _ fp Rg
    rw [hce] at pgx ptx pex
    refine hQ _ _ ⟨h'.objs.size, s4.gens.size, m0 + 1, _, X.gen s4 H4 cenv ((X.A.in1.in1).over (.compLoop (.GeneratorExp elt [⟨tg, iter, ifs, 0⟩] scope gpos) 0 (.ref it) .none cenv) []) fp, [(h'.objs.size, go)], rfl, rfl, rfl, I5.nolimit, hgen _ hgf, Array.getElem?_push_size .., ⟨rfl, ?_⟩, fun σ' H' s' I' => hgen _ (I'.pin (h'.objs.size, go) (List.mem_append_right _ (List.mem_singleton.mpr rfl))).1, fun b σ' H' s1' s' I' hk ho hb hq => ?_⟩
    · have hco : cenv.scope.isCoroutine = false := by rw [← hce]; exact S.co
      have loop := fun (s₀ s : Shared) I st => seg_gen (A₀ := X.A.in1.in1) (Q := Q) (b0 := b0) W hc hco T pgx ptx pex (pins := [(h'.objs.size, go)]) (fun p hp => by
        rw [List.mem_singleton.mp hp]
        exact fun z => by
          have h9 : (h'.objs.size : Nat) < s4.heap.objs.size := (f4 h'.objs.size z).2
          omega) turn m0 (m0 + 1) 0 H4 s₀ s (Nat.lt_succ_self _) I st (fun b hb => (f4 b hb).1.1) w0
      have st5 : tn 0 (h'.push go) := T.keep _ _ _ st4 fun b hb o e => kp b o e
      generalize hs6 : (({ s4 with gens := s4.gens.push (.fresh (.compStart (.GeneratorExp elt [⟨tg, iter, ifs, 0⟩] scope gpos) 0 (.ref it) .none cenv)), toks := s4.toks + 1 + 1 + 1, heap := h'.push go } : Shared).setGen s4.gens.size .running) = s6
      have loop6 := loop s6 s6 (inv_slept I5 (by rw [← hs6]; rfl) (by rw [← hs6]; rfl) (by rw [← hs6]; exact allBare_setGen I5.bare rfl)) (by rw [← hs6]; exact st5)
      show Seg _ X.A.in1.in1 _ _ _ s6 _ ((compStart (.GeneratorExp elt [⟨tg, iter, ifs, 0⟩] scope gpos) 0 (.ref it) .none cenv).onRaise (leaving cenv)) [] s6
      unfold compStart
      rw [Sem.onRaise_eq_wrap]
      show Seg _ X.A.in1.in1 _ _ _ s6 _ ((ask >>= _).wrap _ _ _ _) [] s6
      refine seg_bind_wrap (wpAny_askSetting ?_)
      split
      · exact seg_again rfl loop6
      · have st6 : tn 0 s6.heap := by rw [← hs6]; exact st5
        first
          | exact seg_bind_wrap (wpAny_rule (seg_bind_wrap (wpAny_standAt (seg_bind_wrap (T.self _ 0 s6 _ _ st6 (seg_again rfl loop6))))))
          | (refine seg_bind_wrap (wpAny_rule ?_); show Seg _ X.A.in1.in1 _ _ _ s6 _ ((standAt iter.pos >>= _).wrap _ _ _ _) [] s6; exact seg_bind_wrap (wpAny_standAt (seg_bind_wrap (T.self _ 0 s6 _ _ st6 (seg_again rfl loop6)))))
    · refine I4.call' (ch := fp) (ho.trans I'.os) (I'.base.trans (Un.kept hk)) (I'.hok.kept hk) hb fun b hb => ⟨(f4 b hb).1.2.2.2.1, (f4 b hb).1.2.1, (f4 b hb).1.2.2.2.2.1, (f4 b hb).1.2.2.2.2.2⟩
  refine ⟨I2.nolimit, ?_⟩
  cases hf : codeAmong gpos ps.toList with
  | none =>
    refine wpAny_genexprCodeX hcode (cd.code hPs htri) (cd.tab hPs) hf fun c' h' tk hx hge hlt hco' _ htab' _ => ?_
    obtain ⟨o1, vs, f1, tf, fl, tg, inF, tx, tt, op, _, _, _, _, _, _, _, _, _, htr, _⟩ := hco'
    exact cont _ h' tk _ hx htab'.2 ⟨_, rfl⟩ htr
  | some cv =>
    refine wpAny_genexprCode_hit hcode (cd.code hPs htri) hf ?_
    exact cont cv s2.heap s2.toks ps (Heap.ExtBut.refl _ _) hPs ⟨#[], by simp⟩ htri

theorem pe_allG {c P : Addr} {elt tg iter : Expr} {ifs : List Expr} {scope : Scope} {own : List (Str × Nat)} {p pos gpos : Pos} {wi : TI} {g : TG} {tt : TT} {te : TE} {k : Nat}
    (hr : Room (k + 1) X.A) (hgl : Gl X "all") (hm : X.mg "all" = none) (hbt : bootBuiltins "all" = some (.builtin "all")) (TB : TabB X.base X.mg c P) (hcode : X.env.code = .ref c) (hc : X.calm = true) (hN : X.N.Nodup) (S : GenSc scope) (ok : BlkOk X.N X.env.scope scope own) (hi : PI X tg iter wi)
    (hg : ∀ (s : Shared) (H : Hp) (C : Addr) (code : Value) (A' : Around) (fp : List Addr), Room k A' → PG (X.gen s H (genEnv scope (cloFrom X.env.cells scope.names []) C code builtinsNs X.env) A' fp) tg g)
    (ht : ∀ (s : Shared) (H : Hp) (C : Addr) (code : Value) (A' : Around) (fp : List Addr), Room k A' → PTs (X.gen s H (genEnv scope (cloFrom X.env.cells scope.names []) C code builtinsNs X.env) A' fp) ifs tt)
    (he : ∀ (s : Shared) (H : Hp) (C : Addr) (code : Value) (A' : Around) (fp : List Addr), Room k A' → PE (X.gen s H (genEnv scope (cloFrom X.env.cells scope.names []) C code builtinsNs X.env) A' fp) elt te)
    (hs : ∀ v, genFold iter X.env v = pure v := by intro _; rfl)
    (hst : starEach [.GeneratorExp elt [⟨tg, iter, ifs, 0⟩] scope gpos] X.env = (false, eval (.GeneratorExp elt [⟨tg, iter, ifs, 0⟩] scope gpos) X.env) :: starEach [] X.env := by rfl) :
    PE X (.Call (.Name "all" p) [.GeneratorExp elt [⟨tg, iter, ifs, 0⟩] scope gpos] [] pos) (tGx P false wi g tt te (own.map (·.2))) := by
  refine ⟨fun pins s σ H Q I h => ?_⟩
  refine wpAny_Call_Name_kw (ld_blt I hgl hm hbt ?_)
  refine PyProof.Rows.callWith_builtin1 ?_ hst (by rfl)
  rw [hst]
  show wpAny _ _ (spliced ((false, eval (.GeneratorExp elt [⟨tg, iter, ifs, 0⟩] scope gpos) X.env) :: backTo pos (starEach [] X.env))) _ _ s
  refine Calls.spliced_cons (gen_make hr TB hcode hc hN S ok hi hg ht he hs I h fun u s5 hM => ?_)
  obtain ⟨a, gi, n, gs, Xg, pl, rfl, eP, eW, hl, hga, hgs, hgo, hgen, hfin⟩ := hM
  refine Calls.spliced_nil ?_
  refine call_function_tree F.kind_all F.plain_all F.entry_all (F.args_all1 _) ?_
  unfold Builtin.«all»
  refine wpAny_bind (m := oneArg "all" _) (wpAny_pure ?_)
  refine wpAny_bind (wpAny_pyIter_gen hga ?_)
  rw [← eP, ← eW] at hgo ⊢
  exact wpAny_pure ⟨plainId_quiet F.plain_all_loop _, loop_all (Q := Q) hr.hd hr.depth hgen (fun b σ' H' s1 s' I' hk ho hb hq => ⟨.bl b, H', hfin b σ' H' s1 s' I' hk ho hb hq, rfl, hq⟩) n gs s5 hl hga hgs hgo⟩

theorem pe_anyG {c P : Addr} {elt tg iter : Expr} {ifs : List Expr} {scope : Scope} {own : List (Str × Nat)} {p pos gpos : Pos} {wi : TI} {g : TG} {tt : TT} {te : TE} {k : Nat}
    (hr : Room (k + 1) X.A) (hgl : Gl X "any") (hm : X.mg "any" = none) (hbt : bootBuiltins "any" = some (.builtin "any")) (TB : TabB X.base X.mg c P) (hcode : X.env.code = .ref c) (hc : X.calm = true) (hN : X.N.Nodup) (S : GenSc scope) (ok : BlkOk X.N X.env.scope scope own) (hi : PI X tg iter wi)
    (hg : ∀ (s : Shared) (H : Hp) (C : Addr) (code : Value) (A' : Around) (fp : List Addr), Room k A' → PG (X.gen s H (genEnv scope (cloFrom X.env.cells scope.names []) C code builtinsNs X.env) A' fp) tg g)
    (ht : ∀ (s : Shared) (H : Hp) (C : Addr) (code : Value) (A' : Around) (fp : List Addr), Room k A' → PTs (X.gen s H (genEnv scope (cloFrom X.env.cells scope.names []) C code builtinsNs X.env) A' fp) ifs tt)
    (he : ∀ (s : Shared) (H : Hp) (C : Addr) (code : Value) (A' : Around) (fp : List Addr), Room k A' → PE (X.gen s H (genEnv scope (cloFrom X.env.cells scope.names []) C code builtinsNs X.env) A' fp) elt te)
    (hs : ∀ v, genFold iter X.env v = pure v := by intro _; rfl)
    (hst : starEach [.GeneratorExp elt [⟨tg, iter, ifs, 0⟩] scope gpos] X.env = (false, eval (.GeneratorExp elt [⟨tg, iter, ifs, 0⟩] scope gpos) X.env) :: starEach [] X.env := by rfl) :
    PE X (.Call (.Name "any" p) [.GeneratorExp elt [⟨tg, iter, ifs, 0⟩] scope gpos] [] pos) (tGx P true wi g tt te (own.map (·.2))) := by
  refine ⟨fun pins s σ H Q I h => ?_⟩
  refine wpAny_Call_Name_kw (ld_blt I hgl hm hbt ?_)
  refine PyProof.Rows.callWith_builtin1 ?_ hst (by rfl)
  rw [hst]
  show wpAny _ _ (spliced ((false, eval (.GeneratorExp elt [⟨tg, iter, ifs, 0⟩] scope gpos) X.env) :: backTo pos (starEach [] X.env))) _ _ s
  refine Calls.spliced_cons (gen_make hr TB hcode hc hN S ok hi hg ht he hs I h fun u s5 hM => ?_)
  obtain ⟨a, gi, n, gs, Xg, pl, rfl, eP, eW, hl, hga, hgs, hgo, hgen, hfin⟩ := hM
  refine Calls.spliced_nil ?_
  refine call_function_tree F.kind_any F.plain_any F.entry_any (F.args_any1 _) ?_
  unfold Builtin.«any»
  refine wpAny_bind (m := oneArg "any" _) (wpAny_pure ?_)
  refine wpAny_bind (wpAny_pyIter_gen hga ?_)
  rw [← eP, ← eW] at hgo ⊢
  exact wpAny_pure ⟨plainId_quiet F.plain_any_loop _, loop_any (Q := Q) hr.hd hr.depth hgen (fun b σ' H' s1 s' I' hk ho hb hq => ⟨.bl b, H', hfin b σ' H' s1 s' I' hk ho hb hq, rfl, hq⟩) n gs s5 hl hga hgs hgo⟩
end
end GxP
namespace SuP
open PySem PySem.Spec PyProof.Rows L2
/-! ### a clean table is laid -/
def MaskA (m : Nat) : Prop := m = 7 ∨ m = 15 ∨ m = 31 ∨ m = 63 ∨ m = 127 ∨ m = 255
theorem all7 : ((List.range 8).all fun j => (List.range 8).any fun b => lcgN 7 b == j) = true := by decide +kernel
theorem all15 : ((List.range 16).all fun j => (List.range 16).any fun b => lcgN 15 b == j) = true := by decide +kernel
theorem all31 : ((List.range 32).all fun j => (List.range 32).any fun b => lcgN 31 b == j) = true := by decide +kernel
theorem all63 : ((List.range 64).all fun j => (List.range 64).any fun b => lcgN 63 b == j) = true := by decide +kernel
theorem all127 : ((List.range 128).all fun j => (List.range 128).any fun b => lcgN 127 b == j) = true := by decide +kernel
theorem all255 : ((List.range 256).all fun j => (List.range 256).any fun b => lcgN 255 b == j) = true := by decide +kernel
theorem allA {m : Nat} (hm : MaskA m) : ((List.range (m + 1)).all fun j => (List.range (m + 1)).any fun b => lcgN m b == j) = true := by
  rcases hm with e | e | e | e | e | e <;> subst e
  · exact all7
  · exact all15
  · exact all31
  · exact all63
  · exact all127
  · exact all255
theorem reach {m : Nat} (hm : MaskA m) {j : Nat} (hj : j ≤ m) : ∃ b, b ≤ m ∧ lcgN m b = j := by
  have h1 := List.all_eq_true.mp (allA hm) j (List.mem_range.mpr (Nat.lt_succ_of_le hj))
  obtain ⟨b, hb, e⟩ := List.any_eq_true.mp h1
  exact ⟨b, Nat.le_of_lt_succ (List.mem_range.mp hb), beq_iff_eq.mp e⟩
theorem round {m : Nat} (hm : MaskA m) : lcgN m (m + 1) = 0 := by
  rcases hm with e | e | e | e | e | e <;> subst e <;> decide +kernel
theorem rmod {m : Nat} (hm : MaskA m) : ∀ k, lcgN m (m + 1 + k) = lcgN m k
  | 0 => round hm
  | k + 1 => by
    show (lcgN m (m + 1 + k) * 5 + 1) % (m + 1) = (lcgN m k * 5 + 1) % (m + 1)
    rw [rmod hm k]
theorem from_any {m : Nat} (hm : MaskA m) {i j : Nat} (hi : i ≤ m) (hj : j ≤ m) : ∃ k, k ≤ m ∧ lcgI m i k = j := by
  obtain ⟨a, ha, ea⟩ := reach hm hi
  obtain ⟨b, hb, eb⟩ := reach hm hj
  rw [← ea]
  rcases Nat.lt_or_ge b a with c | c
  · refine ⟨b + (m + 1) - a, by omega, ?_⟩
    rw [lcgN_add, show a + (b + (m + 1) - a) = m + 1 + b by omega, rmod hm, eb]
  · refine ⟨b - a, by omega, ?_⟩
    rw [lcgN_add, show a + (b - a) = b by omega, eb]
theorem meets {m : Nat} (hm : MaskA m) (h : Int) {j : Nat} (hj : j ≤ m) : ∃ n, n ≤ m + 12 ∧ runI m (SetTable.bits h) n = j := by
  obtain ⟨k, hk, e⟩ := from_any hm (runI_le m (SetTable.bits h) 12) hj
  exact ⟨12 + k, by omega, by rw [runI_tail (bits_lt h)]; exact e⟩
theorem free_any (m : Nat) (owner : Array (Option Nat)) {j : Nat} (hf : oAt owner j = none) : ∀ (f n i b : Nat), n < f → (itL m i b n).1 = j → ∃ r, SetTable.layClean.free m owner f i b = some r ∧ oAt owner r = none
  | 0, _, _, _, hn, _ => absurd hn (Nat.not_lt_zero _)
  | f + 1, n, i, b, hn, e => by
    rw [free_succ]
    cases q : (List.range (SetTable.runEnd m i + 1 - i)).find? fun k => (oAt owner (i + k)).isNone with
    | some k =>
      have z := List.find?_some q
      exact ⟨i + k, rfl, Option.isNone_iff_eq_none.mp z⟩
    | none =>
      cases n with
      | zero =>
        have z := List.find?_eq_none.mp q 0 (List.mem_range.mpr (by have := runEnd_ge m i; omega))
        have e' : i = j := e
        rw [Nat.add_zero, e', hf] at z
        exact absurd rfl z
      | succ n => exact free_any m owner hf f n _ _ (by omega) e
/-- who sits where: each of the first k once -/
structure Sits (m k : Nat) (owner : Array (Option Nat)) : Prop where
  sz : owner.size = m + 1
  low : ∀ j i, oAt owner j = some i → j ≤ m → i < k
  inj : ∀ j j' i, j ≤ m → j' ≤ m → oAt owner j = some i → oAt owner j' = some i → j = j'
  all : ∀ i, i < k → ∃ j, j ≤ m ∧ oAt owner j = some i
  ps : ∃ ps : List Nat, ps.length = k ∧ ∀ j, j ≤ m → oAt owner j ≠ none → j ∈ ps
theorem Sits.init (m : Nat) : Sits m 0 (Array.replicate (m + 1) none) where
  sz := by simp
  low := fun j i e hj => by rw [oAt_init hj] at e; cases e
  inj := fun j j' i hj _ e _ => by rw [oAt_init hj] at e; cases e
  all := fun i hi => absurd hi (Nat.not_lt_zero _)
  ps := ⟨[], rfl, fun j hj e => absurd (oAt_init hj) e⟩
theorem oAt_out {owner : Array (Option Nat)} {j : Nat} (h : oAt owner j = none) : j < owner.size := by
  by_cases c : j < owner.size
  · exact c
  · have z : owner.getD j (some 0) = none := h
    rw [Array.getD_eq_getD_getElem?, Array.getElem?_eq_none (by omega)] at z
    cases z
theorem Sits.step {m k : Nat} (hm : MaskA m) {owner : Array (Option Nat)} (S : Sits m k owner) (hk : k ≤ m) (h : Int) :
    ∃ j, SetTable.layClean.free m owner (SetTable.turns m) (SetTable.bits h % (m + 1)) (SetTable.bits h) = some j ∧ Sits m (k + 1) (owner.setIfInBounds j (some k)) := by
  obtain ⟨ps, hps, hin⟩ := S.ps
  obtain ⟨j0, h0, hn0⟩ := st_missing ps (m + 1) (by omega)
  have hj0 : oAt owner j0 = none := by
    cases z : oAt owner j0 with
    | none => rfl
    | some i => exact absurd (hin j0 (Nat.le_of_lt_succ h0) (by rw [z]; exact fun e => nomatch e)) hn0
  obtain ⟨n, hn, e⟩ := meets hm h (Nat.le_of_lt_succ h0)
  obtain ⟨r, e1, e2⟩ := free_any m owner hj0 (SetTable.turns m) n (SetTable.bits h % (m + 1)) (SetTable.bits h) (by unfold SetTable.turns; omega) (by rw [itL_run]; exact e)
  have hrs := oAt_out e2
  have hrm : r ≤ m := by rw [S.sz] at hrs; omega
  have hself := oAt_set_self (some k) hrs
  refine ⟨r, e1, by rw [Array.size_setIfInBounds]; exact S.sz, fun j i q hj => ?_, fun j j' i hj hj' q q' => ?_, fun i hi => ?_, ⟨r :: ps, by rw [List.length_cons, hps], fun j hj q => ?_⟩⟩
  · by_cases c : j = r
    · rw [c, hself] at q; cases q; omega
    · rw [oAt_set_ne _ c] at q
      have := S.low j i q hj
      omega
  · by_cases c : j = r <;> by_cases c' : j' = r
    · rw [c, c']
    · rw [c, hself] at q; cases q
      rw [oAt_set_ne _ c'] at q'
      have := S.low j' k q' hj'
      omega
    · rw [c', hself] at q'; cases q'
      rw [oAt_set_ne _ c] at q
      have := S.low j k q hj
      omega
    · rw [oAt_set_ne _ c] at q
      rw [oAt_set_ne _ c'] at q'
      exact S.inj j j' i hj hj' q q'
  · by_cases c : i = k
    · rw [c]; exact ⟨r, hrm, hself⟩
    · obtain ⟨j, hj, q⟩ := S.all i (by omega)
      refine ⟨j, hj, ?_⟩
      rw [oAt_set_ne _ (fun z => by rw [z, e2] at q; cases q)]
      exact q
  · by_cases c : j = r
    · rw [c]; exact List.mem_cons_self
    · rw [oAt_set_ne _ c] at q
      exact List.mem_cons_of_mem _ (hin j hj q)
theorem fold_sits {m : Nat} (hm : MaskA m) : ∀ (rest : List Int) (k : Nat) (owner : Array (Option Nat)), Sits m k owner → k + rest.length ≤ m →
    ∃ owner', rest.foldl (stepF m) (some (owner, k)) = some (owner', k + rest.length) ∧ Sits m (k + rest.length) owner'
  | [], k, owner, S, _ => ⟨owner, rfl, S⟩
  | h :: rest, k, owner, S, hl => by
    rw [List.length_cons] at hl
    obtain ⟨j, e, S'⟩ := S.step hm (by omega) h
    obtain ⟨owner', f, S2⟩ := fold_sits hm rest (k + 1) _ S' (by omega)
    refine ⟨owner', ?_, ?_⟩
    · rw [List.foldl_cons, stepF_some e, f, List.length_cons]
      congr 2
      omega
    · rw [List.length_cons]
      have : k + (rest.length + 1) = k + 1 + rest.length := by omega
      rw [this]
      exact S2
/-- laid: every entry once -/
theorem laid_ok {m fg mv : Nat} {ld pl : Bool} {hs : Array Int} (hm : MaskA m) (hn : hs.size ≤ m) :
    ∃ t order, SetTable.laid m fg mv ld pl hs = some (t, order) ∧ order.toList.Perm (List.range hs.size) ∧ Ris t.place.toList ∧ t.place.size = hs.size ∧ t.dummies = #[] ∧ t.mask = m ∧ t.led = ld ∧ t.plain = pl := by
  obtain ⟨owner, f, S⟩ := fold_sits hm hs.toList 0 _ (Sits.init m) (by rw [Array.length_toList]; omega)
  have e : SetTable.layClean m hs = some owner := by
    rw [layClean_eq, f]
    rfl
  have hz : 0 + hs.toList.length = hs.size := by rw [Array.length_toList]; omega
  rw [hz] at S
  have hr : SetTable.laid m fg mv ld pl hs = some ({ mask := m, place := ((liveOf m owner).map (·.1)).toArray, dummies := #[], finger := fg, led := ld, moves := mv, plain := pl }, ((liveOf m owner).map (·.2)).toArray) := by
    unfold SetTable.laid
    rw [e]
    rfl
  have ris := ris_live (fun j => owner.getD j none) (List.range (m + 1)) (by
    unfold Ris
    first | exact List.pairwise_lt_range | exact List.pairwise_lt_range _)
  have r1 : Ris ((liveOf m owner).map (·.1)) := ris.1
  have nd : ((liveOf m owner).map (·.1)).Nodup := List.Pairwise.imp (fun h => Nat.ne_of_lt h) r1
  have hlen : (liveOf m owner).length = hs.size := by
    obtain ⟨ps, p1, p2⟩ := S.ps
    have a := nat_nodup_len ((liveOf m owner).map (·.1)) ps nd fun x hx => by
      obtain ⟨⟨y, k⟩, hq, eq1⟩ := List.mem_map.mp hx
      have ey : y = x := eq1
      subst ey
      obtain ⟨b1, b2⟩ := (mem_live S.sz).1 hq
      exact p2 y b1 (by rw [b2]; exact fun z => nomatch z)
    have b := nat_nodup_len (List.range hs.size) ((liveOf m owner).map (·.2)) List.nodup_range fun k hk => by
      obtain ⟨j, b1, b2⟩ := S.all k (List.mem_range.mp hk)
      exact List.mem_map.mpr ⟨(j, k), (mem_live S.sz).2 ⟨b1, b2⟩, rfl⟩
    rw [List.length_map] at a
    rw [List.length_map, List.length_range] at b
    omega
  refine ⟨_, _, hr, ?_, r1, by show ((liveOf m owner).map (·.1)).toArray.size = hs.size; rw [List.size_toArray, List.length_map]; exact hlen, rfl, rfl, rfl, rfl⟩
  refine perm_range hs.size _ ?_ fun k hk => ?_
  · show ((liveOf m owner).map (·.2)).length = hs.size
    rw [List.length_map]
    exact hlen
  · obtain ⟨j, b1, b2⟩ := S.all k hk
    exact List.mem_map.mpr ⟨(j, k), (mem_live S.sz).2 ⟨b1, b2⟩, rfl⟩

/-! ### the set of ints at a, with its table -/
structure SetT (w : World) (h : Heap) (a : Addr) (S : Int → Bool) (ep : Nat) (es : Array (Int × Value)) (t : SetTable) : Prop where
  ob : ∃ o, h.get? a = some o ∧ o.ExactSet ∧ o.data = .set es ep t
  good : ∀ e ∈ es.toList, GoodE e
  nd : (es.toList.map keyOf).Nodup
  mem : ∀ k, S k = true ↔ k ∈ es.toList.map keyOf
  bd : es.size < scanBound
  fits : t.fits es.size = true
  ris : Ris t.place.toList
  led : w.params.followText "set-order" = true ∨ t.led = true
theorem SetT.r {w : World} {h : Heap} {a : Addr} {S : Int → Bool} {ep : Nat} {es : Array (Int × Value)} {t : SetTable} (R : SetT w h a S ep es t) : SetR w h a S es.size := by
  obtain ⟨o, ho, hx, hd⟩ := R.ob
  exact ⟨o, es, ep, t, ho, hx, hd, R.good, R.nd, R.mem, R.bd, R.fits, rfl, R.ris, R.led⟩
theorem SetT.of {w : World} {h : Heap} {a : Addr} {S : Int → Bool} {n : Nat} (R : SetR w h a S n) : ∃ ep es t, SetT w h a S ep es t ∧ es.size = n := by
  obtain ⟨o, es, ep, t, ho, hx, hd, g, nd, hm, hb, hf, hn, hr, hl⟩ := R
  exact ⟨ep, es, t, ⟨⟨o, ho, hx, hd⟩, g, nd, hm, hb, hf, hr, hl⟩, hn⟩
theorem SetT.at {w : World} {h h' : Heap} {a : Addr} {S : Int → Bool} {ep : Nat} {es : Array (Int × Value)} {t : SetTable} (R : SetT w h a S ep es t) (k : ∀ o, h.get? a = some o → h'.get? a = some o) : SetT w h' a S ep es t := by
  obtain ⟨⟨o, ho, hx, hd⟩, g, nd, hm, hb, hf, hr, hl⟩ := R
  exact ⟨⟨o, k o ho, hx, hd⟩, g, nd, hm, hb, hf, hr, hl⟩
section
variable {P : Program} {w : World} {A : Around} {E : Value → Shared → Prop} {s : Shared} {a : Addr} {S : Int → Bool} {ep : Nat} {es : Array (Int × Value)} {t : SetTable}
theorem putT {es' : Array (Int × Value)} {t' : SetTable} {S' : Int → Bool} (ho : ∃ o, s.heap.get? a = some o ∧ o.ExactSet ∧ ∃ es ep0 t, o.data = .set es ep0 t ∧ ep0 = ep) (g : ∀ e ∈ es'.toList, GoodE e) (nd : (es'.toList.map keyOf).Nodup) (hm : ∀ k, S' k = true ↔ k ∈ es'.toList.map keyOf) (hb : es'.size < scanBound)
    (hf : t'.fits es'.size = true) (hr : Ris t'.place.toList) (hl : w.params.followText "set-order" = true ∨ t'.led = true) {Q : Unit → Shared → Prop}
    (hQ : ∀ h', Heap.SameBut a s.heap h' → SetT w h' a S' (ep + 1) es' t' → Q () { s with heap := h' }) : wpAny (model P w) A (storeSet a es' t') Q E s := by
  obtain ⟨o, ho, hx, es0, ep0, t0, hd, rfl⟩ := ho
  refine wpAny_storeSet_of ho hd ?_ (fits_of_scanBound hb)
  exact hQ _ (Heap.SameBut.update ..) ⟨⟨_, store_at ho hd, ⟨hx.1, hx.2.1, hx.2.2⟩, rfl⟩, g, nd, hm, hb, hf, hr, hl⟩
theorem order_perm {order : Array Nat} {es : Array (Int × Value)} (hp : order.toList.Perm (List.range es.size)) : (order.filterMap (es[·]?)).toList.Perm es.toList := by
  rw [Array.toList_filterMap]
  exact (hp.filterMap _).trans (by rw [filterMap_getElem?_range])
theorem SetT.place {hh : Heap} (R : SetT w hh a S ep es t) : t.place.size = es.size ∧ t.fill ≤ t.mask := by
  have h := R.fits
  unfold SetTable.fits at h
  rw [Bool.and_eq_true, beq_iff_eq, decide_eq_true_eq] at h
  exact h
theorem relay_T (R : SetT w s.heap a S ep es t) {wanted : Nat} (hM : MaskA (SetTable.sizeAbove wanted - 1)) (hn : es.size ≤ SetTable.sizeAbove wanted - 1) {Q : Unit → Shared → Prop}
    (hQ : ∀ h' es' t', Heap.SameBut a s.heap h' → SetT w h' a S (ep + 1) es' t' → es'.size = es.size → t'.mask = SetTable.sizeAbove wanted - 1 → t'.dummies = #[] → Q () { s with heap := h' }) : wpAny (model P w) A (setRelay a wanted) Q E s := by
  obtain ⟨o, ho, hx, hd⟩ := R.ob
  obtain ⟨t', order, e, hp, hr, hps, hdm, hmk, hld, hpl⟩ := laid_ok (fg := t.finger) (mv := t.movedTo (SetTable.sizeAbove wanted - 1)) (ld := t.led) (pl := t.plain) (hs := es.map (·.1)) hM (by rw [Array.size_map]; exact hn)
  rw [Array.size_map] at hp hps
  have e : t.relaid (es.map (·.1)) wanted = some (t', order) := e
  have pm := order_perm hp
  have hs2 : (order.filterMap (es[·]?)).size = es.size := by
    have h := pm.length_eq
    rw [Array.length_toList, Array.length_toList] at h
    exact h
  have pk : ((order.filterMap (es[·]?)).toList.map keyOf).Perm (es.toList.map keyOf) := pm.map keyOf
  rw [setRelay_eq]
  refine wpAny_bind (wpAny_setState_of ho hd R.fits ?_)
  dsimp only
  have big : SetTable.sizeAbove wanted ≤ sizeLine := by
    rw [sizeLine_eq]
    rcases hM with z | z | z | z | z | z <;> omega
  refine wp_if_neg (by omega) ?_
  try refine wpAny_bind (wpAny_pure ?_)
  rw [e]
  dsimp only
  refine wpAny_bind ?_
  refine wp_if_neg (by rw [hs2]; simp) ?_
  try refine wpAny_bind (wpAny_pure ?_)
  refine wpAny_pure ?_
  dsimp only
  refine putT (ep := ep) ⟨o, ho, hx, es, ep, t, hd, rfl⟩ (fun x hx => R.good x (pm.mem_iff.mp hx)) (pk.nodup_iff.mpr R.nd) (fun k => (R.mem k).trans pk.mem_iff.symm) (by rw [hs2]; exact R.bd) ?_ hr (by rw [hld]; exact R.led) fun h' sb T => hQ h' _ _ sb T hs2 hmk hdm
  unfold SetTable.fits SetTable.fill
  rw [hs2, hps, hdm, hmk, Bool.and_eq_true, beq_iff_eq, decide_eq_true_eq]
  exact ⟨rfl, by show es.size + 0 ≤ _; omega⟩
theorem above_ok : ((List.range 128).all fun k => decide (2 * k ≤ SetTable.sizeAbove (k * 2) - 1) && [7, 15, 31, 63, 127, 255].contains (SetTable.sizeAbove (k * 2) - 1)) = true := by decide +kernel
theorem above {k : Nat} (h : k < 128) : 2 * k ≤ SetTable.sizeAbove (k * 2) - 1 ∧ MaskA (SetTable.sizeAbove (k * 2) - 1) := by
  have z := List.all_eq_true.mp above_ok k (List.mem_range.mpr h)
  rw [Bool.and_eq_true, decide_eq_true_eq] at z
  refine ⟨z.1, ?_⟩
  have y := List.contains_iff_mem.mp z.2
  simp only [List.mem_cons, List.not_mem_nil, or_false] at y
  exact y
/-- room is made -/
theorem room_T (R : SetT w s.heap a S ep es t) {m : Nat} (hn : es.size + m < 128) {Q : Unit → Shared → Prop}
    (hQ : ∀ h' ep' es' t', Heap.SameBut a s.heap h' → SetT w h' a S ep' es' t' → es'.size = es.size → (MaskA t.mask → MaskA t'.mask) → (t.dummies = #[] → t'.dummies = #[]) → (t.fill = 0 → t.mask = 7 → m ≤ t'.mask) → Q () { s with heap := h' }) : wpAny (model P w) A (setRoomFor a m) Q E s := by
  obtain ⟨o, ho, hx, hd⟩ := R.ob
  have hp := R.place
  unfold setRoomFor
  refine wpAny_bind (wpAny_setState_of ho hd R.fits ?_)
  dsimp only
  unfold SetTable.roomFor
  by_cases c : (t.fill + m) * 5 ≥ t.mask * 3
  · rw [if_pos c]
    obtain ⟨h1, h2⟩ := above (k := t.place.size + m) (by omega)
    exact relay_T R h2 (by omega) fun h' es' t' sb T e1 e2 e3 => hQ h' _ es' t' sb T e1 (fun _ => by rw [e2]; exact h2) (fun _ => e3) fun _ _ => by omega
  · rw [if_neg c]
    refine wpAny_pure ?_
    exact hQ s.heap ep es t (Heap.SameBut.refl a s.heap) R rfl id id fun _ _ => by omega
/-- a walk that nobody sees the order of -/
theorem walk_T (R : SetT w s.heap a S ep es t) {Q : Array (Int × Value) → Shared → Prop} (hQ : ∀ xs d, xs.toList.Perm es.toList → Q xs { s with drawn := d }) : wpAny (model P w) A (setWalk a) Q E s := by
  obtain ⟨o, ho, hx, hd⟩ := R.ob
  unfold setWalk
  refine wpAny_bind (wpAny_setState_of ho hd R.fits ?_)
  dsimp only
  refine wpAny_bind (wpAny_byText ?_)
  cases hbt : w.params.followText "set-order" with
  | true =>
    refine wp_if_pos rfl ?_
    exact wpAny_bind (wpAny_askSetting (wpAny_pure (hQ _ s.drawn (pick_perm _ _))))
  | false =>
    refine wp_if_neg Bool.false_ne_true ?_
    try refine wpAny_bind (wpAny_pure ?_)
    cases hdr : (!t.plain && decide (es.size > 1)) with
    | true =>
      refine wp_if_pos hdr ?_
      exact wpAny_bind (drawOrder_at es.size es.toList s _ (by rw [Array.length_toList]; exact Nat.le_refl _) fun ys d p => wpAny_pure (hQ ys.toArray d p))
    | false =>
      refine wp_if_neg (by show ¬ ((!t.plain && decide (es.size > 1)) = true); rw [hdr]; exact Bool.false_ne_true) ?_
      try refine wpAny_bind (wpAny_pure ?_)
      have hl : t.led = true := by
        rcases R.led with z | z
        · rw [hbt] at z; cases z
        · exact z
      refine wpAny_bind (wpAny_of_eq (a := ()) ?_ ?_)
      · show (if (!t.led && decide (es.size > 1)) = true then unsupported "set:maker-not-led" else pure ()) = pure ()
        rw [hl] <;> rfl
      · exact wpAny_pure (hQ es s.drawn (List.Perm.refl _))

theorem forIn_still {β : Type} (f : (Int × Value) → β → Sem (ForInStep β)) (b : β) : ∀ (l : List (Int × Value)), (∀ e ∈ l, f e b = pure (.yield b)) → forIn l b f = pure b
  | [], _ => by rw [List.forIn_nil]
  | e :: l, h => by
    rw [List.forIn_cons, h e List.mem_cons_self]
    exact forIn_still f b l fun x hx => h x (List.mem_cons_of_mem _ hx)
theorem entries_T (R : SetT w s.heap a S ep es t) {Q : Array (Int × Value) → Shared → Prop} (h : Q es s) : wpAny (model P w) A (setEntries a) Q E s := by
  obtain ⟨o, ho, hx, hd⟩ := R.ob
  unfold setEntries
  exact wpAny_bind (wpAny_setState_of ho hd R.fits (wpAny_pure h))
variable {o : Addr} {So : Int → Bool} {epo : Nat} {eso : Array (Int × Value)} {to : SetTable}
theorem quiet_T (Ro : SetT w s.heap o So epo eso to) (Rs : SetT w s.heap a S ep es t) {Q : Bool → Shared → Prop} (h : Q true s) : wpAny (model P w) A (setsQuiet [o, a]) Q E s := by
  unfold setsQuiet
  simp only [List.forIn_cons, List.forIn_nil]
  have still : ∀ {es : Array (Int × Value)} (g : ∀ e ∈ es.toList, GoodE e) {β : Type} (b : β) (f : (Int × Value) → β → Sem (ForInStep β)), (∀ h k tk, f (h, Value.int k tk) b = pure (.yield b)) → forIn es b f = pure b := fun {es} g {β} b f hf => by
    rw [← Array.forIn_toList]
    refine forIn_still f b _ fun e he => ?_
    obtain ⟨k, tk, h1, _⟩ := g e he
    obtain ⟨e1, e2⟩ := e
    have h1 : e2 = Value.int k tk := h1
    subst h1
    exact hf e1 k tk
  refine wpAny_bind (wpAny_bind (wpAny_bind (entries_T Ro ?_)))
  rw [still Ro.good _ _ (fun _ _ _ => rfl)]
  refine wpAny_bind (wpAny_pure ?_)
  dsimp only
  refine wpAny_pure ?_
  dsimp only
  refine wpAny_bind (wpAny_bind (entries_T Rs ?_))
  rw [still Rs.good _ _ (fun _ _ _ => rfl)]
  refine wpAny_bind (wpAny_pure ?_)
  dsimp only
  refine wpAny_pure ?_
  dsimp only
  refine wpAny_pure ?_
  dsimp only
  exact wpAny_pure h
theorem unseen_T (Ro : SetT w s.heap o So epo eso to) (Rs : SetT w s.heap a S ep es t) {Q : Array (Int × Value) → Shared → Prop}
    (hQ : ∀ xs h' d ep' t', xs.toList.Perm eso.toList → Heap.SameBut a s.heap h' → SetT w h' a S ep' es t' → Q xs { s with heap := h', drawn := d }) : wpAny (model P w) A (setWalkUnseen o [a] (some a)) Q E s := by
  obtain ⟨oo, ho, hx, hd⟩ := Ro.ob
  unfold setWalkUnseen
  refine wpAny_bind (wpAny_setState_of ho hd Ro.fits ?_)
  dsimp only
  refine wpAny_bind (wpAny_byText ?_)
  by_cases c : (w.params.followText "set-order" || (to.led && to.plain) || decide (eso.size ≤ 1)) = true
  · refine wp_if_pos c ?_
    exact walk_T Ro fun xs d p => hQ xs s.heap d ep t p (Heap.SameBut.refl a s.heap) Rs
  · refine wp_if_neg c ?_
    try refine wpAny_bind (wpAny_pure ?_)
    refine wpAny_bind (quiet_T Ro Rs ?_)
    refine wp_if_neg (by simp) ?_
    try refine wpAny_bind (wpAny_pure ?_)
    refine wpAny_bind (wpAny_rule ?_)
    try dsimp only
    obtain ⟨oa, ha, hxa, hda⟩ := Rs.ob
    refine wpAny_bind (wpAny_setState_of ha hda Rs.fits ?_)
    dsimp only
    by_cases c2 : ((t.led && !to.led) || (t.plain && !to.plain)) = true
    · refine wp_if_pos c2 ?_
      have hled : w.params.followText "set-order" = true ∨ (t.led && to.led) = true := by
        rcases Rs.led with z | z
        · exact .inl z
        · rcases Ro.led with y | y
          · exact .inl y
          · exact .inr (by rw [z, y]; rfl)
      refine wpAny_bind (putT (t' := { t with led := t.led && to.led, plain := t.plain && to.plain }) (ep := ep) ⟨oa, ha, hxa, es, ep, t, hda, rfl⟩ Rs.good Rs.nd Rs.mem Rs.bd Rs.fits Rs.ris hled fun h' sb T => ?_)
      exact wpAny_pure (hQ eso h' s.drawn _ _ (List.Perm.refl _) sb T)
    · refine wp_if_neg c2 ?_
      first
        | exact wpAny_pure (hQ eso s.heap s.drawn ep t (List.Perm.refl _) (Heap.SameBut.refl a s.heap) Rs)
        | exact wpAny_bind (wpAny_pure (wpAny_pure (hQ eso s.heap s.drawn ep t (List.Perm.refl _) (Heap.SameBut.refl a s.heap) Rs)))

theorem loop_T {f : (Int × Value) → PUnit → Sem (ForInStep PUnit)} (ne : a ≠ o)
    (step : ∀ (e : Int × Value) (s1 : Shared) (n : Nat) (S1 : Int → Bool) (Q1 : ForInStep PUnit → Shared → Prop), GoodE e → SetT w s1.heap o So epo eso to → SetR w s1.heap a S1 n → n + 1 < scanBound →
      (∀ h' n', Heap.SameBut a s1.heap h' → SetR w h' a (fun j => S1 j || decide (j = keyOf e)) n' → n' ≤ n + 1 → Q1 (.yield ⟨⟩) { s1 with heap := h' }) → wpAny (model P w) A (f e ⟨⟩) Q1 E s1) :
    ∀ (l : List (Int × Value)) (s1 : Shared) (S1 : Int → Bool) (n : Nat) (Q : PUnit → Shared → Prop), (∀ e ∈ l, GoodE e) → SetT w s1.heap o So epo eso to → SetR w s1.heap a S1 n → n + l.length < scanBound →
      (∀ h' n' S', Heap.SameBut a s1.heap h' → SetR w h' a S' n' → (∀ k, S' k = true ↔ S1 k = true ∨ k ∈ l.map keyOf) → Q ⟨⟩ { s1 with heap := h' }) → wpAny (model P w) A (forIn l ⟨⟩ f) Q E s1 := by
  intro l
  induction l with
  | nil =>
    intro s1 S1 n Q _ _ R _ hQ
    rw [List.forIn_nil]
    exact wpAny_pure (hQ s1.heap n S1 (Heap.SameBut.refl a s1.heap) R fun k => by simp)
  | cons e l ih =>
    intro s1 S1 n Q g Ro R hl hQ
    rw [List.length_cons] at hl
    rw [List.forIn_cons]
    refine wpAny_bind (step e s1 n S1 _ (g e List.mem_cons_self) Ro R (by omega) fun h' n' sb R' hn' => ?_)
    refine ih { s1 with heap := h' } _ n' Q (fun x hx => g x (List.mem_cons_of_mem _ hx)) (Ro.at fun u hu => (sb.2 o (Ne.symm ne)).trans hu) R' (by omega) fun h2 n2 S2 sb2 R2 hm => ?_
    refine hQ h2 n2 S2 (sb.trans sb2) R2 fun k => ?_
    rw [hm k, Bool.or_eq_true, decide_eq_true_eq, List.map_cons, List.mem_cons, or_assoc]
/-- a set that may be filled on -/
def Fresh (w : World) (h : Heap) (a : Addr) (S : Int → Bool) (n : Nat) : Prop := ∃ ep es t, SetT w h a S ep es t ∧ es.size = n ∧ MaskA t.mask ∧ t.dummies = #[] ∧ (t.fill = 0 → t.mask = 7)
/-- s |= o, for a set of ints o that is another one -/
theorem merge_T {each : Sem Unit} (Ro : SetT w s.heap o So epo eso to) (Rs : SetT w s.heap a S ep es t) (ne : a ≠ o) (hn : es.size + eso.size < 128) (hm : MaskA t.mask) (hd : t.dummies = #[]) (h0 : t.fill = 0 → t.mask = 7)
    (hea : ∀ (s' : Shared) (Q' : Unit → Shared → Prop), SetT w s'.heap o So epo eso to → Q' () s' → wpAny (model P w) A each Q' E s') {Q : Unit → Shared → Prop}
    (hQ : ∀ h' d n S', Heap.SameBut a s.heap h' → SetR w h' a S' n → (∀ k, S' k = true ↔ S k = true ∨ So k = true) → (es.size = 0 → Fresh w h' a S' n) → Q () { s with heap := h', drawn := d }) : wpAny (model P w) A (setMerge a o each) Q E s := by
  obtain ⟨oo, ho, hox, hod⟩ := Ro.ob
  unfold setMerge
  refine wp_if_neg (by simpa using ne) ?_
  try refine wpAny_bind (wpAny_pure ?_)
  refine wpAny_bind (wpAny_setState_of ho hod Ro.fits ?_)
  dsimp only
  by_cases hem : eso.isEmpty = true
  · refine wp_if_pos hem ?_
    have e0 : eso = #[] := by simpa using hem
    refine wpAny_pure (hQ s.heap s.drawn es.size S (Heap.SameBut.refl a s.heap) Rs.r (fun k => ⟨.inl, fun z => z.elim id fun z => by
    have z := (Ro.mem k).1 z
    rw [e0] at z
    simp at z⟩) fun _ => ⟨ep, es, t, Rs, rfl, hm, hd, h0⟩)
  · refine wp_if_neg hem ?_
    have hne : eso.size ≠ 0 := fun z => hem (by simpa using Array.eq_empty_of_size_eq_zero z)
    try refine wpAny_bind (wpAny_pure ?_)
    refine wpAny_bind (room_T Rs hn fun h1 ep1 es1 t1 sb1 R1 hz1 hm1 hd1 hf1 => ?_)
    have Ro1 : SetT w h1 o So epo eso to := Ro.at fun u hu => (sb1.2 o (Ne.symm ne)).trans hu
    obtain ⟨o1, ho1, hx1, hdt1⟩ := R1.ob
    refine wpAny_bind (wpAny_setState_of ho1 hdt1 R1.fits ?_)
    dsimp only
    have pl0 := Rs.place
    have pl1 := R1.place
    have fl0 : t.fill = es.size := by unfold SetTable.fill; rw [hd, pl0.1]; rfl
    have fl1 : t1.fill = es1.size := by unfold SetTable.fill; rw [hd1 hd, pl1.1]; rfl
    have hled : w.params.followText "set-order" = true ∨ (t1.led && to.led) = true := by
      rcases R1.led with z | z
      · exact .inl z
      · rcases Ro.led with y | y
        · exact .inl y
        · exact .inr (by rw [z, y]; rfl)
    have empty1 : es1.size = 0 → ∀ k, So k = true ↔ S k = true ∨ So k = true := fun z k => ⟨.inr, fun y => y.elim (fun y => by
      have y := (R1.mem k).1 y
      have e0 : es1 = #[] := Array.eq_empty_of_size_eq_zero z
      rw [e0] at y
      simp at y) id⟩
    cases hrd : t1.road to with
    | slotForSlot =>
      have hz : es1.size = 0 := by
        unfold SetTable.road at hrd
        by_cases c : t1.fill = 0
        · omega
        · rw [if_pos (by simpa using c)] at hrd; cases hrd
      dsimp only
      refine putT (s := { s with heap := h1 }) (t' := { to with finger := t1.finger, led := t1.led && to.led, moves := t1.moves, plain := t1.plain && to.plain }) (ep := ep1) ⟨o1, ho1, hx1, es1, ep1, t1, hdt1, rfl⟩ Ro.good Ro.nd Ro.mem Ro.bd Ro.fits Ro.ris hled fun h' sb T => ?_
      have hroad : t1.mask = to.mask ∧ to.dummies = #[] := by
        unfold SetTable.road at hrd
        rw [if_neg (by simp; omega)] at hrd
        by_cases c : (t1.mask == to.mask && to.dummies.isEmpty) = true
        · rw [Bool.and_eq_true, beq_iff_eq] at c
          exact ⟨c.1, by simpa using c.2⟩
        · rw [if_neg c] at hrd; cases hrd
      exact hQ h' s.drawn eso.size So (sb1.trans sb) T.r (empty1 hz) fun _ => ⟨_, _, _, T, rfl, by show MaskA to.mask; rw [← hroad.1]; exact hm1 hm, hroad.2, fun z => absurd (by
        have z : to.place.size + to.dummies.size = 0 := z
        have := Ro.place.1
        omega) hne⟩
    | clean =>
      have hz : es1.size = 0 := by
        unfold SetTable.road at hrd
        by_cases c : t1.fill = 0
        · omega
        · rw [if_pos (by simpa using c)] at hrd; cases hrd
      have hmk : eso.size ≤ t1.mask := hf1 (by omega) (h0 (by omega))
      dsimp only
      obtain ⟨t', order, e, hp, hr, hps, hdm, hmk', hld, hpl⟩ := laid_ok (m := t1.mask) (fg := t1.finger) (mv := t1.moves) (ld := t1.led && to.led) (pl := t1.plain && to.plain) (hs := eso.map (·.1)) (hm1 hm) (by rw [Array.size_map]; exact hmk)
      rw [Array.size_map] at hp hps
      have pm := order_perm hp
      have hs2 : (order.filterMap (eso[·]?)).size = eso.size := by
        have h := pm.length_eq
        rw [Array.length_toList, Array.length_toList] at h
        exact h
      have pk : ((order.filterMap (eso[·]?)).toList.map keyOf).Perm (eso.toList.map keyOf) := pm.map keyOf
      refine wpAny_bind (wpAny_of_eq (a := (order.filterMap (eso[·]?), t')) ?_ ?_)
      · rw [e]
        show (if ((order.filterMap (eso[·]?)).size != eso.size) = true then unsupported "internal:set-table-lost-an-element" else pure (order.filterMap (eso[·]?), t')) = _
        rw [if_neg (by rw [hs2]; simp)]
      · dsimp only
        refine putT (s := { s with heap := h1 }) (ep := ep1) ⟨o1, ho1, hx1, es1, ep1, t1, hdt1, rfl⟩ (fun x hx => Ro.good x (pm.mem_iff.mp hx)) (pk.nodup_iff.mpr Ro.nd) (fun k => (Ro.mem k).trans pk.mem_iff.symm) (by rw [hs2]; exact Ro.bd) ?_ hr (by rw [hld]; exact hled) fun h' sb T => ?_
        · unfold SetTable.fits SetTable.fill
          rw [hs2, hps, hdm, hmk', Bool.and_eq_true, beq_iff_eq, decide_eq_true_eq]
          exact ⟨rfl, by show eso.size + 0 ≤ _; omega⟩
        · exact hQ h' s.drawn _ So (sb1.trans sb) T.r (empty1 hz) fun _ => ⟨_, _, _, T, rfl, by rw [hmk']; exact hm1 hm, hdm, fun z => absurd (by
            have z : t'.place.size + t'.dummies.size = 0 := z
            omega) hne⟩
    | oneByOne =>
      dsimp only
      refine wpAny_bind (unseen_T (s := { s with heap := h1 }) Ro1 R1 fun xs h2 d ep2 t2 pm sb2 R2 => ?_)
      have Ro2 : SetT w h2 o So epo eso to := Ro1.at fun u hu => (sb2.2 o (Ne.symm ne)).trans hu
      rw [← Array.forIn_toList]
      have hb := Ro.bd
      have hsc : scanBound = 4096 := rfl
      have lx : xs.toList.length = eso.size := by rw [pm.length_eq, Array.length_toList]
      refine wpAny_bind (loop_T ne (So := So) (epo := epo) (eso := eso) (to := to) (fun e s1 n S1 Q1 g Roi Ri hni hq => ?_) xs.toList { s with heap := h2, drawn := d } S es1.size _ (fun e he => Ro.good e (pm.mem_iff.mp he)) Ro2 R2.r (by omega) fun h' n' S' sb3 R3 hm3 => ?_)
      · obtain ⟨h, x⟩ := e
        obtain ⟨k, tk, h1', h2'⟩ := g
        have h1' : x = Value.int k tk := h1'
        have h2' : h = hashInt k := h2'
        subst h1' h2'
        dsimp only
        refine wpAny_bind (wpAny_holding (setR_add_hashed (k := k) (tk := tk) Ri hni fun h' sb R' => ?_))
        have Roj : SetT w h' o So epo eso to := Roi.at fun u hu => (sb.2 o (Ne.symm ne)).trans hu
        refine wpAny_bind (hea { s1 with heap := h' } _ Roj ?_)
        obtain ⟨oj, hoj, _, hdj⟩ := Roj.ob
        refine wpAny_bind (wpAny_setState_of hoj hdj Roj.fits ?_)
        dsimp only
        refine wp_if_neg (by simp) ?_
        try refine wpAny_bind (wpAny_pure ?_)
        refine wpAny_pure (hq h' _ sb R' ?_)
        split <;> omega
      · refine wpAny_pure (hQ h' d n' S' (sb1.trans (sb2.trans sb3)) R3 (fun k => ?_) fun z => absurd hrd (by unfold SetTable.road; rw [if_neg (by simp; omega)]; split <;> exact fun y => by cases y))
        rw [hm3 k, (pm.map keyOf).mem_iff, ← Ro.mem k]

theorem fresh_T {led : Bool} (h : Heap) (hl : led = !(w.params.followText "set-order")) : SetT w (h.push { cls := .type "set", dict := none, data := .set #[] 0 (.fresh 0 0 led) }) h.objs.size (fun _ => false) 0 #[] (.fresh 0 0 led) :=
  ⟨⟨_, Heap.get?_push_size _ rfl, ⟨rfl, rfl, rfl⟩, rfl⟩, fun e he => by simp at he, by simp, fun k => by simp, by decide, rfl, List.Pairwise.nil, by
    rw [hl]
    show _ ∨ (!w.params.followText "set-order") = true
    cases w.params.followText "set-order"
    · exact .inr rfl
    · exact .inl rfl⟩
theorem entry_or : entryFor table "set.__or__" = some Builtin.«frozenset.__or__» := entryFor_alias (id' := "frozenset.__or__") (by kernel_rfl) rfl (by decide +kernel) (by kernel_rfl)
theorem any_T (ty : s.TypeIs (.ref a) "set") {Q : Bool → Shared → Prop} (h : Q true s) : wpAny (model P w) A (Builtin.Frozenset.isAnySet (.ref a)) Q E s := by
  unfold Builtin.Frozenset.isAnySet orM
  refine wpAny_bind (wpAny_isInstance (b := true) ty sub_set_self ?_)
  exact wpAny_pure h
theorem or_T {l r : Addr} {S1 S2 : Int → Bool} {n1 n2 : Nat} (R1 : SetR w s.heap l S1 n1) (R2 : SetR w s.heap r S2 n2) (ne : l ≠ r) (hn : n1 + n2 < 128) {Q : Value → Shared → Prop}
    (hQ : ∀ h' d tk n S', (∀ b o, s.heap.get? b = some o → h'.get? b = some o) → SetR w h' s.heap.objs.size S' n → (∀ k, S' k = true ↔ S1 k = true ∨ S2 k = true) → Q (.ref s.heap.objs.size) { s with heap := h', drawn := d, toks := tk }) :
    wpAny (model P w) A (binaryOp .BitOr (.ref l) (.ref r)) Q E s := by
  obtain ⟨ep1, es1, t1, T1, rfl⟩ := SetT.of R1
  obtain ⟨ep2, es2, t2, T2, rfl⟩ := SetT.of R2
  obtain ⟨o1, ho1, hx1, hd1⟩ := T1.ob
  obtain ⟨o2, ho2, hx2, hd2⟩ := T2.ob
  have ty1 : s.TypeIs (.ref l) "set" := ⟨o1, ho1, hx1.1⟩
  have ty2 : s.TypeIs (.ref r) "set" := ⟨o2, ho2, hx2.1⟩
  refine wpAny_binaryOp_same (op := .BitOr) ty1 ty2 F.fills_set_or F.slot_set_or (wpAny_call_entry F.slot_set_or ty1 entry_or ?_ (F.args_set_or_2 _ _))
  unfold Builtin.«frozenset.__or__»
  show wpAny _ _ (Builtin.Frozenset.slot1 "__or__" ⟨[.ref l, .ref r], []⟩ >>= _) _ _ s
  unfold Builtin.Frozenset.slot1 slotArgs
  refine wpAny_bind (wpAny_bind (wpAny_pure ?_))
  dsimp only
  refine wpAny_pure ?_
  dsimp only
  refine wpAny_bind ?_
  unfold andM
  refine wpAny_bind (any_T ty1 ?_)
  show wpAny _ _ (Builtin.Frozenset.isAnySet (.ref r)) _ _ s
  refine any_T ty2 ?_
  refine wp_if_neg (by simp) ?_
  refine wpAny_bind (m := Builtin.Frozenset.addrOf (.ref l)) (wpAny_pure ?_)
  have hlt : l < s.heap.objs.size := Heap.lt_size ho1
  have hrt : r < s.heap.objs.size := Heap.lt_size ho2
  refine wpAny_bind ?_
  show wpAny _ _ (Builtin.Frozenset.copyOf l >>= _) _ _ s
  refine wpAny_bind ?_
  unfold Builtin.Frozenset.copyOf Builtin.Frozenset.baseOf
  refine wpAny_bind (wpAny_bind (wpAny_isInstance (b := true) ty1 sub_set_self ?_))
  refine wpAny_pure ?_
  show wpAny _ _ (newSet (.type "set") >>= _) _ _ s
  refine wpAny_bind (wpAny_newSet_raw fun led hled => ?_)
  have TF := fresh_T (w := w) s.heap hled
  generalize hH0 : s.heap.push { cls := .type "set", dict := none, data := .set #[] 0 (.fresh 0 0 led) } = H0 at TF ⊢
  have k0 : ∀ b o, s.heap.get? b = some o → H0.get? b = some o := fun b o e => by rw [← hH0]; exact Heap.get?_push_of_some _ e
  refine wpAny_bind (m := Builtin.Frozenset.addrOf (.ref s.heap.objs.size)) (wpAny_pure ?_)
  have nl : s.heap.objs.size ≠ l := Nat.ne_of_gt hlt
  have nr : s.heap.objs.size ≠ r := Nat.ne_of_gt hrt
  have hz1 := T1.place
  refine wpAny_bind (merge_T (s := { s with heap := H0 }) (T1.at (k0 l)) TF nl (by show 0 + es1.size < 128; omega) (.inl rfl) rfl (fun _ => rfl) (fun s' Q' _ hq => wpAny_pure hq) fun h1 d1 m1 S1' sb1 R1' hm1 hf1 => ?_)
  obtain ⟨ep3, es3, t3, T3, hz3, hmk3, hdm3, h03⟩ := hf1 rfl
  refine wpAny_pure ?_
  have ty2' : ({ s with heap := h1, drawn := d1 } : Shared).TypeIs (.ref r) "set" := ⟨o2, (sb1.2 r (Ne.symm nr)).trans (k0 r o2 ho2), hx2.1⟩
  have hm3 : es3.size ≤ es1.size := by
    have q := List.Nodup.length_le_of_subset T3.nd (l₂ := es1.toList.map keyOf) fun k hk => by
      have z := (hm1 k).1 ((T3.mem k).2 hk)
      rcases z with z | z
      · cases z
      · exact (T1.mem k).1 z
    rw [List.length_map, List.length_map, Array.length_toList, Array.length_toList] at q
    exact q
  refine wp_if_pos (by simpa using Ne.symm ne) ?_
  refine wpAny_bind (m := Builtin.Frozenset.addrOf (.ref s.heap.objs.size)) (wpAny_pure ?_)
  have T2' : SetT w h1 r S2 ep2 es2 t2 := T2.at fun o e => (sb1.2 r (Ne.symm nr)).trans (k0 r o e)
  refine wpAny_bind (wpAny_holding ?_)
  unfold Builtin.Frozenset.updateFrom
  refine wpAny_bind (any_T ty2' ?_)
  refine wp_if_pos rfl ?_
  refine wpAny_bind (m := Builtin.Frozenset.addrOf (.ref r)) (wpAny_pure ?_)
  unfold Builtin.Frozenset.merge
  obtain ⟨o2', ho2', hx2', hd2'⟩ := T2'.ob
  refine wpAny_bind (wpAny_setEpoch_of (s := { s with heap := h1, drawn := d1 }) ho2' hd2' T2'.fits ?_)
  refine merge_T (s := { s with heap := h1, drawn := d1 }) T2' T3 nr (by omega) hmk3 hdm3 h03 (fun s' Q' T hq => ?_) fun h2 d2 m2 S2' sb2 R2' hm2 _ => ?_
  · obtain ⟨oj, hoj, _, hdj⟩ := T.ob
    unfold Builtin.Frozenset.unchanged
    refine wpAny_bind (wpAny_setEpoch_of hoj hdj T.fits ?_)
    refine wp_if_neg (by simp) ?_
    first | exact wpAny_pure hq | exact wpAny_bind (wpAny_pure (wpAny_pure hq))
  · refine wpAny_pure ?_
    refine wpAny_pure ⟨_, rfl, (fun z => by cases z), hQ h2 d2 s.toks m2 S2' (fun b o e => ?_) R2' fun k => ?_⟩
    · have nb : b ≠ s.heap.objs.size := Nat.ne_of_lt (Heap.lt_size e)
      exact (sb2.2 b nb).trans ((sb1.2 b nb).trans (k0 b o e))
    · rw [hm2 k, hm1 k]
      simp

theorem pairs_at {P : Program} {w : World} : ∀ {l : List DictEntry} {vs : List (Key × Value)}, Pairs (mixKind P w) l vs → l.length = vs.length ∧ ∀ (i : Nat) (e : DictEntry), l[i]? = some e → ∃ kv, vs[i]? = some kv ∧ keyIs kv.1 e.key = true
  | [], _, .nil => ⟨rfl, fun i e h => by simp at h⟩
  | _ :: l, _, .cons h1 _ t => by
    obtain ⟨hl, ih⟩ := pairs_at t
    refine ⟨by rw [List.length_cons, List.length_cons, hl], fun i e h => ?_⟩
    cases i with
    | zero =>
      simp at h
      subst h
      exact ⟨_, rfl, h1⟩
    | succ i =>
      simp at h
      obtain ⟨kv, h2, h3⟩ := ih i e h
      exact ⟨kv, by simpa using h2, h3⟩
theorem loopd_T {d : Addr} {od : Obj} {des : Array DictEntry} {f : Nat → PUnit → Sem (ForInStep PUnit)} (ne : a ≠ d) {ks : List Int} (hz : des.size = ks.length) (hn : ks.length < 128)
    (step : ∀ (i : Nat) (k : Int) (s1 : Shared) (n : Nat) (S1 : Int → Bool) (Q1 : ForInStep PUnit → Shared → Prop), ks[i]? = some k → s1.heap.get? d = some od → SetR w s1.heap a S1 n → n + 1 < scanBound →
      (∀ h' n', Heap.SameBut a s1.heap h' → SetR w h' a (fun j => S1 j || decide (j = k)) n' → n' ≤ n + 1 → Q1 (.yield ⟨⟩) { s1 with heap := h' }) → wpAny (model P w) A (f i ⟨⟩) Q1 E s1) :
    ∀ (m i : Nat) (s1 : Shared) (S1 : Int → Bool) (n : Nat) (Q : PUnit → Shared → Prop), i + m = ks.length → s1.heap.get? d = some od → SetR w s1.heap a S1 n → n ≤ i → (∀ k, S1 k = true ↔ k ∈ ks.take i) →
      (∀ h' n' S', Heap.SameBut a s1.heap h' → SetR w h' a S' n' → (∀ k, S' k = true ↔ k ∈ ks) → n' ≤ ks.length → Q ⟨⟩ { s1 with heap := h' }) → wpAny (model P w) A (forIn (List.range' i m) ⟨⟩ f) Q E s1 := by
  intro m
  induction m with
  | zero =>
    intro i s1 S1 n Q hi _ R hni hS hQ
    rw [List.range'_zero, List.forIn_nil]
    have e : i = ks.length := by omega
    subst e
    rw [List.take_length] at hS
    exact wpAny_pure (hQ s1.heap n S1 (Heap.SameBut.refl a s1.heap) R hS hni)
  | succ m ih =>
    intro i s1 S1 n Q hi hod R hni hS hQ
    have hlt : i < ks.length := by omega
    have hk : ks[i]? = some ks[i] := List.getElem?_eq_getElem hlt
    rw [List.range'_succ, List.forIn_cons]
    have hsc : scanBound = 4096 := rfl
    refine wpAny_bind (step i ks[i] s1 n S1 _ hk hod R (by omega) fun h' n' sb R' hn' => ?_)
    refine ih (i + 1) { s1 with heap := h' } _ n' Q (by omega) ((sb.2 d (Ne.symm ne)).trans hod) R' (by omega) (fun k => ?_) fun h2 n2 S2 sb2 R2 hm hz2 => hQ h2 n2 S2 (sb.trans sb2) R2 hm hz2
    rw [List.take_add_one, hk, Bool.or_eq_true, decide_eq_true_eq, hS k, List.mem_append]
    show _ ↔ _ ∨ k ∈ [ks[i]]
    rw [List.mem_singleton]
theorem updd_T {nm : String} {d : Addr} {led : Bool} {vs : List (Key × Value)} {ks : List Int} (hd : (d == sysModules) = false) (dd : s.heap.DictOf (mixKind P w) d vs) (hk : vs.map (·.1) = ks.map Sum.inl) (TF : SetT w s.heap a (fun _ => false) 0 #[] (.fresh 0 0 led)) (ne : a ≠ d) (hn : ks.length < 128)
    {Q : Unit → Shared → Prop} (hQ : ∀ h' n S', Heap.SameBut a s.heap h' → SetR w h' a S' n → (∀ k, S' k = true ↔ k ∈ ks) → n ≤ ks.length → Q () { s with heap := h' }) : wpAny (model P w) A (Builtin.Frozenset.updateFrom nm a (.ref d)) Q E s := by
  obtain ⟨o, es, ep, ho, hx, hdat, hko, hpr, hnd⟩ := id dd
  have ty : s.TypeIs (.ref d) "dict" := dd.typeIs
  obtain ⟨hl, hat⟩ := pairs_at hpr
  have hlk : vs.length = ks.length := by
    have := congrArg List.length hk
    rw [List.length_map, List.length_map] at this
    exact this
  have hsz : es.size = ks.length := by rw [← Array.length_toList, hl, hlk]
  have ent : ∀ i k, ks[i]? = some k → ∃ (e : DictEntry) (tk : Tok), es[i]? = some e ∧ e.key = Value.int k tk ∧ e.hash = hashInt k := fun i k hi => by
    have hlt : i < es.size := by rw [hsz]; exact (List.getElem?_eq_some_iff.mp hi).1
    have he : es[i]? = some es[i] := Array.getElem?_eq_getElem hlt
    obtain ⟨kv, hv, hkv⟩ := hat i es[i] (by rw [Array.getElem?_toList]; exact he)
    have hkk : kv.1 = Sum.inl k := by
      have q := congrArg (fun l => l[i]?) hk
      simp only [List.getElem?_map, hv, hi, Option.map_some, Option.some.injEq] at q
      exact q
    rw [hkk] at hkv
    obtain ⟨t, et⟩ := Value.isInt_shape (k := k) (v := es[i].key) hkv
    obtain ⟨k2, hk2, hh⟩ := hko es[i] (Array.getElem_mem hlt)
    have e2 : k2 = Sum.inl k := ((mixKind P w).inj es[i].key k2 (Sum.inl k) hk2 (show keyIs (Sum.inl k) es[i].key = true from hkv))
    exact ⟨es[i], t, he, et, by rw [hh, e2]; rfl⟩
  unfold Builtin.Frozenset.updateFrom Builtin.Frozenset.isAnySet orM
  refine wpAny_bind (wpAny_bind (wpAny_isInstance (b := false) ty F.sub_dict_set ?_))
  show wpAny _ _ (isInstance (.ref d) (.type "frozenset")) _ _ s
  refine wpAny_isInstance (b := false) ty F.sub_dict_frozenset ?_
  refine wp_if_neg Bool.false_ne_true ?_
  try refine wpAny_bind (wpAny_pure ?_)
  refine wpAny_bind (wpAny_typeOf ty ?_)
  refine wp_if_pos (by decide) ?_
  refine wpAny_bind (wpAny_rule ?_)
  refine wpAny_bind (m := Builtin.Frozenset.addrOf (.ref d)) (wpAny_pure ?_)
  refine wp_if_neg (by rw [hd]; exact Bool.false_ne_true) ?_
  try refine wpAny_bind (wpAny_pure ?_)
  refine wpAny_bind (wpAny_dictEpoch ho hdat ?_)
  refine wpAny_bind (wpAny_dictEntries ho hdat ?_)
  have hs1 : (#[] : Array (Int × Value)).size = 0 := rfl
  refine wpAny_bind (room_T TF (by omega) fun h1 ep1 es1 t1 sb1 R1 hz1 _ _ _ => ?_)
  have ho1 : h1.get? d = some o := (sb1.2 d (Ne.symm ne)).trans ho
  refine wpAny_bind (wpAny_dictEntries (s := { s with heap := h1 }) ho1 hdat ?_)
  rw [Std.Legacy.Range.forIn_eq_forIn_range']
  have hz0 : es1.size = 0 := hz1
  have emp : ∀ k, (fun _ : Int => false) k = true ↔ k ∈ ks.take 0 := fun k => by simp
  have rz : (Std.Legacy.Range.size [:es.size]) = es.size := by simp [Std.Legacy.Range.size]
  rw [rz]
  refine wpAny_bind (loopd_T (od := o) (des := es) ne hsz hn (fun i k s2 n S1 Q1 hi hod Ri hni hq => ?_) es.size 0 { s with heap := h1 } _ es1.size _ (by omega) ho1 R1.r (by omega) emp fun h' n' S' sb R' hm hz' => ?_)
  · obtain ⟨e, tk, he, hkey, hhash⟩ := ent i k hi
    try dsimp only
    refine wpAny_bind (wpAny_dictEntries hod hdat ?_)
    rw [he]
    dsimp only
    rw [hkey, hhash]
    refine wpAny_bind (wpAny_holding (setR_add_hashed (k := k) (tk := tk) Ri hni fun h' sb R' => ?_))
    refine wpAny_bind (wpAny_dictEpoch (s := { s2 with heap := h' }) ((sb.2 d (Ne.symm ne)).trans hod) hdat ?_)
    refine wp_if_neg (by simp) ?_
    try refine wpAny_bind (wpAny_pure ?_)
    refine wpAny_pure (hq h' _ sb R' ?_)
    split <;> omega
  · exact wpAny_pure (hQ h' n' S' (sb1.trans sb) R' hm hz')

theorem call_set_d {d : Addr} {vs : List (Key × Value)} {ks : List Int} (hd : (d == sysModules) = false) (dd : s.heap.DictOf (mixKind P w) d vs) (hk : vs.map (·.1) = ks.map Sum.inl) (hn : ks.length < 128)
    {Q : Value → Shared → Prop} (hQ : ∀ h' n S', (∀ b o, s.heap.get? b = some o → h'.get? b = some o) → SetR w h' s.heap.objs.size S' n → (∀ k, S' k = true ↔ k ∈ ks) → n ≤ ks.length → Q (.ref s.heap.objs.size) { s with heap := h' }) :
    wpAny (model P w) A (call (.type "set") [.ref d]) Q E s := by
  obtain ⟨c, tl, hmro⟩ := F.called_set.mro
  have hmade := F.called_set.made
  have hsub := F.called_set.sub
  refine wpAny_call (codeAny_of_tree ?_)
  show wpAny _ _ (callAny (.type "set") _) _ _ _
  refine wpAny_pure ⟨Code.quiet_builtin _ (by decide +kernel), codeAny_builtin F.entry_type_call ?_⟩
  rw [Around.under_plain (weight_type_call_type "set" [.ref d] []) rfl]
  have h1 := F.called_set.notType
  have h2 := F.called_set.canCreate
  have hct := F.typeCall_set_1 (.ref d)
  repeat (any_goals (first | assumption | wp_step))
  refine codeAny_mono (code_set_led1 (.ref d) (E := E) (Q₁ := fun obj s₁ => obj = .ref s.heap.objs.size ∧ s₁ = { s with heap := s.heap.push { cls := .type "set", dict := none, data := .set #[] 0 (.fresh 0 0 (!w.params.followText "set-order")) } }) ⟨rfl, rfl⟩) fun r s₁ hr => ?_
  have TF := fresh_T (w := w) s.heap (led := !w.params.followText "set-order") rfl
  have hlt : d < s.heap.objs.size := by
    obtain ⟨o, es, ep, ho, _⟩ := id dd
    exact Heap.lt_size ho
  have ne : s.heap.objs.size ≠ d := Nat.ne_of_gt hlt
  cases r with
  | error e => exact hr
  | ok fl =>
    cases fl with
    | ret obj =>
      obtain ⟨rfl, rfl⟩ := hr
      have k0 : ∀ b o, s.heap.get? b = some o → (s.heap.push { cls := .type "set", dict := none, data := .set #[] 0 (.fresh 0 0 (!w.params.followText "set-order")) }).get? b = some o := fun b o e => Heap.get?_push_of_some _ e
      have dd1 : (s.heap.push { cls := .type "set", dict := none, data := .set #[] 0 (.fresh 0 0 (!w.params.followText "set-order")) }).DictOf (mixKind P w) d vs := by
        obtain ⟨o, es, ep, ho, r⟩ := id dd
        exact ⟨o, es, ep, k0 d o ho, r⟩
      have hT : Shared.TypeIs { s with heap := s.heap.push { cls := .type "set", dict := none, data := .set #[] 0 (.fresh 0 0 (!w.params.followText "set-order")) } } (.ref s.heap.objs.size) "set" := ⟨_, Heap.get?_push_size _ rfl, rfl⟩
      have hli := F.called_set.init.lookup
      have hbi := F.called_set.init.bind (.ref s.heap.objs.size)
      repeat (any_goals (first | assumption | wp_step))
      refine codeAny_mono (codeAny_call_builtin (R := wants (fun r s₂ => r = .none ∧ ∃ h' n S', s₂ = { s with heap := h' } ∧ SetR w h' s.heap.objs.size S' n ∧ (∀ k, S' k = true ↔ k ∈ ks) ∧ n ≤ ks.length ∧
          (∀ b o, s.heap.get? b = some o → h'.get? b = some o)) E) F.called_set.init.plain F.entry_set_init (check_set_init_1 hT ?_)) fun r₂ s₂ hr₂ => ?_
      · generalize hUF : Builtin.Frozenset.updateFrom = UF
        unfold Builtin.«set.__init__» noKeywords
        rw [hUF]
        wp_walk
        subst hUF
        refine updd_T (s := { s with heap := s.heap.push { cls := .type "set", dict := none, data := .set #[] 0 (.fresh 0 0 (!w.params.followText "set-order")) } }) hd dd1 hk TF ne hn fun h' n S' sb R hm hn' => ?_
        exact wpAny_pure ⟨rfl, h', n, S', rfl, R, hm, hn', fun b o e => (sb.2 b (Nat.ne_of_lt (Heap.lt_size e))).trans (k0 b o e)⟩
      · cases r₂ with
        | error e => exact hr₂
        | ok fl₂ =>
          cases fl₂ with
          | ret r =>
            obtain ⟨rfl, h', n, S', rfl, hS', hm', hn', hk'⟩ := hr₂
            repeat (any_goals (first | assumption | wp_step))
            exact hQ _ _ _ hk' hS' hm' hn'
          | _ => exact hr₂.elim
    | _ => exact hr.elim
end
theorem size_of {w : World} {h : Heap} {a : Addr} {S : Int → Bool} {n : Nat} (R : SetR w h a S n) {U : List Int} (hU : ∀ k, S k = true → k ∈ U) : n ≤ U.length := by
  obtain ⟨ep, es, t, T, rfl⟩ := SetT.of R
  have q := List.Nodup.length_le_of_subset T.nd (l₂ := U) fun k hk => hU k ((T.mem k).2 hk)
  rw [List.length_map, Array.length_toList] at q
  exact q
theorem inv_same {X : Cx} {pins : List (Addr × Obj)} {σ : L2.St} {H : Hp} {s s' : Shared} (I : Inv X pins σ H s) (hh : s'.heap = s.heap) (ho : s'.os = s.os) (hb : AllBare s'.gens) : Inv X pins σ H s' :=
  ⟨I.ok, ho.trans I.os, hb, by rw [hh]; exact I.base, by rw [hh]; exact I.loc, by rw [hh]; exact I.cell, I.free, I.freeC, by rw [hh]; exact I.pin, by rw [hh]; exact I.hok, I.len⟩
theorem kv_keys {kvs : List (Key × V)} {vs : List (Key × Value)} : KV kvs vs → vs.map (·.1) = kvs.map (·.1) := by
  intro h
  induction h with
  | nil => rfl
  | cons r _ ih => rw [List.map_cons, List.map_cons, ih, r.1]
section
variable {X : Cx}
/-- set(d), d a dict of ints -/
def rSetD (w : World) : List V → Hp → VK → Prop := fun xs H Q => ∃ (a : Addr) (kvs : List (Key × V)) (ks : List Int), xs = [V.ref a] ∧ Rd H a (.dK kvs) ∧ kvs.map (·.1) = ks.map Sum.inl ∧ ks.length < 128 ∧
  ∀ (p : Addr) (S : Int → Bool) (n : Nat), H p = none → (∀ k, S k = true ↔ k ∈ ks) → n ≤ ks.length → Q (.ref p) (upd H p (SetO w p S n))
theorem cr_setD : CallR X (.type "set") (rSetD X.w) := by
  intro pins s σ H xs us Q I r h
  obtain ⟨a, kvs, ks, rfl, e, hk, hn, q⟩ := h
  cases r with
  | cons r rr =>
    cases rr
    cases r
    obtain ⟨z, hd, vs, rel, dd⟩ := dk_rd I.hok e
    refine call_set_d hd dd ((kv_keys rel).trans hk) hn fun h' n S' kp R hm hn' => ?_
    exact ⟨.ref _, upd H s.heap.objs.size (SetO X.w s.heap.objs.size S' n), I.laid (t' := s.toks) kp (Nat.le_refl _) (setO_new R), rfl, q _ S' n (I.hok.fresh (Nat.le_refl _)) hm hn'⟩
/-- l | r, two sets of ints -/
def rSetOr (w : World) : V → V → Hp → VK → Prop := fun x y H Q => ∃ (l r : Addr) (S1 S2 : Int → Bool) (n1 n2 : Nat), x = V.ref l ∧ y = V.ref r ∧ H l = some (SetO w l S1 n1) ∧ H r = some (SetO w r S2 n2) ∧ l ≠ r ∧ n1 + n2 < 128 ∧
  ∀ (p : Addr) (S : Int → Bool) (n : Nat), H p = none → (∀ k, S k = true ↔ S1 k = true ∨ S2 k = true) → (∀ U : List Int, (∀ k, S k = true → k ∈ U) → n ≤ U.length) → Q (.ref p) (upd H p (SetO w p S n))
theorem op_setOr : OpR X (binaryOp .BitOr) (rSetOr X.w) := by
  intro pins s σ H x y v u Q I rx ry h
  obtain ⟨l, r, S1, S2, n1, n2, rfl, rfl, el, er, ne, hn, q⟩ := h
  cases rx
  cases ry
  refine or_T (setO_get I el) (setO_get I er) ne hn fun h' d tk n S' kp R hm => ?_
  have J : Inv X pins σ (upd H s.heap.objs.size (SetO X.w s.heap.objs.size S' n)) { s with heap := h', toks := tk } := I.laid (t' := tk) kp (Nat.le_refl _) (setO_new R)
  exact ⟨.ref _, _, inv_same J rfl rfl J.bare, rfl, q _ S' n (I.hok.fresh (Nat.le_refl _)) hm fun U hU => size_of R hU⟩
end
end SuP
namespace LkP
open PySem PySem.Spec PyProof.Rows L2
/-- list(d.keys()) -/
def tListKeys (te : TE) : TE := fun σ H Q => te σ H fun x H1 => ∃ (d : Addr) (kvs : List (Key × V)), x = .ref d ∧ H1 d = some (.dK kvs) ∧ ∀ p, H1 p = none → Q (.ref p) (upd H1 p (.lst (kvs.map fun q => kV q.1)))
theorem vals_of {F : Nat → Value → Prop} : ∀ (vs : List Value) (xs : List V), vs.length = xs.length → (∀ (j : Nat) (v : Value) (x : V), vs[j]? = some v → xs[j]? = some x → RelV x v) → Vals xs vs
  | [], [], _, _ => .nil
  | [], _ :: _, h, _ => by cases h
  | _ :: _, [], h, _ => by cases h
  | v :: vs, x :: xs, h, r => .cons (r 0 v x rfl rfl) (vals_of (F := F) vs xs (Nat.succ.inj h) fun j v x h1 h2 => r (j + 1) v x h1 h2)
theorem pe_listKeys {X : Cx} {e : Expr} {te : TE} {p apos cpos pos : Pos} (hc : X.calm = true) (he : PE X e te) (hg : Gl X "list") (hm : X.mg "list" = none) (hv : bootBuiltins "list" = some (.type "list")) (hbase : attributeBase e "keys" X.env (eval e X.env) = eval e X.env := by rfl) (hline : (apos.endLine == cpos.line) = true := by rfl)
    (hs : starEach [.Call (.Attribute e "keys" apos) [] [] cpos] X.env = (false, eval (.Call (.Attribute e "keys" apos) [] [] cpos) X.env) :: starEach [] X.env := by rfl) :
    PE X (.Call (.Name "list" p) [.Call (.Attribute e "keys" apos) [] [] cpos] [] pos) (tListKeys te) := by
  refine ⟨fun pins s σ H Q I hq => ?_⟩
  refine wpAny_Call_Name_kw (ld_blt I hg hm hv ?_)
  refine PyProof.Rows.callWith_type1 ?_ hs rfl
  rw [hs]
  show wpAny _ _ (spliced ((false, eval (.Call (.Attribute e "keys" apos) [] [] cpos) X.env) :: backTo pos (starEach [] X.env))) _ _ s
  refine Calls.spliced_cons ?_
  refine wpAny_Call_method (T := "dict") (id := "dict.keys") hbase rfl hline F.plainAttrs_dict F.slot_dict_keys F.type_dict_keys (thn (he.run pins s σ H _ I hq) fun u s1 ⟨x, H1, I1, rx, d, kvs, ex, hd, q⟩ => ?_)
  subst ex
  obtain rfl : u = Value.ref d := rx
  obtain ⟨hz, hs0, vs, kv, hdo⟩ := I1.hok d _ hd
  obtain ⟨ep, hat⟩ := hdo.dictAt
  have lk : kvs.length = vs.length := Paired.length kv
  have I2 : Inv X pins σ H1 { s1 with heap := s1.heap.push { cls := .type "dict_keys", data := .fields #[.ref d] } } := I1.kept (t' := s1.toks) fun b ob q => Heap.get?_push_of_some _ q
  refine ⟨hdo.typeIs, hdo.mapOf.noDict, ?_⟩
  show wpAny _ _ (callWith cpos (.builtin "dict.keys") [.ref d] [] []) _ X.xe s1
  refine method_meetsIn F.slot_dict_keys F.entry_dict_keys rfl (PySem.evalArgs_none ⟨rfl, hdo.typeIs, F.args_dict_keys_1 _, _, PySem.W.kdl_meets_keys (mixKind X.prog X.w) d hs0, ⟨vs, hdo⟩, ?_⟩)
  refine Calls.spliced_nil ?_
  refine PySem.W.kdl_call (PySem.W.kdl_keys (knd := mixKind X.prog X.w) (kvs := vs) (ep := ep)) (I1.ok.hd hc) ⟨⟨_, Heap.get?_push_size _ rfl, rfl, rfl⟩, hat.push _⟩ (by omega) fun h' tk acc c hk hS hacc => ?_
  have hfr := I2.hok.fresh (Nat.le_refl _)
  have rv : Vals (kvs.map fun q => kV q.1) acc.toList := vals_of (F := fun _ _ => True) _ _ (by rw [Array.length_toList, hacc.1, List.length_map, lk]) fun j v x h1 h2 => by
    obtain ⟨k, y, e1, e2⟩ := hacc.2 j v (by rw [← Array.getElem?_toList]; exact h1)
    rw [List.getElem?_map] at h2
    obtain ⟨kv0, e3, rfl⟩ := Option.map_eq_some_iff.mp h2
    obtain ⟨q0, g1, g2, _⟩ := LiI.paired_get kv e3
    rw [e1] at g1
    cases g1
    rw [g2]
    exact relV_key (show keyIs k v = true from e2)
  have J := I2.laid (a := (s1.heap.push { cls := .type "dict_keys", data := .fields #[.ref d] }).objs.size) (o := .lst (kvs.map fun q => kV q.1)) (t' := tk) hk (Nat.le_refl _) ⟨by rw [List.length_map]; exact hz, acc.toList, c, rv, by
    rw [Array.toArray_toList]
    exact hS⟩
  exact ⟨.ref _, _, J, rfl, q _ hfr⟩
end LkP
namespace PySem.SeqAt
open AutoSeq1 (wpAny_loadPart')
open MeetsSeq MeetsSeq2 MeetsSeq3 SeqRoads2
section
variable {P : Program} {w : World} {l b : Addr} {xs ys : Array Value} {n m : Nat}
  {d1 d2 : Option Addr} {s1 s2 : Array (Option Value)}
theorem neTurns (hz : xs.size = ys.size) : ∀ k i : Nat, xs.size - i = k →
    MeetsIn P w (Builtin.«list.__eq__.loop» ⟨[.ref l, .ref b, rawInt i, rawInt 3], []⟩) (fun A R s =>
      s.heap.get? l = some { cls := .type "list", dict := d1, data := .seq xs n, slots := s1 } ∧
      s.heap.get? b = some { cls := .type "list", dict := d2, data := .seq ys m, slots := s2 } ∧
      (∀ j (u : j < xs.size) (v : j < ys.size), EqP P w A.in1 s xs[j] ys[j] true) ∧
      R (.ok (.ret (.bool false))) s) := by
  intro k
  induction k with
  | zero =>
    intro i hk A R s h
    obtain ⟨hp, g, d, tk, os⟩ := s
    obtain ⟨hl, hb, he, h⟩ := h
    wp_walk using wpAny_loadPart' hl, wpAny_loadPart' hb
    have e1 : xs[((i : Nat) : Int).toNat]? = none := by simp; omega
    have e2 : ys[((i : Nat) : Int).toNat]? = none := by simp; omega
    rw [e1, e2]
    wp_walk using wpAny_loadPart' hl, wpAny_loadPart' hb
    show R (.ok (.ret (.bool (xs.size != ys.size)))) _
    rw [hz, bne_self_eq_false]
    exact h
  | succ k ih =>
    intro i hk A R s h
    obtain ⟨hp, g, d, tk, os⟩ := s
    obtain ⟨hl, hb, he, h⟩ := h
    wp_walk using wpAny_loadPart' hl, wpAny_loadPart' hb
    have h1 : i < xs.size := by omega
    have h2 : i < ys.size := by omega
    have e1 : xs[((i : Nat) : Int).toNat]? = some xs[i] := by simp [h1]
    have e2 : ys[((i : Nat) : Int).toNat]? = some ys[i] := by simp [h2]
    have e3 : ((i : Int) + 1) = ((i + 1 : Nat) : Int) := by push_cast; rfl
    rw [e1, e2]
    refine wpAny_bind (he i h1 h2 _ _ ?_)
    wp_walk
    rw [e3]
    refine ⟨plainId_quiet plain_eq_loop _, codeAny_builtin entry_eq_loop ?_⟩
    rw [Around.under_plainId plain_eq_loop _]
    exact ih (i + 1) (by omega) A R _ ⟨hl, hb, he, h⟩
theorem neLists (hz : xs.size = ys.size) : MeetsIn P w (Builtin.«list.__ne__» ⟨[.ref l, .ref b], []⟩) (fun A R s =>
      s.heap.get? l = some { cls := .type "list", dict := d1, data := .seq xs n, slots := s1 } ∧
      s.heap.get? b = some { cls := .type "list", dict := d2, data := .seq ys m, slots := s2 } ∧
      (∀ j (u : j < xs.size) (v : j < ys.size), EqP P w A.in1 s xs[j] ys[j] true) ∧
      R (.ok (.ret (.bool false))) s) := by
  intro A R s h
  obtain ⟨hp, g, d, tk, os⟩ := s
  obtain ⟨hl, hb, he, h⟩ := h
  have f := AutoSeq1.sub_list_list
  have hn : ¬ (xs.size != ys.size) = true := by simp [hz]
  wp_walk using wpAny_loadPart' hl, wpAny_loadPart' hb
  refine ⟨plainId_quiet plain_eq_loop _, codeAny_builtin entry_eq_loop ?_⟩
  rw [Around.under_plainId plain_eq_loop _]
  exact neTurns hz _ 0 rfl A R _ ⟨hl, hb, he, h⟩
theorem rcNe {A : Around} {s : Shared} (hl : s.heap.IsList l xs) (hb : s.heap.IsList b ys) (hz : xs.size = ys.size) (hu : A.units < cLine)
    (he : ∀ j (u : j < xs.size) (v : j < ys.size), EqP P w A.in1 s xs[j] ys[j] true) (E Q : Value → Shared → Prop) (h : Q (.bool false) s) :
    wpAny (model P w) A (richCompare .NotEq (.ref l) (.ref b)) Q E s := by
  obtain ⟨⟨c1, d1, da1, s1⟩, o1, k1, n1, e1⟩ := id hl
  obtain ⟨⟨c2, d2, da2, s2⟩, o2, k2, n2, e2⟩ := id hb
  simp only at k1 e1 k2 e2
  subst k1 e1 k2 e2
  have t1 : s.TypeIs (.ref l) "list" := ⟨_, o1, rfl⟩
  have t2 : s.TypeIs (.ref b) "list" := ⟨_, o2, rfl⟩
  refine wpAny_richCompare_same_room (op := .NotEq) t1 t2 F.slot_list_ne (call_meetsIn F.slot_list_ne t1 F.entry_list_ne (F.args_list_ne_2 _ _) (neLists hz) ⟨o1, o2, he, ?_⟩) hu
  exact (show Value.bool false ≠ Value.notImplemented ∧ Q (.bool false) s from ⟨(fun x => nomatch x), h⟩)
end
end PySem.SeqAt
namespace NeV
open PySem PySem.Spec PyProof.Rows L2
section
variable {X : Cx}
/-- a != b, two lists whose items are equal -/
def rNeV (K : PySem.W.Frag) : R2 := fun x y H Q => ∃ n, n ≤ 60 ∧ (∃ a b xs ys, x = .ref a ∧ y = .ref b ∧ SqL K H a xs ∧ SqL K H b ys ∧ Paired (EqV K H n) xs ys) ∧ Q (.bl false) H
theorem op_neV (hu : X.A.units + 64 < cLine) : OpR X (compareOp .NotEq) (rNeV X.K) := by
  intro pins s σ H x y v u Q I rx ry h
  obtain ⟨n, hn, ⟨a, b, xs, ys, rfl, rfl, ha, hb, hp⟩, q⟩ := h
  cases (show v = Value.ref a from rx)
  cases (show u = Value.ref b from ry)
  obtain ⟨us, r1, p1, _⟩ := I.list ha
  obtain ⟨ws, r2, p2, _⟩ := I.list hb
  have hz : us.toArray.size = ws.toArray.size := by
    rw [List.size_toArray, List.size_toArray, ← r1.length, ← r2.length]
    exact Paired.length hp
  refine SeqAt.rcNe p1.isList p2.isList hz (by omega) (fun j h1 h2 => ?_) _ _ ⟨.bl false, H, I, rfl, q⟩
  have k := items_run (eqV_run I n X.A.in1 (by show X.A.units + 1 + n < cLine; omega)) hp r1 r2 j (by simpa using h1) (by simpa using h2)
  simpa using k
end
end NeV
namespace P1
open PySem PySem.Spec PyProof.Rows L2 NeV
/-! ### two zones of the heap: G grows and stays, the roots Ms may change -/
theorem Same.new {H : Hp} {p : Addr} {o : HO} (h : H p = none) : Same H (upd H p o) := fun b x e => by
  rw [upd_ne (ne_of_none e h)]
  exact e
theorem Same.tup {K : PySem.W.Frag} {H H' : Hp} {a : Addr} {xs : List V} (e : Same H H') (h : SqT K H a xs) : SqT K H' a xs := by
  rcases h with (h | ⟨o, h⟩) | h
  · exact .inl (.inl (e _ _ h))
  · exact .inl (.inr ⟨o, e _ _ h⟩)
  · exact .inr h
def del (G : Hp) (a : Addr) : Hp := fun b => if b = a then none else G b
theorem del_same {G : Hp} {a : Addr} : del G a a = none := by unfold del; rw [if_pos rfl]
theorem del_ne {G : Hp} {a b : Addr} (h : b ≠ a) : del G a b = G b := by unfold del; rw [if_neg h]
theorem del_some {G : Hp} {a b : Addr} {o : HO} (h : del G a b = some o) : b ≠ a ∧ G b = some o := by
  by_cases e : b = a
  · rw [e, del_same] at h; cases h
  · rw [del_ne e] at h; exact ⟨e, h⟩
theorem nd_app {α : Type} {A B : List α} (h : A.Nodup) (h2 : B.Nodup) (d : ∀ x ∈ A, x ∉ B) : (A ++ B).Nodup :=
  List.nodup_append.mpr ⟨h, h2, fun a ha b hb e => d a ha (by rw [e]; exact hb)⟩
structure St (H G : Hp) (Ms : List (Addr × HO)) : Prop where
  sub : Same G H
  ms : ∀ q ∈ Ms, H q.1 = some q.2 ∧ G q.1 = none
  nd : (Ms.map (·.1)).Nodup
section
variable {H G : Hp} {Ms : List (Addr × HO)} {p : Addr} {o : HO}
theorem St.refl : St H H [] := ⟨Same.refl H, (fun q h => by cases h), List.nodup_nil⟩
theorem St.gnone (s : St H G Ms) (h : H p = none) : G p = none := by
  cases e : G p with
  | none => rfl
  | some o => rw [s.sub _ _ e] at h; cases h
theorem St.nin (s : St H G Ms) (h : H p = none) : p ∉ Ms.map (·.1) := fun z => by
  obtain ⟨q, hq, e⟩ := List.mem_map.mp z
  have := (s.ms q hq).1
  rw [e, h] at this
  cases this
theorem St.newF (s : St H G Ms) (h : H p = none) : St (upd H p o) (upd G p o) Ms := by
  refine ⟨fun b u e => ?_, fun q hq => ?_, s.nd⟩
  · by_cases c : b = p
    · rw [c, upd_same] at e ⊢; exact e
    · rw [upd_ne c] at e ⊢; exact s.sub _ _ e
  · obtain ⟨e1, e2⟩ := s.ms q hq
    have c : q.1 ≠ p := ne_of_none e1 h
    rw [upd_ne c, upd_ne c]
    exact ⟨e1, e2⟩
theorem St.newM (s : St H G Ms) (h : H p = none) : St (upd H p o) G ((p, o) :: Ms) := by
  refine ⟨fun b u e => ?_, fun q hq => ?_, ?_⟩
  · rw [upd_ne (ne_of_none (s.sub _ _ e) h)]; exact s.sub _ _ e
  · rcases List.mem_cons.mp hq with rfl | hq
    · exact ⟨upd_same, s.gnone h⟩
    · obtain ⟨e1, e2⟩ := s.ms q hq
      rw [upd_ne (ne_of_none e1 h)]
      exact ⟨e1, e2⟩
  · rw [List.map_cons, List.nodup_cons]
    exact ⟨s.nin h, s.nd⟩
theorem St.at (s : St H G Ms) (i : Nat) (h : Ms[i]? = some (p, o)) : H p = some o := (s.ms _ (List.mem_of_getElem? h)).1
theorem St.gat (s : St H G Ms) (i : Nat) (h : Ms[i]? = some (p, o)) : G p = none := (s.ms _ (List.mem_of_getElem? h)).2
theorem St.neG (s : St H G Ms) (i : Nat) (h : Ms[i]? = some (p, o)) {b : Addr} {u : HO} (e : G b = some u) : b ≠ p := ne_of_none e (s.gat i h)
theorem nodup_set : ∀ {Ms : List (Addr × HO)} {i : Nat} {p : Addr} {o o' : HO}, Ms[i]? = some (p, o) → (Ms.set i (p, o')).map (·.1) = Ms.map (·.1)
  | [], i, _, _, _, h => by simp at h
  | q :: Ms, 0, p, o, o', h => by
    have : q = (p, o) := by simpa using h
    subst this; rfl
  | q :: Ms, i + 1, p, o, o', h => by
    have h : Ms[i]? = some (p, o) := by simpa using h
    show q.1 :: (Ms.set i (p, o')).map (·.1) = _
    rw [nodup_set h]; rfl
theorem St.put (s : St H G Ms) (i : Nat) (h : Ms[i]? = some (p, o)) {o' : HO} : St (upd H p o') G (Ms.set i (p, o')) := by
  have hp := s.at i h
  refine ⟨fun b u e => ?_, fun q hq => ?_, by rw [nodup_set h]; exact s.nd⟩
  · rw [upd_ne (s.neG i h e)]; exact s.sub _ _ e
  · rcases List.mem_or_eq_of_mem_set hq with hq' | rfl
    · by_cases c : q.1 = p
      · -- the same place: then it is the new entry
        obtain ⟨j, hj, hjq⟩ := List.getElem_of_mem hq
        have hl : j < Ms.length := by rw [List.length_set] at hj; exact hj
        have hi : i < Ms.length := (List.getElem?_eq_some_iff.mp h).1
        have e1 : ((Ms.set i (p, o')).map (·.1))[j]'(by rw [List.length_map]; exact hj) = p := by
          rw [List.getElem_map, hjq, c]
        have e2 : ((Ms.set i (p, o')).map (·.1))[i]'(by rw [List.length_map, List.length_set]; exact hi) = p := by
          rw [List.getElem_map, List.getElem_set_self]
        have nd2 : ((Ms.set i (p, o')).map (·.1)).Nodup := by rw [nodup_set h]; exact s.nd
        have ij : j = i := (List.getElem_inj nd2).mp (e1.trans e2.symm)
        subst ij
        rw [List.getElem_set_self] at hjq
        subst hjq
        exact ⟨upd_same, s.gat _ h⟩
      · obtain ⟨e1, e2⟩ := s.ms q hq'
        rw [upd_ne c]
        exact ⟨e1, e2⟩
    · exact ⟨upd_same, s.gat i h⟩
theorem St.sub' (s : St H G Ms) {Ms' : List (Addr × HO)} (h1 : ∀ q ∈ Ms', q ∈ Ms) (h2 : (Ms'.map (·.1)).Nodup) : St H G Ms' := ⟨s.sub, fun q hq => s.ms q (h1 q hq), h2⟩
theorem St.perm (s : St H G Ms) {Ms' : List (Addr × HO)} (h : Ms.Perm Ms') : St H G Ms' := s.sub' (fun q hq => h.mem_iff.mpr hq) ((h.map _).nodup_iff.mp s.nd)
theorem perm_front : ∀ {Ms : List (Addr × HO)} {i : Nat} {q : Addr × HO}, Ms[i]? = some q → Ms.Perm (q :: Ms.eraseIdx i)
  | [], i, _, h => by simp at h
  | a :: Ms, 0, q, h => by
    have : a = q := by simpa using h
    subst this; exact List.Perm.refl _
  | a :: Ms, i + 1, q, h => by
    have h : Ms[i]? = some q := by simpa using h
    exact ((perm_front h).cons a).trans (List.Perm.swap q a _)
theorem St.front (s : St H G Ms) (i : Nat) (h : Ms[i]? = some (p, o)) : St H G ((p, o) :: Ms.eraseIdx i) := s.perm (perm_front h)
theorem St.rm (s : St H G Ms) (i : Nat) (h : Ms[i]? = some (p, o)) : St H G (Ms.eraseIdx i) := by
  have z := s.front i h
  exact ⟨z.sub, fun q hq => z.ms q (List.mem_cons_of_mem _ hq), (List.nodup_cons.mp z.nd).2⟩
theorem St.frz (s : St H G Ms) (i : Nat) (h : Ms[i]? = some (p, o)) : St H (upd G p o) (Ms.eraseIdx i) := by
  have z := s.front i h
  have hn := (List.nodup_cons.mp z.nd)
  refine ⟨fun b u e => ?_, fun q hq => ?_, hn.2⟩
  · by_cases c : b = p
    · rw [c, upd_same] at e; rw [c, ← e]; exact s.at i h
    · rw [upd_ne c] at e; exact s.sub _ _ e
  · obtain ⟨e1, e2⟩ := z.ms q (List.mem_cons_of_mem _ hq)
    have c : q.1 ≠ p := fun c => hn.1 (List.mem_map.mpr ⟨q, hq, c⟩)
    exact ⟨e1, by rw [upd_ne c]; exact e2⟩
theorem St.gfrz (s : St H G Ms) (i : Nat) (h : Ms[i]? = some (p, o)) : Same G (upd G p o) := Same.new (s.gat i h)
theorem St.unfrz (s : St H G Ms) (h : G p = some o) : St H (del G p) ((p, o) :: Ms) := by
  refine ⟨fun b u e => s.sub _ _ (del_some e).2, fun q hq => ?_, ?_⟩
  · rcases List.mem_cons.mp hq with rfl | hq
    · exact ⟨s.sub _ _ h, del_same⟩
    · obtain ⟨e1, e2⟩ := s.ms q hq
      refine ⟨e1, ?_⟩
      by_cases c : q.1 = p
      · rw [c]; exact del_same
      · rw [del_ne c]; exact e2
  · rw [List.map_cons, List.nodup_cons]
    refine ⟨fun z => ?_, s.nd⟩
    obtain ⟨q, hq, e⟩ := List.mem_map.mp z
    have e : q.1 = p := e
    have := (s.ms q hq).2
    rw [e, h] at this
    cases this
end
/-- what was laid aside for a call is taken back: all that stood before stands -/
theorem same_del {G G' : Hp} {p : Addr} {o : HO} (n : G p = none) (s : Same (upd G p o) G') : Same G (del G' p) := fun b u e => by
  have c : b ≠ p := ne_of_none e n
  rw [del_ne c]
  exact s _ _ (by rw [upd_ne c]; exact e)
/-! ### what a block ends with -/
inductive Fl (ρ σ : Type) where
  | ret (r : ρ)
  | nx (s : σ)
def Fl.el {ρ σ τ : Type} : Fl ρ σ → (ρ → τ) → (σ → τ) → τ
  | .ret r, f, _ => f r
  | .nx s, _, g => g s
/-- a loop whose body may return -/
def forF {α ρ τ : Type} (f : α → τ → Option (Fl ρ τ)) : List α → τ → Option (Fl ρ τ)
  | [], s => some (.nx s)
  | a :: r, s => (f a s).bind fun x => match x with
    | .ret v => some (.ret v)
    | .nx s' => forF f r s'
/-- a loop -/
def forN {α τ : Type} (f : α → τ → Option τ) : List α → τ → Option τ
  | [], s => some s
  | a :: r, s => (f a s).bind fun s' => forN f r s'
def gd {α : Type} (c : Prop) [Decidable c] (k : Option α) : Option α := if c then k else none
theorem gd_some {α : Type} {c : Prop} [Decidable c] {k : Option α} {r : α} (h : gd c k = some r) : c ∧ k = some r := by
  unfold gd at h
  split at h
  · exact ⟨by assumption, h⟩
  · cases h
theorem gd_pos {α : Type} {c : Prop} [Decidable c] {k : Option α} (h : c) : gd c k = k := if_pos h
theorem bs {α β : Type} {a : Option α} {f : α → Option β} {r : β} (h : a.bind f = some r) : ∃ x, a = some x ∧ f x = some r := Option.bind_eq_some_iff.mp h
theorem forN_st {α τ : Type} {f : α → τ → Option τ} {a : α} {xs : List α} {i : Nat} {s out : τ} (h : forN f (xs.drop i) s = some out) (hx : xs[i]? = some a) : ∃ s', f a s = some s' ∧ forN f (xs.drop (i + 1)) s' = some out := by
  obtain ⟨hl, e⟩ := List.getElem?_eq_some_iff.mp hx
  rw [List.drop_eq_getElem_cons hl, e] at h
  exact bs h
theorem forF_st {α ρ τ : Type} {f : α → τ → Option (Fl ρ τ)} {a : α} {xs : List α} {i : Nat} {s : τ} {out : Fl ρ τ} (h : forF f (xs.drop i) s = some out) (hx : xs[i]? = some a) : ∃ fl, f a s = some fl ∧ (∀ r, fl = .ret r → out = .ret r) ∧ ∀ s', fl = .nx s' → forF f (xs.drop (i + 1)) s' = some out := by
  obtain ⟨hl, e⟩ := List.getElem?_eq_some_iff.mp hx
  rw [List.drop_eq_getElem_cons hl, e] at h
  obtain ⟨x, h1, h2⟩ := bs h
  refine ⟨x, h1, fun r er => ?_, fun s' es => ?_⟩
  · subst er
    exact (Option.some.inj h2).symm
  · subst es
    exact h2
section
variable {J : It} {n : Nat} {Gd : Hp → Prop} {Y : Nat → Hp → V → Hp → Prop}
/-- a for by its mirror -/
theorem for_mN {α τ : Type} {xs : List α} {f : α → τ → Option τ} {s0 out : τ} (w : Walk J n Gd Y) (hn : n = xs.length) (h : forN f xs s0 = some out) {g : TG} {tb : TS} {D : Ends} {σ : L2.St} {H : Hp} (I : τ → L2.St → Hp → Prop) (h0 : I s0 σ H) (hG : ∀ s σ H, I s σ H → Gd H)
    (hs : ∀ i a x s s' σ H H', xs[i]? = some a → I s σ H → Y i H x H' → f a s = some s' → g x σ H' fun σ2 H2 => tb { D with nx := I s', ct := I s', bk := D.nx } σ2 H2) (hd : ∀ σ H, I out σ H → D.nx σ H) :
    ∃ W : Nat → Nat → L2.St → Hp → Prop, (∃ m, W 0 m σ H) ∧ ∀ i m σ H, W i m σ H →
      (J.stop i H ∧ D.nx σ H) ∨ (J.go i H ∧ ∃ N : L2.St → Hp → Prop, (∀ σ' H', N σ' H' → ∃ m', m' < m ∧ W (i + 1) m' σ' H') ∧ ∀ x H', J.yld i H x H' → g x σ H' fun σ2 H2 => tb { D with nx := N, ct := N, bk := D.nx } σ2 H2) := by
  subst hn
  refine ⟨fun i m σ H => m = xs.length - i ∧ i ≤ xs.length ∧ ∃ s, forN f (xs.drop i) s = some out ∧ I s σ H, ⟨_, rfl, Nat.zero_le _, s0, h, h0⟩, ?_⟩
  rintro i m σ H ⟨rfl, hi, s, hf, hI⟩
  by_cases hlt : i < xs.length
  · have hx : xs[i]? = some xs[i] := List.getElem?_eq_getElem hlt
    obtain ⟨s', e1, e2⟩ := forN_st hf hx
    refine .inr ⟨w.goes i H hlt (hG _ _ _ hI), I s', fun σ' H' p' => ⟨xs.length - (i + 1), by omega, rfl, hlt, s', e2, p'⟩, fun x H' y => ?_⟩
    exact hs i xs[i] x s s' σ H H' hx hI (w.yields i H x H' hlt (hG _ _ _ hI) y) e1
  · have e : i = xs.length := by omega
    subst e
    rw [List.drop_length] at hf
    cases hf
    exact .inl ⟨w.stops H (hG _ _ _ hI), hd σ H hI⟩
/-- a for whose body may return, by its mirror -/
theorem for_mF {α ρ τ : Type} {xs : List α} {f : α → τ → Option (Fl ρ τ)} {s0 : τ} {out : Fl ρ τ} (w : Walk J n Gd Y) (hn : n = xs.length) (h : forF f xs s0 = some out) {g : TG} {tb : TS} {D : Ends} {σ : L2.St} {H : Hp} (I : τ → L2.St → Hp → Prop) (h0 : I s0 σ H) (hG : ∀ s σ H, I s σ H → Gd H)
    (hs : ∀ i a x s fl σ H H', xs[i]? = some a → I s σ H → Y i H x H' → f a s = some fl → (∀ r, fl = .ret r → out = .ret r) → g x σ H' fun σ2 H2 => tb { D with nx := fun σ H => ∃ s', fl = .nx s' ∧ I s' σ H, ct := fun σ H => ∃ s', fl = .nx s' ∧ I s' σ H, bk := D.nx } σ2 H2) (hd : ∀ s σ H, out = .nx s → I s σ H → D.nx σ H) :
    ∃ W : Nat → Nat → L2.St → Hp → Prop, (∃ m, W 0 m σ H) ∧ ∀ i m σ H, W i m σ H →
      (J.stop i H ∧ D.nx σ H) ∨ (J.go i H ∧ ∃ N : L2.St → Hp → Prop, (∀ σ' H', N σ' H' → ∃ m', m' < m ∧ W (i + 1) m' σ' H') ∧ ∀ x H', J.yld i H x H' → g x σ H' fun σ2 H2 => tb { D with nx := N, ct := N, bk := D.nx } σ2 H2) := by
  subst hn
  refine ⟨fun i m σ H => m = xs.length - i ∧ i ≤ xs.length ∧ ∃ s, forF f (xs.drop i) s = some out ∧ I s σ H, ⟨_, rfl, Nat.zero_le _, s0, h, h0⟩, ?_⟩
  rintro i m σ H ⟨rfl, hi, s, hf, hI⟩
  by_cases hlt : i < xs.length
  · have hx : xs[i]? = some xs[i] := List.getElem?_eq_getElem hlt
    obtain ⟨fl, e1, e2, e3⟩ := forF_st hf hx
    refine .inr ⟨w.goes i H hlt (hG _ _ _ hI), fun σ H => ∃ s', fl = .nx s' ∧ I s' σ H, fun σ' H' ⟨s', es, p'⟩ => ⟨xs.length - (i + 1), by omega, rfl, hlt, s', e3 s' es, p'⟩, fun x H' y => ?_⟩
    exact hs i xs[i] x s fl σ H H' hx hI (w.yields i H x H' hlt (hG _ _ _ hI) y) e1 e2
  · have e : i = xs.length := by omega
    subst e
    rw [List.drop_length] at hf
    cases hf
    exact .inl ⟨w.stops H (hG _ _ _ hI), hd s σ H rfl hI⟩
/-- [g x for x in xs if p x], without effects -/
theorem lc_m {α β : Type} {xs : List α} (w : Walk J n Gd Y) (hn : n = xs.length) (pp : α → Bool) (gg : α → β) {g : TG} {tt : TT} {te : TE} {vs : List Nat} {σ : L2.St} {H1 : Hp} {D : Addr} {Qd : Hp → Prop} (I : List β → Hp → Prop) (h0 : I [] (L2.upd H1 D (.lst []))) (hG : ∀ s H, I s H → Gd H)
    (hs : ∀ i a x acc H H', xs[i]? = some a → acc.length ≤ i → i < xs.length → I acc H → Y i H x H' → g x (wipe σ vs) H' fun σ2 H2 => wipe σ2 vs = wipe σ vs ∧ tt σ2 H2 fun b H3 => b = pp a ∧ 
      if b = true then te σ2 H3 fun y H4 => ∃ ac, H4 D = some (.lst ac) ∧ ac.length < sizeLine ∧ I (acc ++ [gg a]) (L2.upd H4 D (.lst (ac ++ [y]))) else I acc H3) (mono : ∀ σ H Q Q', (∀ b H1, Q b H1 → Q' b H1) → tt σ H Q → tt σ H Q') (gm : ∀ x σ H Q Q', (∀ σ H1, Q σ H1 → Q' σ H1) → g x σ H Q → g x σ H Q') (hd : ∀ H, I ((xs.filter pp).map gg) H → Qd H) :
    ∃ W : Nat → Nat → Hp → Prop, (∃ m, W 0 m (L2.upd H1 D (.lst []))) ∧ ∀ i m H, W i m H →
      (J.stop i H ∧ Qd H) ∨ (J.go i H ∧ ∃ Nx : Hp → Prop, (∀ H', Nx H' → ∃ m', m' < m ∧ W (i + 1) m' H') ∧ ∀ x H', J.yld i H x H' → g x (wipe σ vs) H' fun σ2 H2 => wipe σ2 vs = wipe σ vs ∧ tt σ2 H2 fun b H3 =>
        if b = true then te σ2 H3 fun y H4 => ∃ acc, H4 D = some (.lst acc) ∧ acc.length < sizeLine ∧ Nx (L2.upd H4 D (.lst (acc ++ [y]))) else Nx H3) := by
  subst hn
  refine ⟨fun i m H => m = xs.length - i ∧ i ≤ xs.length ∧ I (((xs.take i).filter pp).map gg) H, ⟨_, rfl, Nat.zero_le _, h0⟩, ?_⟩
  rintro i m H ⟨rfl, hi, hI⟩
  by_cases hlt : i < xs.length
  · have hx : xs[i]? = some xs[i] := List.getElem?_eq_getElem hlt
    have la : (((xs.take i).filter pp).map gg).length ≤ i := by
      rw [List.length_map]
      refine Nat.le_trans (List.length_filter_le _ _) ?_
      rw [List.length_take]
      exact Nat.min_le_left _ _
    refine .inr ⟨w.goes i H hlt (hG _ _ hI), I (((xs.take (i + 1)).filter pp).map gg), fun H' p' => ⟨xs.length - (i + 1), by omega, rfl, hlt, p'⟩, fun x H' y => ?_⟩
    refine gm _ _ _ _ _ (fun σ2 H2 hh => ⟨hh.1, mono _ _ _ _ (fun b H3 hb => ?_) hh.2⟩) (hs i xs[i] x _ H H' hx la hlt hI (w.yields i H x H' hlt (hG _ _ hI) y))
    obtain ⟨eb, hb⟩ := hb
    rw [List.take_add_one, hx, List.filter_append, List.map_append]
    cases b with
    | true =>
      have e : [xs[i]].filter pp = [xs[i]] := by simp [← eb]
      show te σ2 H3 _
      have hb : te σ2 H3 _ := hb
      have e2 : (Option.toList (some xs[i])) = [xs[i]] := rfl
      rw [e2, e]
      exact hb
    | false =>
      have e : [xs[i]].filter pp = [] := by simp [← eb]
      have e2 : (Option.toList (some xs[i])) = [xs[i]] := rfl
      rw [e2, e, List.map_nil, List.append_nil]
      exact hb
  · have e : i = xs.length := by omega
    subst e
    rw [List.take_length] at hI
    exact .inl ⟨w.stops H (hG _ _ hI), hd H hI⟩
end
/-! ### pure tests -/
def PureP (t : TT) (σ : L2.St) (H : Hp) (p : Prop) [Decidable p] : Prop := ∀ Q : Bool → Hp → Prop, Q (decide p) H → t σ H Q
theorem PureP.and {t u : TT} {σ : L2.St} {H : Hp} {p q : Prop} [Decidable p] [Decidable q] (a : PureP t σ H p) (b : PureP u σ H q) : PureP (tAnd t u) σ H (p ∧ q) := fun Q h => a _ (by
  by_cases hp : p
  · simp only [hp, decide_true, if_true]
    refine b _ ?_
    simpa [hp] using h
  · simpa [hp] using h)
theorem PureP.or {t u : TT} {σ : L2.St} {H : Hp} {p q : Prop} [Decidable p] [Decidable q] (a : PureP t σ H p) (b : PureP u σ H q) : PureP (tOr t u) σ H (p ∨ q) := fun Q h => a _ (by
  by_cases hp : p
  · simpa [hp] using h
  · simp only [hp, decide_false, Bool.false_eq_true, if_false]
    refine b _ ?_
    simpa [hp] using h)
theorem PureP.not {t : TT} {σ : L2.St} {H : Hp} {p : Prop} [Decidable p] (a : PureP t σ H p) : PureP (tNot t) σ H (¬ p) := fun Q h => a _ (by
  show Q (!decide p) H
  by_cases hp : p
  · simpa [hp] using h
  · simpa [hp] using h)
def PureE (t : TE) (σ : L2.St) (H : Hp) (v : V) : Prop := ∀ Q : VK, Q v H → t σ H Q
theorem PureE.andB {t u : TE} {σ : L2.St} {H : Hp} {p q : Prop} [Decidable p] [Decidable q] (a : PureE t σ H (.bl (decide p))) (b : PureE u σ H (.bl (decide q))) : PureE (tAndV t u) σ H (.bl (decide (p ∧ q))) := fun Q h => a _ ⟨_, rfl, by
  by_cases hp : p
  · simp only [hp, decide_true, if_true]
    refine b _ ?_
    simpa [hp] using h
  · simpa [hp] using h⟩
theorem PureE.orB {t u : TE} {σ : L2.St} {H : Hp} {p q : Prop} [Decidable p] [Decidable q] (a : PureE t σ H (.bl (decide p))) (b : PureE u σ H (.bl (decide q))) : PureE (tOrV t u) σ H (.bl (decide (p ∨ q))) := fun Q h => a _ ⟨_, rfl, by
  by_cases hp : p
  · simpa [hp] using h
  · simp only [hp, decide_false, Bool.false_eq_true, if_false]
    refine b _ ?_
    simpa [hp] using h⟩
theorem PureE.ite {c : TT} {t u : TE} {σ : L2.St} {H : Hp} {p : Prop} [Decidable p] {x y : V} (a : PureP c σ H p) (b1 : PureE t σ H x) (b2 : PureE u σ H y) : PureE (tIf c t u) σ H (if p then x else y) := fun Q h => a _ (by
  by_cases hp : p
  · simp only [hp, decide_true, if_true]
    refine b1 _ ?_
    simpa [hp] using h
  · simp only [hp, decide_false, Bool.false_eq_true, if_false]
    refine b2 _ ?_
    simpa [hp] using h)
theorem ite_int {p : Prop} [Decidable p] {x y : Int} : (if p then V.int x else V.int y) = V.int (if p then x else y) := by split <;> rfl
theorem dEq {a b : Int} : decide (V.int a = V.int b) = decide (a = b) := decide_eq_decide.mpr ⟨fun h => V.int.inj h, fun h => by rw [h]⟩
theorem dEqB {a b : Bool} : decide (V.bl a = V.bl b) = decide (a = b) := decide_eq_decide.mpr ⟨fun h => V.bl.inj h, fun h => by rw [h]⟩
theorem dNot {p : Prop} [Decidable p] : (!decide p) = decide (¬ p) := (decide_not).symm
theorem sz {n : Nat} (h : n ≤ 100000) : n ≤ sizeLine := Nat.le_trans h (by decide)
theorem szl {n : Nat} (h : n < 100000) : n < sizeLine := Nat.lt_of_lt_of_le h (by decide)
theorem ip_of {X : Cx} {op : Operator} {r : R2} (ho : OpR X (inplaceOp op) r) : PIp X op r := fun _ _ _ _ _ _ _ _ _ I rx ry q => augR ho I rx ry q
/-- len, list(..) of a list or a tuple: the rules' questions by K -/
def rLenK (K : PySem.W.Frag) : List V → Hp → VK → Prop := fun ws Hw Q => ∃ p its, ws = [V.ref p] ∧ (SqL K Hw p its ∨ SqT K Hw p its) ∧ Q (V.int its.length) Hw
def rListK (K : PySem.W.Frag) : List V → Hp → VK → Prop := fun ws Hw Q => ∃ p its, ws = [V.ref p] ∧ (SqL K Hw p its ∨ SqT K Hw p its) ∧ ∀ l, Hw l = none → Q (.ref l) (upd Hw l (.lst its))
def rTupleK (K : PySem.W.Frag) : List V → Hp → VK → Prop := fun ws Hw Q => ∃ p its, ws = [V.ref p] ∧ ((SqL K Hw p its ∧ ∀ l, Hw l = none → Q (.ref l) (upd Hw l (.tup its))) ∨ (SqT K Hw p its ∧ Q (.ref p) Hw))
/-! ### walks -/
theorem dc_it {J : It} {n : Nat} {G : Hp → Prop} {Y : Nat → Hp → V → Hp → Prop} (w : Walk J n G Y) {g : TG} {tt : TT} {tk tv : TE} {vs : List Nat} {σ : L2.St} {H1 : Hp} {D : Addr} {Qd : Hp → Prop} (Pv : Nat → Hp → Prop) (h0 : Pv 0 (L2.upd H1 D (.dK []))) (hG : ∀ i H, i ≤ n → Pv i H → G H)
    (hs : ∀ i x H H', i < n → Pv i H → Y i H x H' → g x (wipe σ vs) H' fun σ2 H2 => wipe σ2 vs = wipe σ vs ∧ tt σ2 H2 fun b H3 =>
      if b = true then tk σ2 H3 fun y H4 => tv σ2 H4 fun z H5 => ∃ kvs k, y = kV k ∧ H5 D = some (.dK kvs) ∧ kvs.length < sizeLine ∧ Pv (i + 1) (L2.upd H5 D (.dK (putK kvs k z))) else Pv (i + 1) H3) (hd : ∀ H, Pv n H → Qd H) :
    ∃ W : Nat → Nat → Hp → Prop, (∃ m, W 0 m (L2.upd H1 D (.dK []))) ∧ ∀ i m H, W i m H →
      (J.stop i H ∧ Qd H) ∨ (J.go i H ∧ ∃ Nx : Hp → Prop, (∀ H', Nx H' → ∃ m', m' < m ∧ W (i + 1) m' H') ∧ ∀ x H', J.yld i H x H' → g x (wipe σ vs) H' fun σ2 H2 => wipe σ2 vs = wipe σ vs ∧ tt σ2 H2 fun b H3 =>
        if b = true then tk σ2 H3 fun y H4 => tv σ2 H4 fun z H5 => ∃ kvs k, y = kV k ∧ H5 D = some (.dK kvs) ∧ kvs.length < sizeLine ∧ Nx (L2.upd H5 D (.dK (putK kvs k z))) else Nx H3) := by
  refine ⟨fun i m H => m = n - i ∧ i ≤ n ∧ Pv i H, ⟨n, by simp, Nat.zero_le _, h0⟩, ?_⟩
  rintro i m H ⟨rfl, hi, p⟩
  have q := hG i H hi p
  by_cases hlt : i < n
  · exact .inr ⟨w.goes i H hlt q, Pv (i + 1), fun H' p' => ⟨n - (i + 1), by omega, rfl, hlt, p'⟩, fun x H' y => hs i x H H' hlt p (w.yields i H x H' hlt q y)⟩
  · have e : i = n := by omega
    subst e
    exact .inl ⟨w.stops H q, hd H p⟩
/-! ### data by their mirrors -/
inductive All2 {α β : Type} (R : α → β → Prop) : List α → List β → Prop
  | nil : All2 R [] []
  | cons {a b as bs} : R a b → All2 R as bs → All2 R (a :: as) (b :: bs)
theorem All2.length {α β : Type} {R : α → β → Prop} : ∀ {as : List α} {bs : List β}, All2 R as bs → as.length = bs.length
  | _, _, .nil => rfl
  | _, _, .cons _ t => by rw [List.length_cons, List.length_cons, All2.length t]
theorem All2.at {α β : Type} {R : α → β → Prop} : ∀ {as : List α} {bs : List β} {i : Nat} {a : α} {b : β}, All2 R as bs → bs[i]? = some b → as[i]? = some a → R a b
  | _, _, _, _, _, .nil, h, _ => by simp at h
  | _, _, 0, a, b, .cons r t, h, h2 => by
    simp at h h2
    subst h h2
    exact r
  | _, _, i + 1, a, b, .cons r t, h, h2 => All2.at (i := i) t (by simpa using h) (by simpa using h2)
theorem All2.imp {α β : Type} {R R' : α → β → Prop} (f : ∀ a b, R a b → R' a b) : ∀ {as : List α} {bs : List β}, All2 R as bs → All2 R' as bs
  | _, _, .nil => .nil
  | _, _, .cons r t => .cons (f _ _ r) (All2.imp f t)
def encD (m : List (Int × Int)) : List (Key × V) := m.map fun kv => (Sum.inl kv.1, V.int kv.2)
def keys (m : List (Int × Int)) : List Int := m.map (·.1)
def dget (m : List (Int × Int)) (k : Int) : Option Int := (m.find? fun kv => kv.1 == k).map (·.2)
def dgD (m : List (Int × Int)) (k z : Int) : Int := (dget m k).getD z
def dput (m : List (Int × Int)) (k v : Int) : List (Int × Int) := if m.any (fun kv => kv.1 == k) then m.map (fun kv => if kv.1 == k then (kv.1, v) else kv) else m ++ [(k, v)]
def ddel (m : List (Int × Int)) (k : Int) : List (Int × Int) := m.filter fun kv => !(kv.1 == k)
def deq (a b : List (Int × Int)) : Prop := a.length = b.length ∧ ∀ p ∈ a, dget b p.1 = some p.2
instance {a b : List (Int × Int)} : Decidable (deq a b) := inferInstanceAs (Decidable (_ ∧ _))
theorem encD_len {m : List (Int × Int)} : (encD m).length = m.length := List.length_map _
theorem encD_keys (m : List (Int × Int)) : (encD m).map (·.1) = (keys m).map Sum.inl := by
  unfold encD keys
  rw [List.map_map, List.map_map]
  rfl
theorem keys_len {m : List (Int × Int)} : (keys m).length = m.length := List.length_map _
theorem keys_lt {m : List (Int × Int)} {n : Nat} (h : m.length < n) : (keys m).length < n := by rw [keys_len]; exact h
theorem enc_get : ∀ (m : List (Int × Int)) (k : Int), valV (encD m) (Sum.inl k) = (dget m k).map V.int
  | [], _ => rfl
  | (a, b) :: m, k => by
    show valV ((Sum.inl a, V.int b) :: encD m) (Sum.inl k) = _
    by_cases c : a = k
    · subst c
      rw [valV_pos (p := (Sum.inl a, V.int b)) rfl]
      unfold dget
      rw [List.find?_cons_of_pos (by simp)]
      rfl
    · have c2 : ¬ ((Sum.inl a : Key) = Sum.inl k) := fun z => c (Sum.inl.inj z)
      rw [valV_neg (p := (Sum.inl a, V.int b)) c2, enc_get m k]
      unfold dget
      rw [List.find?_cons_of_neg (by simp [c])]
theorem enc_any (m : List (Int × Int)) (k : Int) : ((encD m).any fun p => decide (p.1 = Sum.inl k)) = m.any (fun kv => kv.1 == k) := by
  unfold encD
  rw [List.any_map]
  congr 1
  funext p
  show decide ((Sum.inl p.1 : Key) = Sum.inl k) = _
  rw [key_ll]
theorem dk_put (m : List (Int × Int)) (k v : Int) : HO.dK (putK (encD m) (Sum.inl k) (V.int v)) = HO.dK (encD (dput m k v)) := by
  congr 1
  unfold putK dput
  have e := enc_any m k
  by_cases c : m.any (fun kv => kv.1 == k) = true
  · rw [if_pos c]
    rw [if_pos (e.trans c)]
    unfold encD
    rw [List.map_map, List.map_map]
    refine List.map_congr_left fun p _ => ?_
    show (if (Sum.inl p.1 : Key) = Sum.inl k then _ else _) = (fun kv : Int × Int => ((Sum.inl kv.1 : Key), V.int kv.2)) (if p.1 == k then (p.1, v) else p)
    by_cases d : p.1 = k
    · simp [d]
    · have d2 : ¬ ((Sum.inl p.1 : Key) = Sum.inl k) := fun z => d (Sum.inl.inj z)
      rw [if_neg d2]
      simp [d]
  · rw [if_neg c, if_neg (fun z => c (e.symm.trans z))]
    unfold encD
    rw [List.map_append]
    rfl
theorem dk_del (m : List (Int × Int)) (k : Int) : HO.dK (dropK (encD m) (Sum.inl k)) = HO.dK (encD (ddel m k)) := by
  congr 1
  induction m with
  | nil => rfl
  | cons p m ih =>
    show dropK ((Sum.inl p.1, V.int p.2) :: encD m) (Sum.inl k) = encD (ddel (p :: m) k)
    by_cases c : p.1 = k
    · rw [dropK_pos (by show (Sum.inl p.1 : Key) = _; rw [c]), ih]
      unfold ddel
      rw [List.filter_cons_of_neg (by simp [c])]
    · rw [dropK_neg (by show ¬ (Sum.inl p.1 : Key) = _; exact fun z => c (Sum.inl.inj z)), ih]
      unfold ddel
      rw [List.filter_cons_of_pos (by simp [c])]
      rfl
theorem lst_app {α : Type} {f : α → V} {xs ys : List α} : HO.lst (xs.map f ++ ys.map f) = HO.lst ((xs ++ ys).map f) := by rw [List.map_append]
theorem lst_snoc {α : Type} {f : α → V} (xs : List α) (x : α) : HO.lst (xs.map f ++ [f x]) = HO.lst ((xs ++ [x]).map f) := by rw [List.map_append]; rfl
theorem lst_set {α : Type} {f : α → V} (xs : List α) (i : Nat) (x : α) : HO.lst ((xs.map f).set i (f x)) = HO.lst ((xs.set i x).map f) := by rw [List.map_set]
theorem lst_keys (m : List (Int × Int)) : HO.lst ((encD m).map fun q => kV q.1) = HO.lst ((keys m).map V.int) := by
  unfold encD keys
  rw [List.map_map, List.map_map]
  rfl
def cutA {α : Type} (xs : List α) (lo hi : Option Int) : List α := (xs.drop (HT.sIx xs.length 0 lo)).take (HT.sIx xs.length xs.length hi - HT.sIx xs.length 0 lo)
theorem cutV_map {α : Type} (f : α → V) (xs : List α) (lo hi : Option Int) : cutV (xs.map f) lo hi = (cutA xs lo hi).map f := by
  unfold cutV cutA
  rw [List.length_map, List.map_take, List.map_drop]
theorem lst_cut {α : Type} {f : α → V} (xs : List α) (lo hi : Option Int) : HO.lst (cutV (xs.map f) lo hi) = HO.lst ((cutA xs lo hi).map f) := by rw [cutV_map]
theorem cutA_lo {α : Type} (xs : List α) (k : Nat) (h : k ≤ xs.length) : cutA xs none (some (k : Int)) = xs.take k := by
  unfold cutA
  rw [HT.sIx_none, HT.sIx_nat, List.drop_zero, Nat.sub_zero, Nat.min_eq_left h]
theorem cutA_hi {α : Type} (xs : List α) (k : Nat) (h : k ≤ xs.length) : cutA xs (some (k : Int)) none = xs.drop k := by
  unfold cutA
  rw [HT.sIx_none, HT.sIx_nat, Nat.min_eq_left h]
  refine List.take_of_length_le ?_
  rw [List.length_drop]
  exact Nat.le_refl _
theorem atI_map {α β : Type} (f : α → β) (xs : List α) (i : Int) : atI (xs.map f) i = (atI xs i).map f := by
  unfold atI
  rw [List.length_map]
  cases ixN xs.length i with
  | none => rfl
  | some j =>
    show (xs.map f)[j]? = Option.map f xs[j]?
    rw [List.getElem?_map]
def rng (lo : Int) (n : Nat) : List Int := (List.range n).map fun i => lo + (i : Nat)
theorem rng_len (lo : Int) (n : Nat) : n = (rng lo n).length := by
  unfold rng
  rw [List.length_map, List.length_range]
/-! ### strictly ascending lists of ints -/
def Asc (xs : List Int) : Prop := xs.Pairwise (· < ·)
theorem asc_ext : ∀ {xs ys : List Int}, Asc xs → Asc ys → (∀ k, k ∈ xs ↔ k ∈ ys) → xs = ys
  | [], [], _, _, _ => rfl
  | [], y :: ys, _, _, h => absurd ((h y).mpr List.mem_cons_self) (by simp)
  | x :: xs, [], _, _, h => absurd ((h x).mp List.mem_cons_self) (by simp)
  | x :: xs, y :: ys, hx, hy, h => by
    have hx' := List.pairwise_cons.mp hx
    have hy' := List.pairwise_cons.mp hy
    have e : x = y := by
      have h1 := (h x).mp List.mem_cons_self
      have h2 := (h y).mpr List.mem_cons_self
      rcases List.mem_cons.mp h1 with e | h1
      · exact e
      · rcases List.mem_cons.mp h2 with e | h2
        · exact e.symm
        · have := hx'.1 _ h2
          have := hy'.1 _ h1
          omega
    subst e
    congr 1
    refine asc_ext hx'.2 hy'.2 fun k => ⟨fun hk => ?_, fun hk => ?_⟩
    · rcases List.mem_cons.mp ((h k).mp (List.mem_cons_of_mem _ hk)) with e | z
      · have := hx'.1 _ hk; omega
      · exact z
    · rcases List.mem_cons.mp ((h k).mpr (List.mem_cons_of_mem _ hk)) with e | z
      · have := hy'.1 _ hk; omega
      · exact z
def ins (x : Int) : List Int → List Int
  | [] => [x]
  | y :: ys => if x < y then x :: y :: ys else if x = y then y :: ys else y :: ins x ys
def usort (xs : List Int) : List Int := xs.foldr ins []
theorem mem_ins {x k : Int} : ∀ {ys : List Int}, k ∈ ins x ys ↔ k = x ∨ k ∈ ys
  | [] => by simp [ins]
  | y :: ys => by
    unfold ins
    split
    · simp
    · split
      · rename_i h; subst h; simp
      · rw [List.mem_cons, mem_ins, List.mem_cons]
        constructor
        · rintro (h | h | h)
          · exact .inr (.inl h)
          · exact .inl h
          · exact .inr (.inr h)
        · rintro (h | h | h)
          · exact .inr (.inl h)
          · exact .inl h
          · exact .inr (.inr h)
theorem asc_ins {x : Int} : ∀ {ys : List Int}, Asc ys → Asc (ins x ys)
  | [], _ => List.pairwise_singleton _ _
  | y :: ys, h => by
    have h' := List.pairwise_cons.mp h
    unfold ins
    split
    · rename_i c
      refine List.pairwise_cons.mpr ⟨fun k hk => ?_, h⟩
      rcases List.mem_cons.mp hk with e | hk
      · omega
      · have := h'.1 _ hk; omega
    · split
      · exact h
      · refine List.pairwise_cons.mpr ⟨fun k hk => ?_, asc_ins h'.2⟩
        rcases mem_ins.mp hk with e | hk
        · omega
        · exact h'.1 _ hk
theorem usort_asc : ∀ xs : List Int, Asc (usort xs)
  | [] => List.Pairwise.nil
  | x :: xs => asc_ins (usort_asc xs)
theorem mem_usort {k : Int} : ∀ {xs : List Int}, k ∈ usort xs ↔ k ∈ xs
  | [] => Iff.rfl
  | x :: xs => by
    show k ∈ ins x (usort xs) ↔ _
    rw [mem_ins, mem_usort, List.mem_cons]
theorem us_eq {ns m : List Int} (hm : Asc m) (srt : ns.Pairwise (· < ·)) (mem : ∀ k, k ∈ ns ↔ k ∈ m) : ns = m := asc_ext srt hm mem
theorem asc_nodup {xs : List Int} (h : Asc xs) : xs.Nodup := List.Pairwise.imp (fun h => Int.ne_of_lt h) h
theorem us_len {m : List Int} {S : Int → Bool} {n : Nat} (hS : ∀ k, S k = true ↔ k ∈ m) (hz : ∀ U : List Int, (∀ k, S k = true → k ∈ U) → n ≤ U.length) : n ≤ m.length := hz m fun k h => (hS k).mp h
theorem us_or {a b : List Int} {S S1 S2 : Int → Bool} (hm : ∀ k, S k = true ↔ S1 k = true ∨ S2 k = true) (h1 : ∀ k, S1 k = true ↔ k ∈ a) (h2 : ∀ k, S2 k = true ↔ k ∈ b) : ∀ k, S k = true ↔ k ∈ usort (a ++ b) := fun k => by
  rw [mem_usort, List.mem_append, hm, h1, h2]
theorem us_keys {a : List Int} {S : Int → Bool} (hm : ∀ k, S k = true ↔ k ∈ a) : ∀ k, S k = true ↔ k ∈ usort a := fun k => by rw [mem_usort, hm]
theorem ins_len {x : Int} : ∀ {ys : List Int}, x ∉ ys → (ins x ys).length = ys.length + 1
  | [], _ => rfl
  | y :: ys, h => by
    unfold ins
    have h1 : ¬ x = y := fun e => h (by rw [e]; exact List.mem_cons_self)
    split
    · rfl
    · rw [List.length_cons, ins_len fun z => h (List.mem_cons_of_mem _ z)]; rfl
theorem usort_len : ∀ {xs : List Int}, xs.Nodup → (usort xs).length = xs.length
  | [], _ => rfl
  | x :: xs, h => by
    have h' := List.nodup_cons.mp h
    show (ins x (usort xs)).length = _
    rw [ins_len fun z => h'.1 (mem_usort.mp z), usort_len h'.2]
    rfl
theorem us_klen {a : List Int} {n : Nat} (nd : a.Nodup) (hn : n ≤ a.length) : n ≤ (usort a).length := by rw [usort_len nd]; exact hn
/-! ### sorted -/
def sins (x : Int) : List Int → List Int
  | [] => [x]
  | y :: ys => if x ≤ y then x :: y :: ys else y :: sins x ys
def isort (xs : List Int) : List Int := xs.foldr sins []
theorem sins_perm {x : Int} : ∀ {ys : List Int}, (sins x ys).Perm (x :: ys)
  | [] => List.Perm.refl _
  | y :: ys => by
    unfold sins
    split
    · exact List.Perm.refl _
    · exact (sins_perm.cons y).trans (List.Perm.swap x y ys)
theorem isort_perm : ∀ xs : List Int, (isort xs).Perm xs
  | [] => List.Perm.refl _
  | x :: xs => (sins_perm).trans ((isort_perm xs).cons x)
theorem sins_srt {x : Int} : ∀ {ys : List Int}, ys.Pairwise (· ≤ ·) → (sins x ys).Pairwise (· ≤ ·)
  | [], _ => List.pairwise_singleton _ _
  | y :: ys, h => by
    have h' := List.pairwise_cons.mp h
    unfold sins
    split
    · rename_i c
      refine List.pairwise_cons.mpr ⟨fun k hk => ?_, h⟩
      rcases List.mem_cons.mp hk with e | hk
      · omega
      · have := h'.1 _ hk; omega
    · refine List.pairwise_cons.mpr ⟨fun k hk => ?_, sins_srt h'.2⟩
      rcases List.mem_cons.mp (sins_perm.mem_iff.mp hk) with e | hk
      · omega
      · exact h'.1 _ hk
theorem isort_srt : ∀ xs : List Int, (isort xs).Pairwise (· ≤ ·)
  | [] => List.Pairwise.nil
  | x :: xs => sins_srt (isort_srt xs)
theorem srt_ext : ∀ {xs ys : List Int}, xs.Perm ys → xs.Pairwise (· ≤ ·) → ys.Pairwise (· ≤ ·) → xs = ys := fun {xs ys} p h1 h2 =>
  List.Perm.eq_of_pairwise (le := fun a b : Int => a ≤ b) (fun a b _ _ h h' => Int.le_antisymm h h') h1 h2 p
theorem isort_eq {ns xs : List Int} (p : ns.Perm xs) (h : ns.Pairwise (· ≤ ·)) : ns = isort xs := srt_ext (p.trans (isort_perm xs).symm) h (isort_srt xs)
/-! ### the questions of the rules, by mirrors -/
section
variable {K : PySem.W.Frag} {H : Hp} {Q : VK} {p p' : Addr}
theorem ndec {c : Prop} [Decidable c] (h : ¬ (decide c = true)) : ¬ c := fun z => h (decide_eq_true z)
theorem el_ret {ρ σ τ : Type} {r : ρ} {f : ρ → τ} {g : σ → τ} {x : τ} (h : Fl.el (.ret r) f g = x) : f r = x := h
theorem el_nx {ρ σ τ : Type} {s : σ} {f : ρ → τ} {g : σ → τ} {x : τ} (h : Fl.el (.nx s) f g = x) : g s = x := h
theorem isD {m : List (Key × V)} (h : Rd H p (.dK m)) : IsD H p := .inl ⟨m, h⟩
theorem Rd.same {H' : Hp} {o : HO} (s : Same H H') (h : Rd H p o) : Rd H' p o := h.elim (fun h => .inl (s _ _ h)) fun ⟨o, h⟩ => .inr ⟨o, s _ _ h⟩
def RdD (H : Hp) (x : V) (m : List (Int × Int)) : Prop := ∃ p, x = .ref p ∧ Rd H p (.dK (encD m))
theorem q_get2 {m : List (Int × Int)} {k z : Int} (h : Rd H p (.dK (encD m))) (q : Q (.int (dgD m k z)) H) : ∃ o, DGet H p (.int k) o ∧ Q (o.getD (.int z)) H := by
  refine ⟨valV (encD m) (Sum.inl k), .inl ⟨_, Sum.inl k, h, rfl, rfl⟩, ?_⟩
  rw [enc_get]
  have e : ((dget m k).map V.int).getD (V.int z) = V.int (dgD m k z) := by
    unfold dgD
    cases dget m k <;> rfl
  rw [e]
  exact q
theorem q_dget {m : List (Int × Int)} {k v : Int} (h : Rd H p (.dK (encD m))) (e : dget m k = some v) (q : Q (.int v) H) : ∃ a w, V.ref p = .ref a ∧ DGet H a (.int k) (some w) ∧ Q w H :=
  ⟨p, .int v, rfl, .inl ⟨_, Sum.inl k, h, rfl, by rw [enc_get, e]; rfl⟩, q⟩
theorem q_len {α : Type} {f : α → V} {xs : List α} (h : SqL K H p (xs.map f)) (q : Q (.int xs.length) H) : rLenK K [.ref p] H Q := ⟨p, _, rfl, .inl h, by rw [List.length_map]; exact q⟩
theorem q_lenT {α : Type} {f : α → V} {xs : List α} (h : SqT K H p (xs.map f)) (q : Q (.int xs.length) H) : rLenK K [.ref p] H Q := ⟨p, _, rfl, .inr h, by rw [List.length_map]; exact q⟩
theorem q_lenA {α β : Type} {R : V → β → Prop} {vs : List V} {xs : List β} (h : SqL K H p vs) (a : All2 R vs xs) (q : Q (.int xs.length) H) : rLenK K [.ref p] H Q := ⟨p, _, rfl, .inl h, by rw [a.length]; exact q⟩
theorem q_lenD {m : List (Int × Int)} (h : H p = some (.dK (encD m))) (q : Q (.int m.length) H) : ∃ a kvs, [V.ref p] = [V.ref a] ∧ H a = some (.dK kvs) ∧ Q (.int kvs.length) H := ⟨p, _, rfl, h, by rw [encD_len]; exact q⟩
theorem q_ix {α : Type} {f : α → V} {xs : List α} {i : Int} {x : α} (h : SqL K H p (xs.map f)) (e : atI xs i = some x) (q : Q (f x) H) : rIxL K (.ref p) (.int i) H Q := ⟨p, _, i, f x, rfl, rfl, h, by rw [atI_map, e]; rfl, q⟩
theorem q_app {xs : List V} {n : Nat} {v : V} {α : Type} {f : α → V} {ys : List α} (h : H p = some (.lst (ys.map f))) (hn : ys.length < 100000) (q : Q .non (L2.upd H p (.lst (ys.map f ++ [v])))) : rAppend (.ref p) [v] H Q := ⟨p, _, v, rfl, rfl, h, szl (by rw [List.length_map]; exact hn), q⟩
theorem q_cat {α : Type} {f : α → V} {xs ys : List α} (h : H p = some (.lst (xs.map f))) (h' : H p' = some (.lst (ys.map f))) (hn : xs.length + ys.length < 100000) (q : ∀ l, H l = none → Q (.ref l) (L2.upd H l (.lst (xs.map f ++ ys.map f)))) : rCat (.ref p) (.ref p') H Q :=
  ⟨p, p', _, _, rfl, rfl, h, h', sz (by rw [List.length_map, List.length_map]; omega), q⟩
theorem inV_ints (k : Int) (xs : List Int) : inV (.int k) (xs.map V.int) = decide (k ∈ xs) := by
  unfold inV
  rw [List.any_map]
  rw [Bool.eq_iff_iff, List.any_eq_true, decide_eq_true_iff]
  constructor
  · rintro ⟨y, hy, e⟩
    have e : (y == k) = true := e
    rw [← eq_of_beq e]; exact hy
  · intro h
    exact ⟨k, h, beq_self_eq_true k⟩
theorem flat_ints (xs : List Int) : (xs.map V.int).all flatV = true := by
  rw [List.all_map]; exact List.all_eq_true.mpr fun _ _ => rfl
theorem q_inI {k : Int} {xs : List Int} (h : SqL K H p (xs.map V.int)) (q : Q (.bl (decide (k ∈ xs))) H) : rIn K false (.int k) (.ref p) H Q := ⟨p, _, rfl, .inl h, rfl, flat_ints xs, by
  show Q (.bl (inV (.int k) (xs.map V.int))) H
  rw [inV_ints]; exact q⟩
theorem q_ninI {k : Int} {xs : List Int} (h : SqL K H p (xs.map V.int)) (q : Q (.bl (decide (¬ (k ∈ xs)))) H) : rIn K true (.int k) (.ref p) H Q := ⟨p, _, rfl, .inl h, rfl, flat_ints xs, by
  show Q (.bl (!inV (.int k) (xs.map V.int))) H
  rw [inV_ints, dNot]; exact q⟩
theorem mem_keys {m : List (Int × Int)} {k : Int} : k ∈ keys m ↔ ∃ v, dget m k = some v := by
  unfold keys dget
  constructor
  · intro h
    obtain ⟨kv, h1, h2⟩ := List.mem_map.mp h
    cases e : m.find? (fun kv => kv.1 == k) with
    | some w => exact ⟨w.2, rfl⟩
    | none =>
      have := List.find?_eq_none.mp e kv h1
      simp [h2] at this
  · rintro ⟨v, h⟩
    obtain ⟨w, h1, h2⟩ := Option.map_eq_some_iff.mp h
    have := List.find?_some h1
    exact List.mem_map.mpr ⟨w, List.mem_of_find?_eq_some h1, eq_of_beq this⟩
theorem some_keys {m : List (Int × Int)} {k : Int} : ((dget m k).map V.int).isSome = decide (k ∈ keys m) := by
  rw [Bool.eq_iff_iff, decide_eq_true_iff, mem_keys]
  cases dget m k with
  | none => simp
  | some v => simp
theorem q_inD {m : List (Int × Int)} {k : Int} (h : Rd H p (.dK (encD m))) (q : Q (.bl (decide (k ∈ keys m))) H) : ∃ a o, V.ref p = .ref a ∧ DGet H a (.int k) o ∧ Q (.bl o.isSome) H :=
  ⟨p, _, rfl, .inl ⟨_, Sum.inl k, h, rfl, rfl⟩, by rw [enc_get, some_keys]; exact q⟩
theorem q_ninD {m : List (Int × Int)} {k : Int} (h : Rd H p (.dK (encD m))) (q : Q (.bl (decide (¬ (k ∈ keys m)))) H) : ∃ a o, V.ref p = .ref a ∧ DGet H a (.int k) o ∧ Q (.bl (!o.isSome)) H :=
  ⟨p, _, rfl, .inl ⟨_, Sum.inl k, h, rfl, rfl⟩, by rw [enc_get, some_keys, dNot]; exact q⟩
theorem deq_spec {a b : List (Int × Int)} (h : deq a b) : (encD a).length = (encD b).length ∧ ∀ q ∈ encD a, valV (encD b) q.1 = some q.2 ∧ flatB q.2 = true := by
  refine ⟨by rw [encD_len, encD_len]; exact h.1, fun q hq => ?_⟩
  obtain ⟨kv, h1, rfl⟩ := List.mem_map.mp hq
  refine ⟨?_, rfl⟩
  show valV (encD b) (Sum.inl kv.1) = some (V.int kv.2)
  rw [enc_get, h.2 kv h1]
  rfl
theorem q_eqDA {a b : List (Int × Int)} (h : H p = some (.dK (encD a))) (h' : H p' = some (.dK (encD b))) (e : deq a b) (q : Q (.bl true) H) : rEqDA (.ref p) (.ref p') H Q := ⟨p, p', _, _, rfl, rfl, h, h', (deq_spec e).1, (deq_spec e).2, q⟩
theorem q_neDA {a b : List (Int × Int)} (h : H p = some (.dK (encD a))) (h' : H p' = some (.dK (encD b))) (e : deq a b) (q : Q (.bl false) H) : rNeDA (.ref p) (.ref p') H Q := ⟨p, p', _, _, rfl, rfl, h, h', (deq_spec e).1, (deq_spec e).2, q⟩
/-! == of lists of ints -/
def pdL (xs : List Int) : PyData := .list (xs.map PyData.int)
theorem dp_ints : ∀ xs : List Int, DpAll K H (xs.map V.int) (xs.map PyData.int)
  | [] => .nil
  | x :: xs => .cons (.int x) (dp_ints xs)
theorem dpL {xs : List Int} (h : SqL K H p (xs.map V.int)) : Dp K H (.ref p) (pdL xs) := .lst h (dp_ints xs)
theorem lay_ints : ∀ xs : List Int, PyData.canLayAll0 (xs.map PyData.int) = true ∧ PyData.depthAll (xs.map PyData.int) ≤ 5
  | [] => ⟨rfl, Nat.zero_le _⟩
  | b :: r => by
    obtain ⟨h1, h2⟩ := lay_ints r
    constructor
    · simp only [List.map_cons, PyData.canLayAll0, PyData.canLay0, Bool.true_and]; exact h1
    · simp only [List.map_cons, PyData.depthAll, PyData.depth]; omega
theorem shapedL (xs : List Int) : SeqAt.shaped (pdL xs) = true := by
  obtain ⟨h1, h2⟩ := lay_ints xs
  unfold SeqAt.shaped pdL
  simp only [PyData.canLay0, PyData.depth, h1, Bool.true_and]
  exact decide_eq_true (by omega)
theorem eqv_ints : ∀ xs ys : List Int, PyData.eqvAll (xs.map PyData.int) (ys.map PyData.int) = decide (xs = ys)
  | [], [] => by simp [PyData.eqvAll]
  | [], y :: ys => by simp [PyData.eqvAll]
  | x :: xs, [] => by simp [PyData.eqvAll]
  | x :: xs, y :: ys => by
    have ih := eqv_ints xs ys
    simp only [List.map_cons, PyData.eqvAll, PyData.eqv, ih]
    by_cases c : x = y
    · subst c; simp
    · simp [c]
theorem eqvL (xs ys : List Int) : PyData.eqv (pdL xs) (pdL ys) = decide (xs = ys) := by
  unfold pdL
  rw [PyData.eqv]
  exact eqv_ints xs ys
theorem q_eqL {xs ys : List Int} (h : SqL K H p (xs.map V.int)) (h' : SqL K H p' (ys.map V.int)) (q : Q (.bl (decide (xs = ys))) H) : rEqD K (.ref p) (.ref p') H Q := ⟨_, _, dpL h, dpL h', shapedL _, shapedL _, by rw [eqvL]; exact q⟩
theorem q_neL {xs ys : List Int} (h : SqL K H p (xs.map V.int)) (h' : SqL K H p' (ys.map V.int)) (q : Q (.bl (decide (¬ (xs = ys)))) H) : rNeD K (.ref p) (.ref p') H Q := ⟨_, _, dpL h, dpL h', shapedL _, shapedL _, by rw [eqvL, dNot]; exact q⟩
/-! isinstance -/
theorem tyx_list {xs : List V} (h : H p = some (.lst xs)) : TyX K H (.ref p) (.type "list") := .base (.lst h)
theorem tyx_listS {xs : List V} (h : SqL K H p xs) : TyX K H (.ref p) (.type "list") := by
  rcases h with (h | ⟨o, h⟩) | ⟨o, its, n, h1, h2, _⟩
  · exact .base (.lst h)
  · exact .base (.frz h)
  · exact .kList h1 h2
theorem tyx_tupS {xs : List V} (h : SqT K H p xs) : TyX K H (.ref p) (.type "tuple") := by
  rcases h with (h | ⟨o, h⟩) | ⟨o, its, n, h1, h2, _⟩
  · exact .base (.tup h)
  · exact .fTuple h
  · exact .kTuple h1 h2
theorem tyx_dict {kvs : List (Key × V)} (h : Rd H p (.dK kvs)) : TyX K H (.ref p) (.type "dict") := by
  rcases h with h | ⟨o, h⟩
  · exact .base (.dK h)
  · exact .fDict h
/-! walks -/
theorem rng_y {i n : Nat} {lo a : Int} {x : V} {H H' : Hp} (hx : (rng lo n)[i]? = some a) (hy : YFn (fun i => .int (lo + (i : Nat))) i H x H') : H' = H ∧ x = V.int a := by
  refine ⟨hy.1, ?_⟩
  unfold rng at hx
  rw [List.getElem?_map] at hx
  obtain ⟨j, h1, rfl⟩ := Option.map_eq_some_iff.mp hx
  obtain ⟨h2, h3⟩ := List.getElem?_eq_some_iff.mp h1
  rw [List.getElem_range] at h3
  rw [hy.2, h3]
theorem flat_y {α : Type} {f : α → V} {xs : List α} {i : Nat} {a : α} {x : V} {H H' : Hp} (hx : xs[i]? = some a) (hy : YAt (xs.map f) i H x H') : H' = H ∧ x = f a := by
  refine ⟨hy.1, ?_⟩
  have h := hy.2
  rw [List.getElem?_map, hx] at h
  exact (Option.some.inj h).symm
theorem rev_y {α : Type} {f : α → V} {xs : List α} {i : Nat} {a : α} {x : V} {H H' : Hp} (hx : xs.reverse[i]? = some a) (hy : H' = H ∧ (xs.map f)[(xs.map f).length - 1 - i]? = some x) : H' = H ∧ x = f a := by
  refine ⟨hy.1, ?_⟩
  have hl : i < xs.length := by
    have := (List.getElem?_eq_some_iff.mp hx).1
    rwa [List.length_reverse] at this
  rw [List.getElem?_reverse hl] at hx
  have h := hy.2
  rw [List.length_map, List.getElem?_map, hx] at h
  exact (Option.some.inj h).symm
theorem keys_y {m : List (Int × Int)} {i : Nat} {a : Int} {x : V} {H H' : Hp} (hx : (keys m)[i]? = some a) (hy : H' = H ∧ ∃ k v, (encD m)[i]? = some (k, v) ∧ x = kV k) : H' = H ∧ x = V.int a := by
  refine ⟨hy.1, ?_⟩
  obtain ⟨k, v, h1, h2⟩ := hy.2
  unfold keys at hx
  unfold encD at h1
  rw [List.getElem?_map] at hx h1
  obtain ⟨kv, e1, rfl⟩ := Option.map_eq_some_iff.mp hx
  rw [e1] at h1
  cases h1
  exact h2
end
section
variable {J : It} {n : Nat} {Gd : Hp → Prop} {Y : Nat → Hp → V → Hp → Prop}
/-- [gg x for x in xs], nothing changes meanwhile -/
theorem lc_map {α β : Type} {xs : List α} (w : Walk J n Gd Y) (hn : n = xs.length) (gg : α → β) (enc : β → V) (Rx : α → V → Prop) {j : Nat} {te : TE} {vs : List Nat} {σ : L2.St} {H1 : Hp} {Qd : Addr → Hp → Prop}
    (hy : ∀ {i a x H H'}, xs[i]? = some a → Y i H x H' → H' = H ∧ Rx a x) (hG : ∀ D acc, H1 D = none → Gd (L2.upd H1 D (.lst acc))) (hw : ∀ x, wipe ((wipe σ vs).set j (some x)) vs = wipe σ vs) (hz : xs.length ≤ sizeLine)
    (he : ∀ D acc a x, H1 D = none → a ∈ xs → Rx a x → PureE te ((wipe σ vs).set j (some x)) (L2.upd H1 D (.lst acc)) (enc (gg a))) (q : ∀ D, H1 D = none → Qd D (L2.upd H1 D (.lst ((xs.map gg).map enc)))) :
    ∀ D, H1 D = none → ∃ W : Nat → Nat → Hp → Prop, (∃ m, W 0 m (L2.upd H1 D (.lst []))) ∧ ∀ i m H, W i m H →
      (J.stop i H ∧ Qd D H) ∨ (J.go i H ∧ ∃ Nx : Hp → Prop, (∀ H', Nx H' → ∃ m', m' < m ∧ W (i + 1) m' H') ∧ ∀ x H', J.yld i H x H' → gName j x (wipe σ vs) H' fun σ2 H2 => wipe σ2 vs = wipe σ vs ∧ tYes σ2 H2 fun b H3 =>
        if b = true then te σ2 H3 fun y H4 => ∃ acc, H4 D = some (.lst acc) ∧ acc.length < sizeLine ∧ Nx (L2.upd H4 D (.lst (acc ++ [y]))) else Nx H3) := by
  intro D hD
  refine lc_it w (fun i H => H = L2.upd H1 D (.lst (((xs.take i).map gg).map enc))) (by simp) (fun i H _ h => by rw [h]; exact hG D _ hD) ?_ (fun H h => by rw [h, hn, List.take_length]; exact q D hD)
  intro i x H H' hi h y
  have hl : i < xs.length := by omega
  obtain ⟨e1, r⟩ := hy (List.getElem?_eq_getElem hl) y
  subst e1
  refine ⟨hw x, ?_⟩
  show te _ H' _
  subst h
  refine he D _ _ x hD (List.getElem_mem hl) r _ ⟨_, upd_same, ?_, ?_⟩
  · rw [List.length_map, List.length_map, List.length_take]; omega
  · rw [upd_upd, List.take_add_one, List.getElem?_eq_getElem hl, List.map_append, List.map_append]
    rfl
/-- [gg x for x in xs if p x] -/
theorem lc_filt {α β : Type} {xs : List α} {pp : α → Prop} [DecidablePred pp] (w : Walk J n Gd Y) (hn : n = xs.length) (gg : α → β) (enc : β → V) (Rx : α → V → Prop) {j : Nat} {tt : TT} {te : TE} {vs : List Nat} {σ : L2.St} {H1 : Hp} {Qd : Addr → Hp → Prop}
    (hy : ∀ {i a x H H'}, xs[i]? = some a → Y i H x H' → H' = H ∧ Rx a x) (hG : ∀ D acc, H1 D = none → Gd (L2.upd H1 D (.lst acc))) (hw : ∀ x, wipe ((wipe σ vs).set j (some x)) vs = wipe σ vs) (hz : xs.length ≤ sizeLine)
    (ht : ∀ D acc a x, H1 D = none → a ∈ xs → Rx a x → PureP tt ((wipe σ vs).set j (some x)) (L2.upd H1 D (.lst acc)) (pp a))
    (he : ∀ D acc a x, H1 D = none → a ∈ xs → Rx a x → PureE te ((wipe σ vs).set j (some x)) (L2.upd H1 D (.lst acc)) (enc (gg a))) (q : ∀ D, H1 D = none → Qd D (L2.upd H1 D (.lst (((xs.filter fun a => decide (pp a)).map gg).map enc)))) :
    ∀ D, H1 D = none → ∃ W : Nat → Nat → Hp → Prop, (∃ m, W 0 m (L2.upd H1 D (.lst []))) ∧ ∀ i m H, W i m H →
      (J.stop i H ∧ Qd D H) ∨ (J.go i H ∧ ∃ Nx : Hp → Prop, (∀ H', Nx H' → ∃ m', m' < m ∧ W (i + 1) m' H') ∧ ∀ x H', J.yld i H x H' → gName j x (wipe σ vs) H' fun σ2 H2 => wipe σ2 vs = wipe σ vs ∧ tt σ2 H2 fun b H3 =>
        if b = true then te σ2 H3 fun y H4 => ∃ acc, H4 D = some (.lst acc) ∧ acc.length < sizeLine ∧ Nx (L2.upd H4 D (.lst (acc ++ [y]))) else Nx H3) := by
  intro D hD
  refine lc_it w (fun i H => H = L2.upd H1 D (.lst ((((xs.take i).filter fun a => decide (pp a)).map gg).map enc))) (by simp) (fun i H _ h => by rw [h]; exact hG D _ hD) ?_ (fun H h => by rw [h, hn, List.take_length]; exact q D hD)
  intro i x H H' hi h y
  have hl : i < xs.length := by omega
  obtain ⟨e1, r⟩ := hy (List.getElem?_eq_getElem hl) y
  subst e1
  refine ⟨hw x, ?_⟩
  subst h
  refine ht D _ _ x hD (List.getElem_mem hl) r _ ?_
  have e2 : (xs.take (i + 1)).filter (fun a => decide (pp a)) = (xs.take i).filter (fun a => decide (pp a)) ++ (if pp xs[i] then [xs[i]] else []) := by
    rw [List.take_add_one, List.getElem?_eq_getElem hl, List.filter_append]
    congr 1
    by_cases c : pp xs[i]
    · simp [c]
    · simp [c]
  by_cases c : pp xs[i]
  · simp only [c, decide_true, if_true]
    refine he D _ _ x hD (List.getElem_mem hl) r _ ⟨_, upd_same, ?_, ?_⟩
    · have := List.length_filter_le (fun a => decide (pp a)) (xs.take i)
      rw [List.length_map, List.length_map]
      rw [List.length_take] at this
      omega
    · rw [upd_upd, e2, if_pos c, List.map_append, List.map_append]
      rfl
  · simp only [c, decide_false, Bool.false_eq_true, if_false]
    rw [e2, if_neg c, List.append_nil]
theorem putK_new {kvs : List (Int × Int)} {k v : Int} (h : k ∉ keys kvs) : putK (encD kvs) (Sum.inl k) (V.int v) = encD (kvs ++ [(k, v)]) := by
  have := dk_put kvs k v
  have e := HO.dK.inj this
  rw [e]
  unfold dput
  rw [if_neg]
  intro z
  obtain ⟨kv, h1, h2⟩ := List.any_eq_true.mp z
  exact h (List.mem_map.mpr ⟨kv, h1, eq_of_beq h2⟩)
/-- {k: v for x in xs if p x}, the keys unlike -/
theorem dc_filt {α : Type} {xs : List α} {pp : α → Prop} [DecidablePred pp] (w : Walk J n Gd Y) (hn : n = xs.length) (gg : α → Int × Int) (Rx : α → V → Prop) {j : Nat} {tt : TT} {tk tv : TE} {vs : List Nat} {σ : L2.St} {H1 : Hp} {Qd : Addr → Hp → Prop}
    (hy : ∀ {i a x H H'}, xs[i]? = some a → Y i H x H' → H' = H ∧ Rx a x) (hG : ∀ D acc, H1 D = none → Gd (L2.upd H1 D (.dK acc))) (hw : ∀ x, wipe ((wipe σ vs).set j (some x)) vs = wipe σ vs) (hz : xs.length ≤ sizeLine)
    (nd : (((xs.filter fun a => decide (pp a)).map gg).map (·.1)).Nodup)
    (ht : ∀ D acc a x, H1 D = none → a ∈ xs → Rx a x → PureP tt ((wipe σ vs).set j (some x)) (L2.upd H1 D (.dK acc)) (pp a))
    (hk : ∀ D acc a x, H1 D = none → a ∈ xs → Rx a x → PureE tk ((wipe σ vs).set j (some x)) (L2.upd H1 D (.dK acc)) (.int (gg a).1))
    (he : ∀ D acc a x, H1 D = none → a ∈ xs → Rx a x → PureE tv ((wipe σ vs).set j (some x)) (L2.upd H1 D (.dK acc)) (.int (gg a).2)) (q : ∀ D, H1 D = none → Qd D (L2.upd H1 D (.dK (encD ((xs.filter fun a => decide (pp a)).map gg))))) :
    ∀ D, H1 D = none → ∃ W : Nat → Nat → Hp → Prop, (∃ m, W 0 m (L2.upd H1 D (.dK []))) ∧ ∀ i m H, W i m H →
      (J.stop i H ∧ Qd D H) ∨ (J.go i H ∧ ∃ Nx : Hp → Prop, (∀ H', Nx H' → ∃ m', m' < m ∧ W (i + 1) m' H') ∧ ∀ x H', J.yld i H x H' → gName j x (wipe σ vs) H' fun σ2 H2 => wipe σ2 vs = wipe σ vs ∧ tt σ2 H2 fun b H3 =>
        if b = true then tk σ2 H3 fun y H4 => tv σ2 H4 fun z H5 => ∃ kvs k, y = kV k ∧ H5 D = some (.dK kvs) ∧ kvs.length < sizeLine ∧ Nx (L2.upd H5 D (.dK (putK kvs k z))) else Nx H3) := by
  intro D hD
  refine dc_it w (fun i H => H = L2.upd H1 D (.dK (encD (((xs.take i).filter fun a => decide (pp a)).map gg)))) (by simp; rfl) (fun i H _ h => by rw [h]; exact hG D _ hD) ?_ (fun H h => by rw [h, hn, List.take_length]; exact q D hD)
  intro i x H H' hi h y
  have hl : i < xs.length := by omega
  have hm : xs[i] ∈ xs := List.getElem_mem hl
  obtain ⟨e1, r⟩ := hy (List.getElem?_eq_getElem hl) y
  subst e1
  refine ⟨hw x, ?_⟩
  subst h
  refine ht D _ _ x hD hm r _ ?_
  have e2 : (xs.take (i + 1)).filter (fun a => decide (pp a)) = (xs.take i).filter (fun a => decide (pp a)) ++ (if pp xs[i] then [xs[i]] else []) := by
    rw [List.take_add_one, List.getElem?_eq_getElem hl, List.filter_append]
    congr 1
    by_cases c : pp xs[i]
    · simp [c]
    · simp [c]
  by_cases c : pp xs[i]
  · simp only [c, decide_true, if_true]
    refine hk D _ _ x hD hm r _ (he D _ _ x hD hm r _ ⟨_, Sum.inl (gg xs[i]).1, rfl, upd_same, ?_, ?_⟩)
    · have := List.length_filter_le (fun a => decide (pp a)) (xs.take i)
      rw [encD_len, List.length_map]
      rw [List.length_take] at this
      omega
    · have nk : (gg xs[i]).1 ∉ keys (((xs.take i).filter fun a => decide (pp a)).map gg) := fun z => by
        have e3 : xs.filter (fun a => decide (pp a)) = (xs.take (i + 1)).filter (fun a => decide (pp a)) ++ (xs.drop (i + 1)).filter (fun a => decide (pp a)) := by rw [← List.filter_append, List.take_append_drop]
        rw [e3, e2, if_pos c, List.map_append, List.map_append, List.map_append, List.map_append] at nd
        have := (List.nodup_append.mp (List.nodup_append.mp nd).1).2.2 _ z _ (List.mem_singleton.mpr rfl)
        exact this rfl
      rw [upd_upd, e2, if_pos c, List.map_append, putK_new nk]
      rfl
  · simp only [c, decide_false, Bool.false_eq_true, if_false]
    rw [e2, if_neg c, List.append_nil]
end
theorem dget_key {m : List (Int × Int)} {k : Int} (h : k ∈ keys m) : dget m k = some (dgD m k 0) := by
  obtain ⟨v, e⟩ := mem_keys.mp h
  unfold dgD
  rw [e]
  rfl
section
variable {H G : Hp} {Ms : List (Addr × HO)} {p : Addr} {o o' : HO}
theorem St.newFE (s : St H G Ms) (h : H p = none) (e : o = o') : ∃ G', St (upd H p o) G' Ms ∧ Same G G' ∧ G' p = some o' := by
  subst e
  exact ⟨upd G p o, s.newF h, Same.new (s.gnone h), upd_same⟩
theorem St.newME (s : St H G Ms) (h : H p = none) (e : o = o') : St (upd H p o) G ((p, o') :: Ms) := by
  subst e
  exact s.newM h
theorem St.putE (s : St H G Ms) (i : Nat) {u : HO} (h : Ms[i]? = some (p, u)) (e : o = o') : St (upd H p o) G (Ms.set i (p, o')) := by
  subst e
  exact s.put i h
theorem St.frzE (s : St H G Ms) (i : Nat) (h : Ms[i]? = some (p, o)) : ∃ G', St H G' (Ms.eraseIdx i) ∧ Same G G' ∧ G' p = some o := ⟨_, s.frz i h, s.gfrz i h, upd_same⟩
theorem St.frzE' (s : St H G Ms) (i : Nat) (h : Ms[i]? = some (p, o)) : ∃ G', St H G' (Ms.eraseIdx i) ∧ (Same G G' ∧ ∀ b u, b ≠ p → G' b = some u → G b = some u) ∧ G' p = some o :=
  ⟨_, s.frz i h, ⟨s.gfrz i h, fun b u n e => by rw [upd_ne n] at e; exact e⟩, upd_same⟩
theorem St.unfrzE {G0 : Hp} (s : St H G Ms) (n : G0 p = none) (g : Same G0 G) (e : G p = some o) : ∃ G', St H G' ((p, o) :: Ms) ∧ Same G0 G' :=
  ⟨_, s.unfrz e, fun b u h => by rw [del_ne (ne_of_none h n)]; exact g _ _ h⟩
end
theorem get2_eq {m : List (Int × Int)} {k z : Int} : (valV (encD m) (Sum.inl k)).getD (V.int z) = V.int (dgD m k z) := by
  rw [enc_get]
  unfold dgD
  cases dget m k <;> rfl
theorem dg_at {H : Hp} {p : Addr} {m : List (Int × Int)} (h : Rd H p (.dK (encD m))) (k : Int) : DGet H p (.int k) (valV (encD m) (Sum.inl k)) := .inl ⟨_, Sum.inl k, h, rfl, rfl⟩
theorem dg_some {H : Hp} {p : Addr} {m : List (Int × Int)} {k v : Int} (h : Rd H p (.dK (encD m))) (e : dget m k = some v) : DGet H p (.int k) (some (.int v)) := .inl ⟨_, Sum.inl k, h, rfl, by rw [enc_get, e]; rfl⟩
theorem isSome_eq {m : List (Int × Int)} {k : Int} : (valV (encD m) (Sum.inl k)).isSome = decide (k ∈ keys m) := by rw [enc_get, some_keys]
theorem in_eq {k : Int} {xs : List Int} : (if false = true then !inV (.int k) (xs.map V.int) else inV (.int k) (xs.map V.int)) = decide (k ∈ xs) := inV_ints k xs
theorem nin_eq {k : Int} {xs : List Int} : (if true = true then !inV (.int k) (xs.map V.int) else inV (.int k) (xs.map V.int)) = decide (¬ (k ∈ xs)) := by
  show (!inV (.int k) (xs.map V.int)) = _
  rw [inV_ints, dNot]
theorem ifS_pure {c : TT} {t u : TS} {D : Ends} {σ : L2.St} {H : Hp} {p : Prop} [Decidable p] (a : PureP c σ H p) (h1 : p → t D σ H) (h2 : ¬ p → u D σ H) : tIfS c t u D σ H := a _ (by
  by_cases hp : p
  · simpa [hp] using h1 hp
  · simpa [hp] using h2 hp)
theorem asg_pure {te : TE} {g : TG} {D : Ends} {σ : L2.St} {H : Hp} {v : V} (a : PureE te σ H v) (h : g v σ H D.nx) : tAsg te g D σ H := a _ h
theorem ret_pure {te : TE} {D : Ends} {σ : L2.St} {H : Hp} {v : V} (a : PureE te σ H v) (h : D.rt v H) : tRet te D σ H := a _ h
/-! ### a dict is walked: it is locked meanwhile -/
theorem lock_rd {H : Hp} {d D : Addr} {kvs : List (Key × V)} {od : Obj} {o : HO} (hd : H d = some (.dK kvs)) (hD : (L2.upd H d (.frz od (.dK kvs))) D = none) : ∀ b u, Rd H b u → Rd (L2.upd (L2.upd H d (.frz od (.dK kvs))) D o) b u := fun b u h => by
  have nD : d ≠ D := fun e => by rw [← e, upd_same] at hD; cases hD
  have hD' : H D = none := by rwa [upd_ne nD.symm] at hD
  by_cases c : b = d
  · subst c
    rcases h with h | ⟨o2, h⟩
    · rw [hd] at h
      cases h
      exact .inr ⟨od, by rw [upd_ne nD, upd_same]⟩
    · rw [hd] at h
      cases h
  · rcases h with h | ⟨o2, h⟩
    · exact .inl (by rw [upd_ne (ne_of_none h hD'), upd_ne c]; exact h)
    · exact .inr ⟨o2, by rw [upd_ne (ne_of_none h hD'), upd_ne c]; exact h⟩
theorem lock_gd {H : Hp} {d D : Addr} {u o : HO} (hD : (L2.upd H d u) D = none) : (L2.upd (L2.upd H d u) D o) d = some u := by
  have nD : d ≠ D := fun e => by rw [← e, upd_same] at hD; cases hD
  rw [upd_ne nD, upd_same]
theorem lock_free {H : Hp} {d D : Addr} {f : HO} (hD : (L2.upd H d f) D = none) : H D = none := by
  have nD : d ≠ D := fun e => by rw [← e, upd_same] at hD; cases hD
  rwa [upd_ne nD.symm] at hD
theorem lock_same {H : Hp} {d D : Addr} {u f o : HO} (hd : H d = some u) (hD : (L2.upd H d f) D = none) : L2.upd (L2.upd (L2.upd H d f) D o) d u = L2.upd H D o := by
  have nD : d ≠ D := fun e => by rw [← e, upd_same] at hD; cases hD
  funext b
  by_cases c : b = d
  · rw [c, upd_same, upd_ne nD, hd]
  · rw [upd_ne c]
    by_cases c2 : b = D
    · rw [c2, upd_same, upd_same]
    · rw [upd_ne c2, upd_ne c2, upd_ne c]
theorem SqL.lk {K : PySem.W.Frag} {H H' : Hp} {a : Addr} {xs : List V} (lk : ∀ b u, Rd H b u → Rd H' b u) (h : SqL K H a xs) : SqL K H' a xs := h.elim (fun h => .inl (lk _ _ h)) .inr
theorem SqT.lk {K : PySem.W.Frag} {H H' : Hp} {a : Addr} {xs : List V} (lk : ∀ b u, Rd H b u → Rd H' b u) (h : SqT K H a xs) : SqT K H' a xs := h.elim (fun h => .inl (lk _ _ h)) .inr
theorem keys_hn {m : List (Int × Int)} : (encD m).length = (keys m).length := by rw [encD_len, keys_len]
theorem lock_rd1 {H : Hp} {d : Addr} {kvs : List (Key × V)} {od : Obj} (hd : H d = some (.dK kvs)) : ∀ b u, Rd H b u → Rd (L2.upd H d (.frz od (.dK kvs))) b u := fun b u h => by
  by_cases c : b = d
  · subst c
    rcases h with h | ⟨o2, h⟩
    · rw [hd] at h
      cases h
      exact .inr ⟨od, upd_same⟩
    · rw [hd] at h
      cases h
  · rcases h with h | ⟨o2, h⟩
    · exact .inl (by rw [upd_ne c]; exact h)
    · exact .inr ⟨o2, by rw [upd_ne c]; exact h⟩
theorem lock_back {H : Hp} {d : Addr} {u f : HO} (hd : H d = some u) : L2.upd (L2.upd H d f) d u = H := by
  rw [upd_upd]
  funext b
  by_cases c : b = d
  · rw [c, upd_same, hd]
  · rw [upd_ne c]
/-! == of lists of dicts and lists -/
section
variable {K : PySem.W.Frag} {H : Hp} {p p' : Addr}
theorem eqv_d {a b : List (Int × Int)} (h : H p = some (.dK (encD a))) (h' : H p' = some (.dK (encD b))) (e : deq a b) : EqV K H 2 (.ref p) (.ref p') :=
  .inr (.inr (.inr ⟨p, p', _, _, rfl, rfl, h, h', (deq_spec e).1, fun q hq => ⟨q.2, ((deq_spec e).2 q hq).1, .inl ⟨rfl, ((deq_spec e).2 q hq).2⟩⟩⟩))
theorem pair_ints {F : V → V → Prop} (f : ∀ k, F (.int k) (.int k)) : ∀ xs : List Int, Paired F (xs.map V.int) (xs.map V.int)
  | [] => .nil
  | x :: xs => .cons (f x) (pair_ints f xs)
theorem eqv_l {a b : List Int} (h : SqL K H p (a.map V.int)) (h' : SqL K H p' (b.map V.int)) (e : a = b) : EqV K H 2 (.ref p) (.ref p') := by
  subst e
  exact .inr (.inr (.inl ⟨p, p', _, _, rfl, rfl, h, h', pair_ints (fun k => .inl ⟨rfl, rfl⟩) a⟩))
end
/-! ### what a mirror gives -/
def Ok {α : Type} (o : Option α) (P : α → Prop) : Prop := ∃ x, o = some x ∧ P x
theorem Ok.bind {α β : Type} {o : Option α} {f : α → Option β} {P : α → Prop} {Q : β → Prop} (h : Ok o P) (k : ∀ x, P x → Ok (f x) Q) : Ok (o.bind f) Q := by
  obtain ⟨x, rfl, p⟩ := h
  exact k x p
theorem Ok.seq {α β : Type} {x : α} {f : α → Option β} {P : β → Prop} (h : Ok (f x) P) : Ok ((Option.some x).bind f) P := h
theorem Ok.some {α : Type} {x : α} {P : α → Prop} (h : P x) : Ok (Option.some x) P := ⟨x, rfl, h⟩
theorem Ok.gd {α : Type} {c : Prop} [Decidable c] {k : Option α} {P : α → Prop} (h : c) (q : Ok k P) : Ok (gd c k) P := by
  rw [gd_pos h]
  exact q
theorem Ok.ite {α : Type} {c : Prop} [Decidable c] {a b : Option α} {P : α → Prop} (h1 : c → Ok a P) (h2 : ¬ c → Ok b P) : Ok (if c then a else b) P := by
  by_cases h : c
  · rw [if_pos h]; exact h1 h
  · rw [if_neg h]; exact h2 h
theorem Ok.mono {α : Type} {o : Option α} {P Q : α → Prop} (h : Ok o P) (k : ∀ x, P x → Q x) : Ok o Q := let ⟨x, e, p⟩ := h; ⟨x, e, k x p⟩
theorem Ok.eq {α : Type} {o : Option α} {x : α} (h : Ok o (fun y => y = x)) : o = Option.some x := let ⟨_, e, p⟩ := h; by rw [e, p]
theorem Ok.of_eq {α : Type} {o : Option α} {x : α} {P : α → Prop} (e : o = Option.some x) (h : P x) : Ok o P := ⟨x, e, h⟩
theorem Ok.forN {α τ : Type} {f : α → τ → Option τ} {xs : List α} {s0 : τ} (I : List α → τ → Prop) (h0 : I [] s0) (hs : ∀ pre a rest s, xs = pre ++ a :: rest → I pre s → Ok (f a s) (I (pre ++ [a]))) : Ok (forN f xs s0) (I xs) := by
  suffices h : ∀ (rest pre : List α) (s : τ), xs = pre ++ rest → I pre s → Ok (P1.forN f rest s) (I xs) from h xs [] s0 rfl h0
  intro rest
  induction rest with
  | nil =>
    intro pre s e h
    rw [List.append_nil] at e
    subst e
    exact .some h
  | cons a r ih =>
    intro pre s e h
    exact (hs pre a r s e h).bind fun s' p => ih (pre ++ [a]) s' (by rw [e, List.append_assoc]; rfl) p
theorem Ok.forF {α ρ τ : Type} {f : α → τ → Option (Fl ρ τ)} {xs : List α} {s0 : τ} (I : List α → τ → Prop) (h0 : I [] s0) (hs : ∀ pre a rest s, xs = pre ++ a :: rest → I pre s → Ok (f a s) (fun fl => ∃ s', fl = .nx s' ∧ I (pre ++ [a]) s')) : Ok (forF f xs s0) (fun fl => ∃ s', fl = .nx s' ∧ I xs s') := by
  suffices h : ∀ (rest pre : List α) (s : τ), xs = pre ++ rest → I pre s → Ok (P1.forF f rest s) (fun fl => ∃ s', fl = .nx s' ∧ I xs s') from h xs [] s0 rfl h0
  intro rest
  induction rest with
  | nil =>
    intro pre s e h
    rw [List.append_nil] at e
    subst e
    exact .some ⟨s, rfl, h⟩
  | cons a r ih =>
    intro pre s e h
    refine (hs pre a r s e h).bind fun fl p => ?_
    obtain ⟨s', rfl, p⟩ := p
    exact ih (pre ++ [a]) s' (by rw [e, List.append_assoc]; rfl) p
/-- a loop that only looks, and never returns -/
theorem Ok.forU {α ρ : Type} {f : α → Unit → Option (Fl ρ Unit)} {xs : List α} {s0 : Unit} (hs : ∀ a, a ∈ xs → Ok (f a ()) (fun fl => fl = .nx ())) : Ok (P1.forF f xs s0) (fun fl => fl = .nx ()) := by
  refine (Ok.forF (fun _ _ => True) trivial fun pre a rest s e _ => ?_).mono fun fl h => ?_
  · exact (hs a (by rw [e]; simp)).mono fun fl h => ⟨(), h, trivial⟩
  · obtain ⟨s, h, _⟩ := h
    exact h
theorem atI_in {α : Type} {xs : List α} {i : Int} (h0 : 0 ≤ i) (h1 : i < xs.length) : Ok (atI xs i) (fun x => x ∈ xs ∧ xs[i.toNat]? = some x) := by
  obtain ⟨k, rfl⟩ := Int.eq_ofNat_of_zero_le h0
  have hk : k < xs.length := by omega
  exact ⟨xs[k], atI_nat (List.getElem?_eq_getElem hk), List.getElem_mem hk, List.getElem?_eq_getElem hk⟩
theorem rng_mem {lo k : Int} {n : Nat} : k ∈ rng lo n ↔ lo ≤ k ∧ k < lo + n := by
  unfold rng
  rw [List.mem_map]
  constructor
  · rintro ⟨i, hi, rfl⟩
    have := List.mem_range.mp hi
    omega
  · rintro ⟨h1, h2⟩
    exact ⟨(k - lo).toNat, List.mem_range.mpr (by omega), by omega⟩
theorem rng_pre {lo a : Int} {n : Nat} {pre rest : List Int} (h : rng lo n = pre ++ a :: rest) : a = lo + pre.length ∧ pre.length < n := by
  have e := congrArg (fun l => l[pre.length]?) h
  simp only [List.getElem?_append_right (Nat.le_refl _), Nat.sub_self, List.getElem?_cons_zero] at e
  have hl : pre.length < n := by
    have := congrArg List.length h
    rw [← rng_len, List.length_append, List.length_cons] at this
    omega
  unfold rng at e
  rw [List.getElem?_map, List.getElem?_range hl] at e
  exact ⟨(Option.some.inj e).symm, hl⟩
/-! ### books over places -/
def mkB (P : List Int) (v : Int → Int) : List (Int × Int) := (P.filter fun p => decide (v p > 0)).map fun p => (p, v p)
theorem keys_mkB (P : List Int) (v : Int → Int) : keys (mkB P v) = P.filter fun p => decide (v p > 0) := by
  unfold keys mkB
  rw [List.map_map]
  exact List.map_id' _
theorem mkB_len (P : List Int) (v : Int → Int) : (mkB P v).length ≤ P.length := by
  unfold mkB
  rw [List.length_map]
  exact List.length_filter_le _ _
theorem dget_none {m : List (Int × Int)} {k : Int} (h : k ∉ keys m) : dget m k = none := by
  cases e : dget m k with
  | none => rfl
  | some v => exact absurd (mem_keys.mpr ⟨v, e⟩) h
theorem dget_cons (p : Int × Int) (m : List (Int × Int)) (k : Int) : dget (p :: m) k = if p.1 = k then some p.2 else dget m k := by
  unfold dget
  by_cases c : p.1 = k
  · rw [List.find?_cons_of_pos (by simp [c]), if_pos c]; rfl
  · rw [List.find?_cons_of_neg (by simp [c]), if_neg c]
theorem dget_mkB (v : Int → Int) (k : Int) : ∀ P : List Int, dget (mkB P v) k = if k ∈ P ∧ v k > 0 then some (v k) else none
  | [] => by simp [mkB, dget]
  | p :: P => by
    have ih := dget_mkB v k P
    by_cases c : v p > 0
    · have e : mkB (p :: P) v = (p, v p) :: mkB P v := by unfold mkB; rw [List.filter_cons_of_pos (by simpa using c)]; rfl
      rw [e, dget_cons, ih]
      by_cases d : p = k
      · subst d
        simp [c]
      · have d2 : ¬ k = p := fun z => d z.symm
        simp [d, d2]
    · have e : mkB (p :: P) v = mkB P v := by unfold mkB; rw [List.filter_cons_of_neg (by simpa using c)]
      rw [e, ih]
      by_cases d : k = p
      · subst d
        simp [c]
      · simp [d]
def gv (P : List Int) (v : Int → Int) (k : Int) : Int := if k ∈ P ∧ v k > 0 then v k else 0
theorem dgD_mkB (P : List Int) (v : Int → Int) (k : Int) : dgD (mkB P v) k 0 = gv P v k := by
  unfold dgD gv
  rw [dget_mkB]
  split <;> rfl
theorem gv_nn (P : List Int) (v : Int → Int) (k : Int) : 0 ≤ gv P v k := by
  unfold gv
  split
  · rename_i h; omega
  · omega
theorem dput_new {m : List (Int × Int)} {k v : Int} (h : k ∉ keys m) : dput m k v = m ++ [(k, v)] := by
  unfold dput
  rw [if_neg]
  intro z
  obtain ⟨kv, h1, h2⟩ := List.any_eq_true.mp z
  exact h (List.mem_map.mpr ⟨kv, h1, eq_of_beq h2⟩)
theorem mkB_snoc_pos {P : List Int} {v : Int → Int} {p : Int} (h : v p > 0) : mkB (P ++ [p]) v = mkB P v ++ [(p, v p)] := by
  unfold mkB
  rw [List.filter_append, List.map_append]
  congr 1
  rw [List.filter_cons_of_pos (by simpa using h)]
  rfl
theorem mkB_snoc_neg {P : List Int} {v : Int → Int} {p : Int} (h : ¬ v p > 0) : mkB (P ++ [p]) v = mkB P v := by
  unfold mkB
  rw [List.filter_append, List.map_append, List.filter_cons_of_neg (by simpa using h)]
  simp
theorem mkB_put {P : List Int} {v : Int → Int} {p : Int} (n : p ∉ P) (h : v p > 0) : dput (mkB P v) p (v p) = mkB (P ++ [p]) v := by
  rw [mkB_snoc_pos h, dput_new]
  rw [keys_mkB]
  exact fun z => n (List.mem_filter.mp z).1
theorem mkB_congr {P : List Int} {v u : Int → Int} (h : ∀ p ∈ P, v p = u p) : mkB P v = mkB P u := by
  unfold mkB
  have e : P.filter (fun p => decide (v p > 0)) = P.filter (fun p => decide (u p > 0)) := List.filter_congr fun p hp => by rw [h p hp]
  rw [e]
  exact List.map_congr_left fun p hp => by rw [h p (List.mem_filter.mp hp).1]
theorem asc_pre {pre rest : List Int} {a : Int} {P : List Int} (h : Asc P) (e : P = pre ++ a :: rest) : a ∉ pre := by
  have nd := asc_nodup h
  rw [e] at nd
  exact fun z => (List.nodup_append.mp nd).2.2 _ z _ List.mem_cons_self rfl
theorem asc_filter {P : List Int} (h : Asc P) (q : Int → Bool) : Asc (P.filter q) := List.Pairwise.filter _ h
/-- a loop that fills a book place by place, the value of a place drawn on the way -/
def setv (v : Int → Int) (p x : Int) : Int → Int := fun k => if k = p then x else v k
theorem setv_same {v : Int → Int} {p x : Int} : setv v p x p = x := if_pos rfl
theorem mkB_setv {P : List Int} {v : Int → Int} {p x : Int} (n : p ∉ P) : mkB P (setv v p x) = mkB P v := mkB_congr fun k hk => if_neg fun e => n (by rw [← e]; exact hk)
theorem mkB_fill {P : List Int} {v : Int → Int} {p x : Int} (n : p ∉ P) (h : x > 0) : dput (mkB P v) p x = mkB (P ++ [p]) (setv v p x) := by
  have := mkB_put (P := P) (v := setv v p x) n (by rw [setv_same]; exact h)
  rw [mkB_setv n, setv_same] at this
  exact this
theorem mkB_skip {P : List Int} {v : Int → Int} {p x : Int} (n : p ∉ P) (h : ¬ x > 0) : mkB P v = mkB (P ++ [p]) (setv v p x) := by
  rw [mkB_snoc_neg (by rw [setv_same]; exact h), mkB_setv n]
theorem isort_id {xs : List Int} (h : xs.Pairwise (· ≤ ·)) : isort xs = xs := srt_ext (isort_perm xs) (isort_srt xs) h
theorem asc_le {xs : List Int} (h : Asc xs) : xs.Pairwise (· ≤ ·) := List.Pairwise.imp (fun h => Int.le_of_lt h) h
theorem usort_sub {xs P : List Int} (hP : Asc P) (h : ∀ k ∈ xs, k ∈ P) : usort xs = P.filter fun p => decide (p ∈ xs) := by
  refine asc_ext (usort_asc xs) (asc_filter hP _) fun k => ?_
  rw [mem_usort, List.mem_filter, decide_eq_true_iff]
  exact ⟨fun hk => ⟨h k hk, hk⟩, fun hk => hk.2⟩
theorem usort_le {xs P : List Int} (hP : Asc P) (h : ∀ k ∈ xs, k ∈ P) : (usort xs).length ≤ P.length := by
  rw [usort_sub hP h]
  exact List.length_filter_le _ _
theorem deq_refl {m : List (Int × Int)} (h : (keys m).Nodup) : deq m m := by
  refine ⟨rfl, fun p hp => ?_⟩
  induction m with
  | nil => cases hp
  | cons q m ih =>
    have nd := List.nodup_cons.mp (show (q.1 :: keys m).Nodup from h)
    rw [dget_cons]
    rcases List.mem_cons.mp hp with rfl | hp
    · rw [if_pos rfl]
    · have c : ¬ q.1 = p.1 := fun e => nd.1 (by rw [e]; exact List.mem_map.mpr ⟨p, hp, rfl⟩)
      rw [if_neg c]
      exact ih nd.2 hp
theorem mkB_nodup {P : List Int} {v : Int → Int} (h : Asc P) : (keys (mkB P v)).Nodup := by
  rw [keys_mkB]
  exact asc_nodup (asc_filter h _)
def topS (i : Nat) : Stmt := PySem.Challenge.pw_forkedshelves_k27_merged_by_values.main.body.getD i (.Pass ⟨0, 0, 0, 0⟩)
abbrev s_value_at : Stmt := topS 1
abbrev N_value_at : List Str := ["book", "place"]
theorem sc_value_at : FnScope N_value_at ["book", "place"] (defScope s_value_at) := ⟨rfl, rfl, rfl, by decide +kernel, rfl, by decide +kernel, by decide +kernel⟩
abbrev s_value_merge : Stmt := topS 3
abbrev N_value_merge : List Str := ["base", "open_places", "first", "second", "merged", "clashing", "place", "origin", "left", "right", "is_closed", "book"]
theorem sc_value_merge : FnScope N_value_merge ["base", "open_places", "first", "second"] (defScope s_value_merge) := ⟨rfl, rfl, rfl, by decide +kernel, rfl, by decide +kernel, by decide +kernel⟩
abbrev s_open : Stmt := topS 5
abbrev N_open : List Str := ["_law_script", "_law_at", "_law_cell"]
theorem sc_open : FnScope N_open ["_law_script", "_law_at"] (defScope s_open) := ⟨rfl, rfl, rfl, by decide +kernel, rfl, by decide +kernel, by decide +kernel⟩
abbrev s_take : Stmt := topS 6
abbrev N_take : List Str := ["_law_box", "_law_size", "_law_drawn", "_law_k", "_law_mixed"]
theorem sc_take : FnScope N_take ["_law_box", "_law_size"] (defScope s_take) := ⟨rfl, rfl, rfl, by decide +kernel, rfl, by decide +kernel, by decide +kernel⟩
abbrev s_choose : Stmt := topS 7
abbrev N_choose : List Str := ["_law_box", "_law_rows", "_law_count", "_law_rest", "_law_chosen", "_law_k", "_law_at"]
theorem sc_choose : FnScope N_choose ["_law_box", "_law_rows", "_law_count"] (defScope s_choose) := ⟨rfl, rfl, rfl, by decide +kernel, rfl, by decide +kernel, by decide +kernel⟩
abbrev s_places : Stmt := topS 8
abbrev N_places : List Str := ["_law_box", "_law_count", "_law_places_here", "_law_last", "_law_k", "_law_step"]
theorem sc_places : FnScope N_places ["_law_box", "_law_count"] (defScope s_places) := ⟨rfl, rfl, rfl, by decide +kernel, rfl, by decide +kernel, by decide +kernel⟩
abbrev s_book : Stmt := topS 9
abbrev N_book : List Str := ["_law_box", "_law_places_here", "_law_top", "_law_book_here", "_law_place", "_law_value"]
theorem sc_book : FnScope N_book ["_law_box", "_law_places_here", "_law_top"] (defScope s_book) := ⟨rfl, rfl, rfl, by decide +kernel, rfl, by decide +kernel, by decide +kernel⟩
abbrev s_written : Stmt := topS 10
abbrev N_written : List Str := ["_law_book_here", "_law_writes", "_law_result", "_law_place", "_law_value", "_law_p", "_law_q"]
theorem sc_written : FnScope N_written ["_law_book_here", "_law_writes"] (defScope s_written) := ⟨rfl, rfl, rfl, by decide +kernel, rfl, by decide +kernel, by decide +kernel⟩
abbrev s_is_book : Stmt := topS 11
abbrev N_is_book : List Str := ["_law_told", "_law_place"]
theorem sc_is_book : FnScope N_is_book ["_law_told"] (defScope s_is_book) := ⟨rfl, rfl, rfl, by decide +kernel, rfl, by decide +kernel, by decide +kernel⟩
abbrev s_ints : Stmt := topS 12
abbrev N_ints : List Str := ["_law_told", "_law_entry"]
theorem sc_ints : FnScope N_ints ["_law_told"] (defScope s_ints) := ⟨rfl, rfl, rfl, by decide +kernel, rfl, by decide +kernel, by decide +kernel⟩
abbrev s_near : Stmt := topS 13
abbrev N_near : List Str := ["_law_box", "_law_places_here", "_law_base", "_law_other", "_law_top", "_law_book_here", "_law_place", "_law_value", "_law_drawn"]
theorem sc_near : FnScope N_near ["_law_box", "_law_places_here", "_law_base", "_law_other", "_law_top"] (defScope s_near) := ⟨rfl, rfl, rfl, by decide +kernel, rfl, by decide +kernel, by decide +kernel⟩
abbrev s_merged : Stmt := topS 14
abbrev N_merged : List Str := ["_law_base", "_law_open_places", "_law_first", "_law_second", "_law_places_here", "_law_book_here", "_law_clashing", "_law_place", "_law_old", "_law_one", "_law_two", "_law_value"]
theorem sc_merged : FnScope N_merged ["_law_base", "_law_open_places", "_law_first", "_law_second", "_law_places_here"] (defScope s_merged) := ⟨rfl, rfl, rfl, by decide +kernel, rfl, by decide +kernel, by decide +kernel⟩
abbrev s_asked : Stmt := topS 15
abbrev N_asked : List Str := ["_law_base", "_law_open_places", "_law_first", "_law_second", "_law_places_here", "_law_due", "_law_handed", "_law_turn", "_law_told", "_law_merged_here"]
theorem sc_asked : FnScope N_asked ["_law_base", "_law_open_places", "_law_first", "_law_second", "_law_places_here"] (defScope s_asked) := ⟨rfl, rfl, rfl, by decide +kernel, rfl, by decide +kernel, by decide +kernel⟩
abbrev s_law : Stmt := topS 16
abbrev N_law : List Str := ["_law_script", "_law_box", "_law_count", "_law_places_here", "_law_top", "_law_up", "_law_strange", "_law_base", "_law_first", "_law_second", "_law_marks", "_law_listed", "_law_place"]
theorem sc_law : FnScope N_law ["_law_script"] (defScope s_law) := ⟨rfl, rfl, rfl, by decide +kernel, rfl, by decide +kernel, by decide +kernel⟩
/-- what the top has left, by names -/
structure Txt (K : PySem.W.Frag) (mg : Str → Option Value) : Type where
  f_value_at : Addr
  fd_value_at : FuncData
  F_value_at : Fun K "value_at" "value_at" s_value_at f_value_at fd_value_at
  b_value_at : Binds K fd_value_at ["book", "place"] []
  g_value_at : mg "value_at" = some (.ref f_value_at)
  f_value_merge : Addr
  fd_value_merge : FuncData
  F_value_merge : Fun K "value_merge" "value_merge" s_value_merge f_value_merge fd_value_merge
  b_value_merge : Binds K fd_value_merge ["base", "open_places", "first", "second"] []
  g_value_merge : mg "value_merge" = some (.ref f_value_merge)
  f_open : Addr
  fd_open : FuncData
  F_open : Fun K "_law_open" "_law_open" s_open f_open fd_open
  b_open : Binds K fd_open ["_law_script", "_law_at"] []
  g_open : mg "_law_open" = some (.ref f_open)
  f_take : Addr
  fd_take : FuncData
  F_take : Fun K "_law_take" "_law_take" s_take f_take fd_take
  b_take : Binds K fd_take ["_law_box", "_law_size"] []
  g_take : mg "_law_take" = some (.ref f_take)
  f_choose : Addr
  fd_choose : FuncData
  F_choose : Fun K "_law_choose" "_law_choose" s_choose f_choose fd_choose
  b_choose : Binds K fd_choose ["_law_box", "_law_rows", "_law_count"] []
  g_choose : mg "_law_choose" = some (.ref f_choose)
  f_places : Addr
  fd_places : FuncData
  F_places : Fun K "_law_places" "_law_places" s_places f_places fd_places
  b_places : Binds K fd_places ["_law_box", "_law_count"] []
  g_places : mg "_law_places" = some (.ref f_places)
  f_book : Addr
  fd_book : FuncData
  F_book : Fun K "_law_book" "_law_book" s_book f_book fd_book
  b_book : Binds K fd_book ["_law_box", "_law_places_here", "_law_top"] []
  g_book : mg "_law_book" = some (.ref f_book)
  f_written : Addr
  fd_written : FuncData
  F_written : Fun K "_law_written" "_law_written" s_written f_written fd_written
  b_written : Binds K fd_written ["_law_book_here", "_law_writes"] []
  g_written : mg "_law_written" = some (.ref f_written)
  f_is_book : Addr
  fd_is_book : FuncData
  F_is_book : Fun K "_law_is_book" "_law_is_book" s_is_book f_is_book fd_is_book
  b_is_book : Binds K fd_is_book ["_law_told"] []
  g_is_book : mg "_law_is_book" = some (.ref f_is_book)
  f_ints : Addr
  fd_ints : FuncData
  F_ints : Fun K "_law_ints" "_law_ints" s_ints f_ints fd_ints
  b_ints : Binds K fd_ints ["_law_told"] []
  g_ints : mg "_law_ints" = some (.ref f_ints)
  f_near : Addr
  fd_near : FuncData
  F_near : Fun K "_law_near" "_law_near" s_near f_near fd_near
  b_near : Binds K fd_near ["_law_box", "_law_places_here", "_law_base", "_law_other", "_law_top"] []
  g_near : mg "_law_near" = some (.ref f_near)
  f_merged : Addr
  fd_merged : FuncData
  F_merged : Fun K "_law_merged" "_law_merged" s_merged f_merged fd_merged
  b_merged : Binds K fd_merged ["_law_base", "_law_open_places", "_law_first", "_law_second", "_law_places_here"] []
  g_merged : mg "_law_merged" = some (.ref f_merged)
  f_asked : Addr
  fd_asked : FuncData
  F_asked : Fun K "_law_asked" "_law_asked" s_asked f_asked fd_asked
  b_asked : Binds K fd_asked ["_law_base", "_law_open_places", "_law_first", "_law_second", "_law_places_here"] []
  g_asked : mg "_law_asked" = some (.ref f_asked)
  f_law : Addr
  fd_law : FuncData
  F_law : Fun K "law" "law" s_law f_law fd_law
  b_law : Binds K fd_law ["_law_script"] []
  g_law : mg "law" = some (.ref f_law)
  z_sorted : mg "sorted" = none
  z_set : mg "set" = none
  z_len : mg "len" = none
  z_int : mg "int" = none
  z_list : mg "list" = none
  z_range : mg "range" = none
  z_min : mg "min" = none
  z_isinstance : mg "isinstance" = none
  z_dict : mg "dict" = none
  z_bool : mg "bool" = none
  z_tuple : mg "tuple" = none
def m_value_at (book_1 : (List (Int × Int))) (place_1 : Int) : Int :=
  (dgD book_1 place_1 0)
def sp_value_at (K : PySem.W.Frag) : Sp := fun vs H Q _ => ∃ (a_book_1 : Addr) (book_1 : (List (Int × Int))) (place_1 : Int), vs = [.ref a_book_1, .int place_1] ∧ Rd H a_book_1 (.dK (encD book_1)) ∧ Q (.int (m_value_at book_1 place_1)) H
def m_value_merge (basex_1 : (List (Int × Int))) (open_places_1 : (List Int)) (firstx_1 : (List (Int × Int))) (secondx_1 : (List (Int × Int))) : Option (((List (Int × Int)) × (List Int))) :=
  gd ((keys basex_1).Nodup ∧ basex_1.length < 128) (gd ((keys firstx_1).Nodup ∧ firstx_1.length < 128) (gd ((usort (keys basex_1)).length + (usort (keys firstx_1)).length < 128) (gd ((keys secondx_1).Nodup ∧ secondx_1.length < 128) (gd ((usort ((usort (keys basex_1)) ++ (usort (keys firstx_1)))).length + (usort (keys secondx_1)).length < 128) (gd ((usort ((usort ((usort (keys basex_1)) ++ (usort (keys firstx_1)))) ++ (usort (keys secondx_1)))).length < 64) (Option.bind (forN (fun (place_1 : Int) (s1 : (List Int) × (List (Int × Int))) => ((gd (([basex_1, firstx_1, secondx_1] : List (List (Int × Int))).length < 100000) (if ((m_value_at firstx_1 place_1) = (m_value_at secondx_1 place_1)) ∨ ((¬ (place_1 ∈ open_places_1)) ∧ ((m_value_at secondx_1 place_1) = (m_value_at basex_1 place_1))) then (gd (s1.2.length < 100000) (some (s1.1, (dput s1.2 place_1 (m_value_at firstx_1 place_1)))))
  else (if (¬ (place_1 ∈ open_places_1)) ∧ ((m_value_at firstx_1 place_1) = (m_value_at basex_1 place_1)) then (gd (s1.2.length < 100000) (some (s1.1, (dput s1.2 place_1 (m_value_at secondx_1 place_1)))))
  else (gd (s1.1.length < 100000) (some ((s1.1 ++ [place_1]), s1.2)))))) : Option ((List Int) × (List (Int × Int))))) (usort ((usort ((usort (keys basex_1)) ++ (usort (keys firstx_1)))) ++ (usort (keys secondx_1)))) ([], [])) fun o1 =>
  gd ((keys o1.2).length < 100000 ∧ ((((keys o1.2).filter (fun (place_2 : Int) => decide ((dgD o1.2 place_2 0) > 0))).map (fun (place_2 : Int) => (place_2, (dgD o1.2 place_2 0)))).map (·.1)).Nodup) (some ((((keys o1.2).filter (fun (place_2 : Int) => decide ((dgD o1.2 place_2 0) > 0))).map (fun (place_2 : Int) => (place_2, (dgD o1.2 place_2 0)))), o1.1))))))))
def sp_value_merge (K : PySem.W.Frag) : Sp := fun vs H Q _ => ∃ (G : Hp) (Fr : List (Addr × HO)) (a_basex_1 : Addr) (basex_1 : (List (Int × Int))) (a_open_places_1 : Addr) (open_places_1 : (List Int)) (a_firstx_1 : Addr) (firstx_1 : (List (Int × Int))) (a_secondx_1 : Addr) (secondx_1 : (List (Int × Int))) (r : ((List (Int × Int)) × (List Int))), vs = [.ref a_basex_1, .ref a_open_places_1, .ref a_firstx_1, .ref a_secondx_1] ∧ St H G (Fr) ∧ G a_basex_1 = some (.dK (encD basex_1)) ∧ G a_open_places_1 = some (.lst (open_places_1.map V.int)) ∧ G a_firstx_1 = some (.dK (encD firstx_1)) ∧ G a_secondx_1 = some (.dK (encD secondx_1)) ∧ m_value_merge basex_1 open_places_1 firstx_1 secondx_1 = some r ∧ ∀ (H' G' : Hp) (p1 : Addr) (p2 : Addr) (p3 : Addr), Same G G' → St H' G' ((p3, .lst (r.2.map V.int)) :: (p2, .dK (encD r.1)) :: Fr) → G' p1 = some (.tup [.ref p2, .ref p3]) → Q (.ref p1) H'
def m_open (script_1 : (List Int)) (atx_1 : Int) : Option ((Int × Int × Int)) :=
  Option.bind ((if atx_1 < (script_1.length : Int) then (Option.bind (atI script_1 atx_1) fun x1 =>
  some x1)
  else (some 0)) : Option (Int)) fun w1 =>
  if w1 ≥ (10 ^ 18) then (some ((1, (w1 - (10 ^ 18)), 0) : Int × Int × Int))
  else (some ((0, w1, 0) : Int × Int × Int))
def sp_open (K : PySem.W.Frag) : Sp := fun vs H Q _ => ∃ (G : Hp) (Fr : List (Addr × HO)) (a_script_1 : Addr) (script_1 : (List Int)) (atx_1 : Int) (r : (Int × Int × Int)), vs = [.ref a_script_1, .int atx_1] ∧ St H G (Fr) ∧ SqL K G a_script_1 (script_1.map V.int) ∧ m_open script_1 atx_1 = some r ∧ ∀ (H' G' : Hp) (p1 : Addr), Same G G' → St H' G' ((p1, .lst [.int r.1, .int r.2.1, .int r.2.2]) :: Fr) → Q (.ref p1) H'
def m_take (box_1 : (Int × Int × Int)) (size_1 : Int) : Option (Int × (Int × Int × Int)) :=
  if box_1.1 = 1 then (gd (0 < size_1) (gd (0 < size_1 ∧ size_1 < 1073741824) (some ((box_1.2.1 % size_1), ((box_1.1, (box_1.2.1 / size_1), box_1.2.2) : Int × Int × Int)))))
  else (gd (0 < size_1) (some (((((((((((((box_1.1, box_1.2.1, (box_1.2.2 + 1)) : Int × Int × Int).2.1 + (7919 * box_1.2.2)) + 13) % 2147483647) * ((((((box_1.1, box_1.2.1, (box_1.2.2 + 1)) : Int × Int × Int).2.1 + (7919 * box_1.2.2)) + 13) % 2147483647) + 48271)) % 2147483629) * ((((((((box_1.1, box_1.2.1, (box_1.2.2 + 1)) : Int × Int × Int).2.1 + (7919 * box_1.2.2)) + 13) % 2147483647) * ((((((box_1.1, box_1.2.1, (box_1.2.2 + 1)) : Int × Int × Int).2.1 + (7919 * box_1.2.2)) + 13) % 2147483647) + 48271)) % 2147483629) + 69621)) + (31 * box_1.2.2)) % 2147483647) / 9) % size_1), ((box_1.1, box_1.2.1, (box_1.2.2 + 1)) : Int × Int × Int))))
def sp_take (K : PySem.W.Frag) : Sp := fun vs H Q _ => ∃ (G : Hp) (Fr : List (Addr × HO)) (a_box_1 : Addr) (box_1 : (Int × Int × Int)) (size_1 : Int) (r : Int × (Int × Int × Int)), vs = [.ref a_box_1, .int size_1] ∧ St H G ((a_box_1, .lst [.int box_1.1, .int box_1.2.1, .int box_1.2.2]) :: Fr) ∧ m_take box_1 size_1 = some r ∧ ∀ (H' G' : Hp) , Same G G' → St H' G' ((a_box_1, .lst [.int r.2.1, .int r.2.2.1, .int r.2.2.2]) :: Fr) → Q (.int r.1) H'
def m_choose (box_1 : (Int × Int × Int)) (rows_1 : (List Int)) (count_1 : Int) : Option ((List Int) × (Int × Int × Int)) :=
  gd (-100000 < (if (rows_1.length : Int) < count_1 then (rows_1.length : Int) else count_1) ∧ (if (rows_1.length : Int) < count_1 then (rows_1.length : Int) else count_1) < 100000) (Option.bind (forN (fun (k_1 : Int) (s1 : (List Int) × (Int × Int × Int) × (List Int)) => ((Option.bind (m_take s1.2.1 (s1.1.length : Int)) fun r1 =>
  Option.bind (atI s1.1 r1.1) fun x1 =>
  gd (s1.2.2.length < 100000) (gd ((cutA s1.1 none (some r1.1)).length + (cutA s1.1 (some (r1.1 + 1)) none).length < 100000) (some (((cutA s1.1 none (some r1.1)) ++ (cutA s1.1 (some (r1.1 + 1)) none)), r1.2, (s1.2.2 ++ [x1]))))) : Option ((List Int) × (Int × Int × Int) × (List Int)))) (rng 0 (Int.toNat (if (rows_1.length : Int) < count_1 then (rows_1.length : Int) else count_1))) (rows_1, box_1, [])) fun o1 =>
  some (o1.2.2, o1.2.1))
def sp_choose (K : PySem.W.Frag) : Sp := fun vs H Q _ => ∃ (G : Hp) (Fr : List (Addr × HO)) (a_box_1 : Addr) (box_1 : (Int × Int × Int)) (a_rows_1 : Addr) (rows_1 : (List Int)) (count_1 : Int) (r : (List Int) × (Int × Int × Int)), vs = [.ref a_box_1, .ref a_rows_1, .int count_1] ∧ St H G ((a_box_1, .lst [.int box_1.1, .int box_1.2.1, .int box_1.2.2]) :: Fr) ∧ G a_rows_1 = some (.lst (rows_1.map V.int)) ∧ m_choose box_1 rows_1 count_1 = some r ∧ ∀ (H' G' : Hp) (p1 : Addr), Same G G' → St H' G' ((a_box_1, .lst [.int r.2.1, .int r.2.2.1, .int r.2.2.2]) :: Fr) → G' p1 = some (.lst (r.1.map V.int)) → Q (.ref p1) H'
def m_places (box_1 : (Int × Int × Int)) (count_1 : Int) : Option ((List Int) × (Int × Int × Int)) :=
  Option.bind (m_take box_1 3) fun r1 =>
  gd (-100000 < count_1 ∧ count_1 < 100000) (Option.bind (forN (fun (k_1 : Int) (s1 : Int × (Int × Int × Int) × (List Int)) => ((Option.bind (m_take s1.2.1 2) fun r2 =>
  Option.bind ((Option.bind (m_take r2.2 6) fun r3 =>
  if r3.1 = 0 then (some (((1 + r2.1) + 9), r3.2))
  else (some ((1 + r2.1), r3.2))) : Option (Int × (Int × Int × Int))) fun w1 =>
  gd (s1.2.2.length < 100000) (some ((s1.1 + w1.1), w1.2, (s1.2.2 ++ [(s1.1 + w1.1)])))) : Option (Int × (Int × Int × Int) × (List Int)))) (rng 0 (Int.toNat count_1)) ((r1.1 - 1), r1.2, [])) fun o1 =>
  some (o1.2.2, o1.2.1))
def sp_places (K : PySem.W.Frag) : Sp := fun vs H Q _ => ∃ (G : Hp) (Fr : List (Addr × HO)) (a_box_1 : Addr) (box_1 : (Int × Int × Int)) (count_1 : Int) (r : (List Int) × (Int × Int × Int)), vs = [.ref a_box_1, .int count_1] ∧ St H G ((a_box_1, .lst [.int box_1.1, .int box_1.2.1, .int box_1.2.2]) :: Fr) ∧ m_places box_1 count_1 = some r ∧ ∀ (H' G' : Hp) (p1 : Addr), Same G G' → St H' G' ((a_box_1, .lst [.int r.2.1, .int r.2.2.1, .int r.2.2.2]) :: Fr) → G' p1 = some (.lst (r.1.map V.int)) → Q (.ref p1) H'
def m_book (box_1 : (Int × Int × Int)) (places_1 : (List Int)) (top_1 : Int) : Option ((List (Int × Int)) × (Int × Int × Int)) :=
  Option.bind (forN (fun (place_1 : Int) (s1 : (List (Int × Int)) × (Int × Int × Int)) => ((Option.bind (m_take s1.2 (top_1 + 2)) fun r1 =>
  if (r1.1 - 1) > 0 then (gd (s1.1.length < 100000) (some ((dput s1.1 place_1 (r1.1 - 1)), r1.2)))
  else (some (s1.1, r1.2))) : Option ((List (Int × Int)) × (Int × Int × Int)))) places_1 ([], box_1)) fun o1 =>
  some (o1.1, o1.2)
def sp_book (K : PySem.W.Frag) : Sp := fun vs H Q _ => ∃ (G : Hp) (Fr : List (Addr × HO)) (a_box_1 : Addr) (box_1 : (Int × Int × Int)) (a_places_1 : Addr) (places_1 : (List Int)) (top_1 : Int) (r : (List (Int × Int)) × (Int × Int × Int)), vs = [.ref a_box_1, .ref a_places_1, .int top_1] ∧ St H G ((a_box_1, .lst [.int box_1.1, .int box_1.2.1, .int box_1.2.2]) :: Fr) ∧ G a_places_1 = some (.lst (places_1.map V.int)) ∧ m_book box_1 places_1 top_1 = some r ∧ ∀ (H' G' : Hp) (p1 : Addr), Same G G' → St H' G' ((a_box_1, .lst [.int r.2.1, .int r.2.2.1, .int r.2.2.2]) :: Fr) → G' p1 = some (.dK (encD r.1)) → Q (.ref p1) H'
def m_written (book_1 : (List (Int × Int))) (writes_1 : (List (Int × Int))) : Option ((List (Int × Int))) :=
  gd ((keys writes_1).length < 100000) (gd ((keys book_1).length + (((keys writes_1).filter (fun (qx_1 : Int) => decide (¬ (qx_1 ∈ keys book_1)))).map (fun (qx_1 : Int) => qx_1)).length < 100000) (gd (((keys book_1) ++ (((keys writes_1).filter (fun (qx_1 : Int) => decide (¬ (qx_1 ∈ keys book_1)))).map (fun (qx_1 : Int) => qx_1))).length < 100000) (Option.bind (forN (fun (place_1 : Int) (s1 : (List (Int × Int))) => ((Option.bind ((if place_1 ∈ keys writes_1 then (Option.bind (dget writes_1 place_1) fun x1 =>
  some x1)
  else (some (dgD book_1 place_1 0))) : Option (Int)) fun w1 =>
  if w1 > 0 then (gd (s1.length < 100000) (some (dput s1 place_1 w1)))
  else (some s1)) : Option ((List (Int × Int))))) (isort (((keys book_1) ++ (((keys writes_1).filter (fun (qx_1 : Int) => decide (¬ (qx_1 ∈ keys book_1)))).map (fun (qx_1 : Int) => qx_1))).map (fun (p_1 : Int) => p_1))) []) fun o1 =>
  some o1)))
def sp_written (K : PySem.W.Frag) : Sp := fun vs H Q _ => ∃ (G : Hp) (Fr : List (Addr × HO)) (a_book_1 : Addr) (book_1 : (List (Int × Int))) (a_writes_1 : Addr) (writes_1 : (List (Int × Int))) (r : (List (Int × Int))), vs = [.ref a_book_1, .ref a_writes_1] ∧ St H G (Fr) ∧ G a_book_1 = some (.dK (encD book_1)) ∧ G a_writes_1 = some (.dK (encD writes_1)) ∧ m_written book_1 writes_1 = some r ∧ ∀ (H' G' : Hp) (p1 : Addr), Same G G' → St H' G' (Fr) → G' p1 = some (.dK (encD r)) → Q (.ref p1) H'
def m_is_book (told_1 : (List (Int × Int))) : Option (Bool) :=
  Option.bind (forF (fun (place_1 : Int) (s1 : Unit) => ((some (.nx ())) : Option (Fl (Bool) (Unit)))) (keys told_1) ()) fun o1 =>
  Fl.el o1 (fun r => some r) fun s3 =>
  some true
def sp_is_book (K : PySem.W.Frag) : Sp := fun vs H Q _ => ∃ (a_told_1 : Addr) (told_1 : (List (Int × Int))) (r : Bool), vs = [.ref a_told_1] ∧ H a_told_1 = some (.dK (encD told_1)) ∧ m_is_book told_1 = some r ∧ Q (.bl r) H
def m_ints (told_1 : (List Int)) : Option (Bool) :=
  Option.bind (forF (fun (entry_1 : Int) (s1 : Unit) => ((some (.nx ())) : Option (Fl (Bool) (Unit)))) told_1 ()) fun o1 =>
  Fl.el o1 (fun r => some r) fun s3 =>
  some true
def sp_ints (K : PySem.W.Frag) : Sp := fun vs H Q _ => ∃ (a_told_1 : Addr) (told_1 : (List Int)) (r : Bool), vs = [.ref a_told_1] ∧ SqL K H a_told_1 (told_1.map V.int) ∧ m_ints told_1 = some r ∧ Q (.bl r) H
def m_near (box_1 : (Int × Int × Int)) (places_1 : (List Int)) (basex_1 : (List (Int × Int))) (other_1 : (List (Int × Int))) (top_1 : Int) : Option ((List (Int × Int)) × (Int × Int × Int)) :=
  Option.bind (forN (fun (place_1 : Int) (s1 : (List (Int × Int)) × (Int × Int × Int)) => ((Option.bind (m_take s1.2 7) fun r1 =>
  Option.bind ((if (r1.1 = 2) ∨ (r1.1 = 3) then (Option.bind (m_take r1.2 (top_1 + 1)) fun r3 =>
  some (r3.1, r3.2))
  else (some ((dgD basex_1 place_1 0), r1.2))) : Option (Int × (Int × Int × Int))) fun w1 =>
  Option.bind ((if r1.1 = 4 then (some 0)
  else (some w1.1)) : Option (Int)) fun w2 =>
  Option.bind ((if r1.1 > 4 then (some (dgD other_1 place_1 0))
  else (some w2)) : Option (Int)) fun w3 =>
  if w3 > 0 then (gd (s1.1.length < 100000) (some ((dput s1.1 place_1 w3), w1.2)))
  else (some (s1.1, w1.2))) : Option ((List (Int × Int)) × (Int × Int × Int)))) places_1 ([], box_1)) fun o1 =>
  some (o1.1, o1.2)
def sp_near (K : PySem.W.Frag) : Sp := fun vs H Q _ => ∃ (G : Hp) (Fr : List (Addr × HO)) (a_box_1 : Addr) (box_1 : (Int × Int × Int)) (a_places_1 : Addr) (places_1 : (List Int)) (a_basex_1 : Addr) (basex_1 : (List (Int × Int))) (a_other_1 : Addr) (other_1 : (List (Int × Int))) (top_1 : Int) (r : (List (Int × Int)) × (Int × Int × Int)), vs = [.ref a_box_1, .ref a_places_1, .ref a_basex_1, .ref a_other_1, .int top_1] ∧ St H G ((a_box_1, .lst [.int box_1.1, .int box_1.2.1, .int box_1.2.2]) :: Fr) ∧ G a_places_1 = some (.lst (places_1.map V.int)) ∧ G a_basex_1 = some (.dK (encD basex_1)) ∧ G a_other_1 = some (.dK (encD other_1)) ∧ m_near box_1 places_1 basex_1 other_1 top_1 = some r ∧ ∀ (H' G' : Hp) (p1 : Addr), Same G G' → St H' G' ((a_box_1, .lst [.int r.2.1, .int r.2.2.1, .int r.2.2.2]) :: Fr) → G' p1 = some (.dK (encD r.1)) → Q (.ref p1) H'
def m_merged (basex_1 : (List (Int × Int))) (open_places_1 : (List Int)) (firstx_1 : (List (Int × Int))) (secondx_1 : (List (Int × Int))) (places_1 : (List Int)) : Option (((List (Int × Int)) × (List Int))) :=
  Option.bind (forN (fun (place_1 : Int) (s1 : (List (Int × Int)) × (List Int)) => ((Option.bind ((if (¬ ((dgD firstx_1 place_1 0) = (dgD secondx_1 place_1 0))) ∧ (place_1 ∈ open_places_1) then (some (-1))
  else (if (¬ ((dgD firstx_1 place_1 0) = (dgD secondx_1 place_1 0))) ∧ ((dgD firstx_1 place_1 0) = (dgD basex_1 place_1 0)) then (some (dgD secondx_1 place_1 0))
  else (if (¬ ((dgD firstx_1 place_1 0) = (dgD secondx_1 place_1 0))) ∧ (¬ ((dgD secondx_1 place_1 0) = (dgD basex_1 place_1 0))) then (some (-1))
  else (some (dgD firstx_1 place_1 0))))) : Option (Int)) fun w1 =>
  Option.bind ((if w1 < 0 then (gd (s1.2.length < 100000) (some (s1.2 ++ [place_1])))
  else (some s1.2)) : Option ((List Int))) fun w2 =>
  if w1 > 0 then (gd (s1.1.length < 100000) (some ((dput s1.1 place_1 w1), w2)))
  else (some (s1.1, w2))) : Option ((List (Int × Int)) × (List Int)))) places_1 ([], [])) fun o1 =>
  some (o1.1, o1.2)
def sp_merged (K : PySem.W.Frag) : Sp := fun vs H Q _ => ∃ (G : Hp) (Fr : List (Addr × HO)) (a_basex_1 : Addr) (basex_1 : (List (Int × Int))) (a_open_places_1 : Addr) (open_places_1 : (List Int)) (a_firstx_1 : Addr) (firstx_1 : (List (Int × Int))) (a_secondx_1 : Addr) (secondx_1 : (List (Int × Int))) (a_places_1 : Addr) (places_1 : (List Int)) (r : ((List (Int × Int)) × (List Int))), vs = [.ref a_basex_1, .ref a_open_places_1, .ref a_firstx_1, .ref a_secondx_1, .ref a_places_1] ∧ St H G (Fr) ∧ G a_basex_1 = some (.dK (encD basex_1)) ∧ G a_open_places_1 = some (.lst (open_places_1.map V.int)) ∧ G a_firstx_1 = some (.dK (encD firstx_1)) ∧ G a_secondx_1 = some (.dK (encD secondx_1)) ∧ G a_places_1 = some (.lst (places_1.map V.int)) ∧ m_merged basex_1 open_places_1 firstx_1 secondx_1 places_1 = some r ∧ ∀ (H' G' : Hp) (p1 : Addr) (p2 : Addr) (p3 : Addr), Same G G' → St H' G' (Fr) → G' p2 = some (.dK (encD r.1)) → G' p3 = some (.lst (r.2.map V.int)) → G' p1 = some (.lst [.ref p2, .ref p3]) → Q (.ref p1) H'
def m_asked (basex_1 : (List (Int × Int))) (open_places_1 : (List Int)) (firstx_1 : (List (Int × Int))) (secondx_1 : (List (Int × Int))) (places_1 : (List Int)) : Option (Bool) :=
  Option.bind (m_merged basex_1 open_places_1 firstx_1 secondx_1 places_1) fun r1 =>
  Option.bind (m_written basex_1 []) fun r2 =>
  Option.bind (m_written firstx_1 []) fun r3 =>
  Option.bind (m_written secondx_1 []) fun r4 =>
  gd (-100000 < 2 ∧ 2 < 100000) (Option.bind (forF (fun (turn_1 : Int) (s1 : Unit) => ((Option.bind (m_value_merge r2 open_places_1 r3 r4) fun r5 =>
  if ¬ ((2 : Int) = 2) then (some (.ret false))
  else (Option.bind (m_is_book r5.1) fun r6 =>
  if ¬ (r6 = true) then (some (.ret false))
  else (gd (deq r5.1 r1.1) (Option.bind (m_ints r5.2) fun r7 =>
  if ¬ (r7 = true) then (some (.ret false))
  else (if ¬ (r5.2 = r1.2) then (some (.ret false))
  else (gd (deq r2 basex_1 ∧ open_places_1 = open_places_1 ∧ deq r3 firstx_1 ∧ deq r4 secondx_1) (gd (r5.1.length < 100000) (gd (r5.2.length < 100000) (some (.nx ())))))))))) : Option (Fl (Bool) (Unit)))) (rng 0 (Int.toNat 2)) ()) fun o1 =>
  Fl.el o1 (fun r => some r) fun s3 =>
  some true)
def sp_asked (K : PySem.W.Frag) : Sp := fun vs H Q _ => ∃ (G : Hp) (Fr : List (Addr × HO)) (a_basex_1 : Addr) (basex_1 : (List (Int × Int))) (a_open_places_1 : Addr) (open_places_1 : (List Int)) (a_firstx_1 : Addr) (firstx_1 : (List (Int × Int))) (a_secondx_1 : Addr) (secondx_1 : (List (Int × Int))) (a_places_1 : Addr) (places_1 : (List Int)) (r : Bool), vs = [.ref a_basex_1, .ref a_open_places_1, .ref a_firstx_1, .ref a_secondx_1, .ref a_places_1] ∧ St H G (Fr) ∧ G a_basex_1 = some (.dK (encD basex_1)) ∧ G a_open_places_1 = some (.lst (open_places_1.map V.int)) ∧ G a_firstx_1 = some (.dK (encD firstx_1)) ∧ G a_secondx_1 = some (.dK (encD secondx_1)) ∧ G a_places_1 = some (.lst (places_1.map V.int)) ∧ m_asked basex_1 open_places_1 firstx_1 secondx_1 places_1 = some r ∧ ∀ (H' G' : Hp) , Same G G' → St H' G' (Fr) → Q (.bl r) H'
def m_law (script_1 : (List Int)) : Option (Bool) :=
  Option.bind (m_open script_1 0) fun r1 =>
  Option.bind (m_take r1 10) fun r2 =>
  Option.bind ((if r2.1 = 9 then (some 14)
  else (some r2.1)) : Option (Int)) fun w1 =>
  Option.bind (m_places r2.2 w1) fun r3 =>
  Option.bind (m_take r3.2 5) fun r4 =>
  Option.bind (atI ([1, 2, 3, 4, 9999] : List Int) r4.1) fun x1 =>
  Option.bind ((Option.bind (m_take r4.2 4) fun r5 =>
  if r5.1 = 0 then (if w1 > 0 then (Option.bind (atI r3.1 (w1 - 1)) fun x2 =>
  gd (r3.1.length < 100000) (some ((r3.1.map (fun (place_1 : Int) => (place_1 + (254 - x2)))), r5.2)))
  else (some (r3.1, r5.2)))
  else (some (r3.1, r5.2))) : Option ((List Int) × (Int × Int × Int))) fun w2 =>
  Option.bind ((if w1 > 0 then (Option.bind (atI w2.1 (w1 - 1)) fun x3 =>
  some (x3 + 1))
  else (some 3)) : Option (Int)) fun w3 =>
  Option.bind (m_book w2.2 w2.1 x1) fun r6 =>
  Option.bind (m_open script_1 1) fun r7 =>
  Option.bind (m_near r7 w2.1 r6.1 r6.1 x1) fun r8 =>
  Option.bind (m_open script_1 2) fun r9 =>
  Option.bind (m_near r9 w2.1 r6.1 r8.1 x1) fun r10 =>
  Option.bind (m_open script_1 3) fun r11 =>
  gd (w2.1.length + ([w3] : List Int).length < 100000) (Option.bind (m_take r11 (w1 + 2)) fun r12 =>
  Option.bind (m_choose r12.2 (w2.1 ++ ([w3] : List Int)) r12.1) fun r13 =>
  Option.bind ((Option.bind (m_take r13.2 2) fun r14 =>
  if r14.1 = 1 then (gd (r13.1.length + (cutA r13.1 none (some 2)).length < 100000) (some ((r13.1 ++ (cutA r13.1 none (some 2))), r14.2)))
  else (some (r13.1, r14.2))) : Option ((List Int) × (Int × Int × Int))) fun w4 =>
  Option.bind (m_asked r6.1 w4.1 r8.1 r10.1 w2.1) fun r15 =>
  if ¬ (r15 = true) then (some false)
  else (Option.bind (m_asked r6.1 [] r8.1 r10.1 w2.1) fun r16 =>
  if ¬ (r16 = true) then (some false)
  else (Option.bind (m_asked r6.1 w4.1 r10.1 r8.1 w2.1) fun r17 =>
  if ¬ (r17 = true) then (some false)
  else (Option.bind (m_asked r6.1 w4.1 r8.1 r10.1 w2.1) fun r18 =>
  some r18))))
def sp_law (K : PySem.W.Frag) : Sp := fun vs H Q _ => ∃ (G : Hp) (Fr : List (Addr × HO)) (a_script_1 : Addr) (script_1 : (List Int)) (r : Bool), vs = [.ref a_script_1] ∧ St H G (Fr) ∧ SqL K G a_script_1 (script_1.map V.int) ∧ m_law script_1 = some r ∧ ∀ (H' G' : Hp) , Same G G' → St H' G' (Fr) → Q (.bl r) H'
section
variable {P : Program} {w : World} {K : PySem.W.Frag} {mg : Str → Option Value} {base : Heap}
theorem ok_value_at (T : Txt K mg) : FnOk P w K mg base CX0 1 T.f_value_at T.fd_value_at ["book", "place"] (sp_value_at K) := by
  refine T.F_value_at.ok sc_value_at (fun vs H Q E h => ?_) (fun cdv A outer s H vs Q E hr h => ?_)
  · obtain ⟨a_book_1, book_1, place_1, rfl, _⟩ := h
    rfl
  · obtain ⟨a_book_1, book_1, place_1, rfl, f_book_1, q⟩ := h
    have hu := hu_of hr
    have st : St H H [] := St.refl
    unfold m_value_at at q
    refine ⟨_, (pss_one (ps_ret (pe_dget2 hu (pv 0) (pv 1) pe_int (by constructor <;> rfl)))), ?_⟩
    refine ⟨_, rfl, ?_⟩
    refine ⟨_, rfl, isD f_book_1, ?_⟩
    refine ⟨_, rfl, ?_⟩
    refine ⟨_, dg_at f_book_1 place_1, ?_⟩
    rw [get2_eq]
    exact q
theorem ok_value_merge (T : Txt K mg) : FnOk P w K mg base CX0 2 T.f_value_merge T.fd_value_merge ["base", "open_places", "first", "second"] (sp_value_merge K) := by
  have G_value_at : FnOk P w K mg base CX0 1 T.f_value_at T.fd_value_at ["book", "place"] (sp_value_at K) := ok_value_at T
  refine T.F_value_merge.ok sc_value_merge (fun vs H Q E h => ?_) (fun cdv A outer s H vs Q E hr h => ?_)
  · obtain ⟨G, Fr, a_basex_1, basex_1, a_open_places_1, open_places_1, a_firstx_1, firstx_1, a_secondx_1, secondx_1, r, rfl, _⟩ := h
    rfl
  · obtain ⟨G, Fr, a_basex_1, basex_1, a_open_places_1, open_places_1, a_firstx_1, firstx_1, a_secondx_1, secondx_1, r, rfl, st, f_basex_1, f_open_places_1, f_firstx_1, f_secondx_1, h, q⟩ := h
    have hu := hu_of hr
    unfold m_value_merge at h
    refine ⟨_, (pss_cons (ps_set (i := 4) sc_value_merge.nd rfl (Or.inr rfl) pe_dnewK)
      (pss_cons (ps_set (i := 5) sc_value_merge.nd rfl (Or.inl rfl) (pe_lst pa_nil))
      (pss_cons (ps_for PassesOwn.never rfl (pi_list (pe_callB (cr_sortedSet rfl) (by rfl) T.z_sorted (by decide +kernel) (pa_cons (pe_op SuP.op_setOr (pe_op SuP.op_setOr (pe_callTy SuP.cr_setD (by rfl) T.z_set (by decide +kernel) (pa_cons (pv 0) pa_nil)) (pe_callTy SuP.cr_setD (by rfl) T.z_set (by decide +kernel) (pa_cons (pv 2) pa_nil))) (pe_callTy SuP.cr_setD (by rfl) T.z_set (by decide +kernel) (pa_cons (pv 3) pa_nil))) pa_nil))) (pg_name (i := 6) sc_value_merge.nd rfl (Or.inr rfl))
      (pss_cons (ps_asg (pe_lc (own := [("book", 11)]) (g := gName 11) (tt := tYes) rfl sc_value_merge.nd (pi_tup (pe_tup (pa_cons (pv 0) (pa_cons (pv 2) (pa_cons (pv 3) pa_nil))))) (blkOk_by (own := [("book", 11)]) (N := N_value_merge) (sc := defScope s_value_merge) (by decide +kernel)) (fun _ _ _ _ _ => (pg_name (i := 11) sc_value_merge.nd rfl (Or.inl rfl))) (fun _ _ _ _ _ => pts_nil) (fun _ _ _ _ _ => (pe_call G_value_at (hr.mono (by omega)) (by rfl) T.g_value_at T.F_value_at.kp T.b_value_at .nil pass0 (pa_cons (pv 11) (pa_cons (pv 6) pa_nil))))) (pg_unl (by rfl) (pgs_cons (pg_name (i := 7) sc_value_merge.nd rfl (Or.inl rfl)) (pgs_cons (pg_name (i := 8) sc_value_merge.nd rfl (Or.inl rfl)) (pgs_cons (pg_name (i := 9) sc_value_merge.nd rfl (Or.inl rfl)) pgs_nil)))))
        (pss_cons (ps_set (i := 10) sc_value_merge.nd rfl (Or.inl rfl) (pe_cmpR (r := rIn K true) op_notIn_seq (pv 6) (pv 1) (by rfl)))
        (pss_one (ps_if (PW.pt (pw_or (pt_cmpR op_eq (pv 8) (pv 9) (nomark _)) (pw_or1 (PW.pt (pw_and (pt_val (pv 10)) (pw_and1 (pt_cmpR op_eq (pv 9) (pv 7) (nomark _))))))))
        (pss_one (ps_dput hu (pv 4) (pv 6) (pv 8) rfl))
        (pss_one (ps_if (PW.pt (pw_and (pt_val (pv 10)) (pw_and1 (pt_cmpR op_eq (pv 8) (pv 7) (nomark _)))))
          (pss_one (ps_dput hu (pv 4) (pv 6) (pv 9) rfl))
          (pss_one (ps_expr (pe_bm PySem.F.plainAttrs_list PySem.F.slot_list_append PySem.F.type_list_append mt_append (pv 5) (pa_cons (pv 6) pa_nil)))))))))))
      (pss_one (ps_ret (pe_tup (pa_cons (pe_lock (pe_dc (own := [("place", 6)]) (g := gName 6) rfl sc_value_merge.nd (pi_keys (pv 4)) (blkOk_by (own := [("place", 6)]) (N := N_value_merge) (sc := defScope s_value_merge) (by decide +kernel)) (fun _ _ _ _ _ => (pg_name (i := 6) sc_value_merge.nd rfl (Or.inl rfl))) (fun _ _ _ _ _ => (pts_one (pt_cmpR op_gt (pe_dget hu (pv 4) (pv 6) (fun _ _ => rfl)) pe_int (nomark _)))) (fun _ _ _ _ _ => (pv 6)) (fun _ _ _ _ _ => (pe_dget hu (pv 4) (pv 6) (fun _ _ => rfl))))) (pa_cons (pv 5) pa_nil)))))))), ?_⟩
    refine fun p4 hp4 => ?_
    have st := st.newME (o := .dK []) (o' := .dK (encD [])) hp4 rfl
    refine ⟨Nat.zero_le _, fun p5 hp5 => ?_⟩
    have st := st.newME (o := .lst []) (o' := .lst ([].map V.int)) hp5 rfl
    refine ⟨_, rfl, ?_⟩
    obtain ⟨hg1, h⟩ := gd_some h
    refine ⟨_, _, keys basex_1, rfl, (Or.inl (st.sub _ _ f_basex_1)), encD_keys _, keys_lt hg1.2, fun p6 S1 n1 hp6 hm1 hz1 => ?_⟩
    have nf_p6 : ∀ b o, G b = some o → b ≠ p6 := fun b o e => ne_of_none (st.sub _ _ e) hp6
    obtain ⟨G1, st, gs1, f1⟩ := st.newFE (o := (SetO w p6 S1 n1)) (o' := (SetO w p6 S1 n1)) hp6 rfl
    refine ⟨_, rfl, ?_⟩
    obtain ⟨hg2, h⟩ := gd_some h
    refine ⟨_, _, keys firstx_1, rfl, (Or.inl (st.sub _ _ (gs1 _ _ f_firstx_1))), encD_keys _, keys_lt hg2.2, fun p7 S2 n2 hp7 hm2 hz2 => ?_⟩
    have nf_p7 : ∀ b o, G1 b = some o → b ≠ p7 := fun b o e => ne_of_none (st.sub _ _ e) hp7
    obtain ⟨G2, st, gs2, f2⟩ := st.newFE (o := (SetO w p7 S2 n2)) (o' := (SetO w p7 S2 n2)) hp7 rfl
    obtain ⟨hg3, h⟩ := gd_some h
    refine ⟨_, _, _, _, _, _, rfl, rfl, (st.sub _ _ (gs2 _ _ f1)), (st.sub _ _ f2), (nf_p7 _ _ f1), (by have := (us_klen hg1.1 hz1); have := (us_klen hg2.1 hz2); omega), fun p8 S3 n3 hp8 hm3 hz3 => ?_⟩
    have nf_p8 : ∀ b o, G2 b = some o → b ≠ p8 := fun b o e => ne_of_none (st.sub _ _ e) hp8
    obtain ⟨G3, st, gs3, f3⟩ := st.newFE (o := (SetO w p8 S3 n3)) (o' := (SetO w p8 S3 n3)) hp8 rfl
    refine ⟨_, rfl, ?_⟩
    obtain ⟨hg4, h⟩ := gd_some h
    refine ⟨_, _, keys secondx_1, rfl, (Or.inl (st.sub _ _ (((gs1.trans gs2).trans gs3) _ _ f_secondx_1))), encD_keys _, keys_lt hg4.2, fun p9 S4 n4 hp9 hm4 hz4 => ?_⟩
    have nf_p9 : ∀ b o, G3 b = some o → b ≠ p9 := fun b o e => ne_of_none (st.sub _ _ e) hp9
    obtain ⟨G4, st, gs4, f4⟩ := st.newFE (o := (SetO w p9 S4 n4)) (o' := (SetO w p9 S4 n4)) hp9 rfl
    obtain ⟨hg5, h⟩ := gd_some h
    refine ⟨_, _, _, _, _, _, rfl, rfl, (st.sub _ _ (gs4 _ _ f3)), (st.sub _ _ f4), (nf_p9 _ _ f3), (by have := (us_len (us_or hm3 (us_keys hm1) (us_keys hm2)) hz3); have := (us_klen hg4.1 hz4); omega), fun p10 S5 n5 hp10 hm5 hz5 => ?_⟩
    have nf_p10 : ∀ b o, G4 b = some o → b ≠ p10 := fun b o e => ne_of_none (st.sub _ _ e) hp10
    obtain ⟨G5, st, gs5, f5⟩ := st.newFE (o := (SetO w p10 S5 n5)) (o' := (SetO w p10 S5 n5)) hp10 rfl
    obtain ⟨hg6, h⟩ := gd_some h
    refine ⟨_, _, _, rfl, (st.sub _ _ f5), (by have := (us_len (us_or hm5 (us_or hm3 (us_keys hm1) (us_keys hm2)) (us_keys hm4)) hz5); omega), fun ns1 p11 srt1 mem1 ln1 hp11 => ?_⟩
    obtain rfl : ns1 = (usort ((usort ((usort (keys basex_1)) ++ (usort (keys firstx_1)))) ++ (usort (keys secondx_1)))) := us_eq (usort_asc _) srt1 (fun k => (mem1 k).trans ((us_or hm5 (us_or hm3 (us_keys hm1) (us_keys hm2)) (us_keys hm4)) k))
    obtain ⟨G6, st, gs6, f6⟩ := st.newFE (o := .lst ((usort ((usort ((usort (keys basex_1)) ++ (usort (keys firstx_1)))) ++ (usort (keys secondx_1)))).map V.int)) (o' := .lst ((usort ((usort ((usort (keys basex_1)) ++ (usort (keys firstx_1)))) ++ (usort (keys secondx_1)))).map V.int)) hp11 rfl
    refine ⟨_, rfl, ⟨_, (SqL.of (st.sub _ _ f6))⟩, ?_⟩
    obtain ⟨o1, hl1, h⟩ := bs h
    refine for_mN (walk_list (xs := (usort ((usort ((usort (keys basex_1)) ++ (usort (keys firstx_1)))) ++ (usort (keys secondx_1)))).map V.int)) (List.length_map _) hl1 (fun (s1 : (List Int) × (List (Int × Int))) σ' H' => ∃ (y1 : Option V) (y2 : Option V) (y3 : Option V) (y4 : Option V) (y5 : Option V) (G7 : Hp) , σ' = [some (.ref a_basex_1), some (.ref a_open_places_1), some (.ref a_firstx_1), some (.ref a_secondx_1), some (.ref p4), some (.ref p5), y1, y2, y3, y4, y5, none] ∧ St H' G7 ((p5, .lst (s1.1.map V.int)) :: (p4, .dK (encD s1.2)) :: Fr) ∧ Same G6 G7) ?_ ?_ ?_ ?_
    · exact ⟨_, _, _, _, _, _, rfl, st, Same.refl _⟩
    · rintro s1 σ' H' ⟨y1, y2, y3, y4, y5, G7, rfl, st, gs7⟩
      exact (SqL.of (st.sub _ _ (gs7 _ _ f6)))
    · rintro i place_1 x s1 s2 σ' H' H1' hx ⟨y1, y2, y3, y4, y5, G7, rfl, st, gs7⟩ hy hb1
      obtain ⟨rfl, rfl⟩ := flat_y hx hy
      refine ⟨_, rfl, ?_⟩
      refine ⟨_, rfl, ?_⟩
      refine ⟨_, rfl, ?_⟩
      refine ⟨sz (by show 3 ≤ _; omega), fun p12 hp12 => ?_⟩
      obtain ⟨G8, st, gs8, f7⟩ := st.newFE (o := .tup [.ref a_basex_1, .ref a_firstx_1, .ref a_secondx_1]) (o' := .tup [.ref a_basex_1, .ref a_firstx_1, .ref a_secondx_1]) hp12 rfl
      refine ⟨_, rfl, ⟨_, (SqT.of (st.sub _ _ f7))⟩, ?_⟩
      obtain ⟨hg7, hb1⟩ := gd_some hb1
      refine lc_map (xs := ([basex_1, firstx_1, secondx_1] : List (List (Int × Int)))) (walk_tup (xs := [.ref a_basex_1, .ref a_firstx_1, .ref a_secondx_1])) rfl (fun (book_1 : (List (Int × Int))) => (m_value_at book_1 place_1)) V.int (fun (book_1 : (List (Int × Int))) (x : V) => RdD _ x book_1) (fun hx hy => ⟨hy.1, All2.at (All2.cons (⟨_, rfl, (Or.inl (st.sub _ _ ((((((((gs1.trans gs2).trans gs3).trans gs4).trans gs5).trans gs6).trans gs7).trans gs8) _ _ f_basex_1)))⟩ : RdD _ _ _) (All2.cons (⟨_, rfl, (Or.inl (st.sub _ _ ((((((((gs1.trans gs2).trans gs3).trans gs4).trans gs5).trans gs6).trans gs7).trans gs8) _ _ f_firstx_1)))⟩ : RdD _ _ _) (All2.cons (⟨_, rfl, (Or.inl (st.sub _ _ ((((((((gs1.trans gs2).trans gs3).trans gs4).trans gs5).trans gs6).trans gs7).trans gs8) _ _ f_secondx_1)))⟩ : RdD _ _ _) All2.nil))) hx hy.2⟩) (fun D acc hD => Same.tup (Same.new hD) (SqT.of (st.sub _ _ f7))) ?_ (sz (Nat.le_of_lt hg7)) ?_ (fun p14 hp14 => ?_)
      · exact fun _ => rfl
      · intro D acc1 book_1 x hD hm hx
        obtain ⟨p13, rfl, f8⟩ := hx
        have f8 := Rd.same (Same.new (o := .lst acc1) hD) f8
        have st := st.newM (o := .lst acc1) hD
        exact (fun Q q => ⟨_, rfl, ⟨_, rfl, ⟨_, book_1, place_1, rfl, f8, q⟩⟩⟩)
      obtain ⟨G9, st, gs9, f9⟩ := st.newFE (o := .lst ((([basex_1, firstx_1, secondx_1] : List (List (Int × Int))).map (fun (book_1 : (List (Int × Int))) => (m_value_at book_1 place_1))).map V.int)) (o' := .lst ((([basex_1, firstx_1, secondx_1] : List (List (Int × Int))).map (fun (book_1 : (List (Int × Int))) => (m_value_at book_1 place_1))).map V.int)) hp14 rfl
      refine ⟨_, _, rfl, (SqL.of (st.sub _ _ f9)), rfl, ⟨_, _, rfl, ⟨_, _, rfl, ⟨_, _, rfl, ⟨rfl, ?_⟩⟩⟩⟩⟩
      refine ⟨_, rfl, ?_⟩
      refine ⟨_, rfl, ?_⟩
      refine ⟨_, _, rfl, .inl (SqL.of (st.sub _ _ (((((((((gs1.trans gs2).trans gs3).trans gs4).trans gs5).trans gs6).trans gs7).trans gs8).trans gs9) _ _ f_open_places_1))), rfl, flat_ints _, ?_⟩
      rw [nin_eq]
      refine ⟨_, rfl, ?_⟩
      refine ⟨_, rfl, ?_⟩
      refine ⟨rfl, _, rfl, ?_⟩
      refine ite2 (fun hc1 => ?_) (fun hc1 => ?_)
      · rw [dEq] at hc1
        have hc1 : (m_value_at firstx_1 place_1) = (m_value_at secondx_1 place_1) := of_decide_eq_true hc1
        refine iteT ?_
        rw [if_pos (show ((m_value_at firstx_1 place_1) = (m_value_at secondx_1 place_1)) ∨ ((¬ (place_1 ∈ open_places_1)) ∧ ((m_value_at secondx_1 place_1) = (m_value_at basex_1 place_1))) from (Or.inl hc1))] at hb1
        refine ⟨_, rfl, ?_⟩
        refine ⟨_, rfl, ?_⟩
        refine ⟨_, rfl, ?_⟩
        obtain ⟨hg8, hb1⟩ := gd_some hb1
        refine ⟨_, _, rfl, DPut.k (k := Sum.inl place_1) (st.at 1 rfl) (szl (by rw [encD_len]; exact hg8)), ?_⟩
        have st := st.putE 1 rfl (dk_put s1.2 place_1 (m_value_at firstx_1 place_1))
        obtain rfl := Option.some.inj hb1
        exact ⟨_, _, _, _, _, _, rfl, st, ((gs7.trans gs8).trans gs9)⟩
      · rw [dEq] at hc1
        have hc1 : ¬ ((m_value_at firstx_1 place_1) = (m_value_at secondx_1 place_1)) := ndec hc1
        refine ⟨_, rfl, ?_⟩
        refine ⟨_, rfl, ?_⟩
        refine ite2 (fun hc2 => ?_) (fun hc2 => ?_)
        · have hc2 : ¬ (place_1 ∈ open_places_1) := of_decide_eq_true hc2
          refine ⟨_, rfl, ?_⟩
          refine ⟨_, rfl, ?_⟩
          refine ⟨rfl, _, rfl, ?_⟩
          refine ite2 (fun hc3 => ?_) (fun hc3 => ?_)
          · rw [dEq] at hc3
            have hc3 : (m_value_at secondx_1 place_1) = (m_value_at basex_1 place_1) := of_decide_eq_true hc3
            rw [if_pos (show ((m_value_at firstx_1 place_1) = (m_value_at secondx_1 place_1)) ∨ ((¬ (place_1 ∈ open_places_1)) ∧ ((m_value_at secondx_1 place_1) = (m_value_at basex_1 place_1))) from (Or.inr ⟨hc2, hc3⟩))] at hb1
            refine ⟨_, rfl, ?_⟩
            refine ⟨_, rfl, ?_⟩
            refine ⟨_, rfl, ?_⟩
            obtain ⟨hg9, hb1⟩ := gd_some hb1
            refine ⟨_, _, rfl, DPut.k (k := Sum.inl place_1) (st.at 1 rfl) (szl (by rw [encD_len]; exact hg9)), ?_⟩
            have st := st.putE 1 rfl (dk_put s1.2 place_1 (m_value_at firstx_1 place_1))
            obtain rfl := Option.some.inj hb1
            exact ⟨_, _, _, _, _, _, rfl, st, ((gs7.trans gs8).trans gs9)⟩
          · rw [dEq] at hc3
            have hc3 : ¬ ((m_value_at secondx_1 place_1) = (m_value_at basex_1 place_1)) := ndec hc3
            rw [if_neg (show ¬ (((m_value_at firstx_1 place_1) = (m_value_at secondx_1 place_1)) ∨ ((¬ (place_1 ∈ open_places_1)) ∧ ((m_value_at secondx_1 place_1) = (m_value_at basex_1 place_1)))) from (fun h => h.elim hc1 (fun h => hc3 h.2)))] at hb1
            refine ⟨_, rfl, ?_⟩
            refine ⟨_, rfl, ?_⟩
            refine ite2 (fun hc4 => ?_) (fun hc4 => ?_)
            · have hc4 : ¬ (place_1 ∈ open_places_1) := of_decide_eq_true hc4
              refine ⟨_, rfl, ?_⟩
              refine ⟨_, rfl, ?_⟩
              refine ⟨rfl, _, rfl, ?_⟩
              refine ite2 (fun hc5 => ?_) (fun hc5 => ?_)
              · rw [dEq] at hc5
                have hc5 : (m_value_at firstx_1 place_1) = (m_value_at basex_1 place_1) := of_decide_eq_true hc5
                rw [if_pos (show (¬ (place_1 ∈ open_places_1)) ∧ ((m_value_at firstx_1 place_1) = (m_value_at basex_1 place_1)) from ⟨hc4, hc5⟩)] at hb1
                refine ⟨_, rfl, ?_⟩
                refine ⟨_, rfl, ?_⟩
                refine ⟨_, rfl, ?_⟩
                obtain ⟨hg10, hb1⟩ := gd_some hb1
                refine ⟨_, _, rfl, DPut.k (k := Sum.inl place_1) (st.at 1 rfl) (szl (by rw [encD_len]; exact hg10)), ?_⟩
                have st := st.putE 1 rfl (dk_put s1.2 place_1 (m_value_at secondx_1 place_1))
                obtain rfl := Option.some.inj hb1
                exact ⟨_, _, _, _, _, _, rfl, st, ((gs7.trans gs8).trans gs9)⟩
              · rw [dEq] at hc5
                have hc5 : ¬ ((m_value_at firstx_1 place_1) = (m_value_at basex_1 place_1)) := ndec hc5
                rw [if_neg (show ¬ ((¬ (place_1 ∈ open_places_1)) ∧ ((m_value_at firstx_1 place_1) = (m_value_at basex_1 place_1))) from (fun h => hc5 h.2))] at hb1
                refine ⟨_, rfl, ?_⟩
                refine ⟨.inl ⟨rfl, _, (SqL.of (st.at 0 rfl))⟩, ?_⟩
                refine ⟨_, rfl, ?_⟩
                obtain ⟨hg11, hb1⟩ := gd_some hb1
                refine ⟨_, _, _, rfl, rfl, st.at 0 rfl, szl (by rw [List.length_map]; exact hg11), ?_⟩
                have st := st.putE 0 rfl (lst_snoc (f := V.int) s1.1 place_1)
                obtain rfl := Option.some.inj hb1
                exact ⟨_, _, _, _, _, _, rfl, st, ((gs7.trans gs8).trans gs9)⟩
            · have hc4 : ¬ (¬ (place_1 ∈ open_places_1)) := ndec hc4
              refine iteF ?_
              rw [if_neg (show ¬ ((¬ (place_1 ∈ open_places_1)) ∧ ((m_value_at firstx_1 place_1) = (m_value_at basex_1 place_1))) from (fun h => hc4 h.1))] at hb1
              refine ⟨_, rfl, ?_⟩
              refine ⟨.inl ⟨rfl, _, (SqL.of (st.at 0 rfl))⟩, ?_⟩
              refine ⟨_, rfl, ?_⟩
              obtain ⟨hg12, hb1⟩ := gd_some hb1
              refine ⟨_, _, _, rfl, rfl, st.at 0 rfl, szl (by rw [List.length_map]; exact hg12), ?_⟩
              have st := st.putE 0 rfl (lst_snoc (f := V.int) s1.1 place_1)
              obtain rfl := Option.some.inj hb1
              exact ⟨_, _, _, _, _, _, rfl, st, ((gs7.trans gs8).trans gs9)⟩
        · have hc2 : ¬ (¬ (place_1 ∈ open_places_1)) := ndec hc2
          refine iteF ?_
          rw [if_neg (show ¬ (((m_value_at firstx_1 place_1) = (m_value_at secondx_1 place_1)) ∨ ((¬ (place_1 ∈ open_places_1)) ∧ ((m_value_at secondx_1 place_1) = (m_value_at basex_1 place_1)))) from (fun h => h.elim hc1 (fun h => hc2 h.1)))] at hb1
          refine ⟨_, rfl, ?_⟩
          refine ⟨_, rfl, ?_⟩
          refine ite2 (fun hc6 => ?_) (fun hc6 => ?_)
          · have hc6 : ¬ (place_1 ∈ open_places_1) := of_decide_eq_true hc6
            refine ⟨_, rfl, ?_⟩
            refine ⟨_, rfl, ?_⟩
            refine ⟨rfl, _, rfl, ?_⟩
            refine ite2 (fun hc7 => ?_) (fun hc7 => ?_)
            · rw [dEq] at hc7
              have hc7 : (m_value_at firstx_1 place_1) = (m_value_at basex_1 place_1) := of_decide_eq_true hc7
              rw [if_pos (show (¬ (place_1 ∈ open_places_1)) ∧ ((m_value_at firstx_1 place_1) = (m_value_at basex_1 place_1)) from ⟨hc6, hc7⟩)] at hb1
              refine ⟨_, rfl, ?_⟩
              refine ⟨_, rfl, ?_⟩
              refine ⟨_, rfl, ?_⟩
              obtain ⟨hg13, hb1⟩ := gd_some hb1
              refine ⟨_, _, rfl, DPut.k (k := Sum.inl place_1) (st.at 1 rfl) (szl (by rw [encD_len]; exact hg13)), ?_⟩
              have st := st.putE 1 rfl (dk_put s1.2 place_1 (m_value_at secondx_1 place_1))
              obtain rfl := Option.some.inj hb1
              exact ⟨_, _, _, _, _, _, rfl, st, ((gs7.trans gs8).trans gs9)⟩
            · rw [dEq] at hc7
              have hc7 : ¬ ((m_value_at firstx_1 place_1) = (m_value_at basex_1 place_1)) := ndec hc7
              rw [if_neg (show ¬ ((¬ (place_1 ∈ open_places_1)) ∧ ((m_value_at firstx_1 place_1) = (m_value_at basex_1 place_1))) from (fun h => hc7 h.2))] at hb1
              refine ⟨_, rfl, ?_⟩
              refine ⟨.inl ⟨rfl, _, (SqL.of (st.at 0 rfl))⟩, ?_⟩
              refine ⟨_, rfl, ?_⟩
              obtain ⟨hg14, hb1⟩ := gd_some hb1
              refine ⟨_, _, _, rfl, rfl, st.at 0 rfl, szl (by rw [List.length_map]; exact hg14), ?_⟩
              have st := st.putE 0 rfl (lst_snoc (f := V.int) s1.1 place_1)
              obtain rfl := Option.some.inj hb1
              exact ⟨_, _, _, _, _, _, rfl, st, ((gs7.trans gs8).trans gs9)⟩
          · have hc6 : ¬ (¬ (place_1 ∈ open_places_1)) := ndec hc6
            refine iteF ?_
            rw [if_neg (show ¬ ((¬ (place_1 ∈ open_places_1)) ∧ ((m_value_at firstx_1 place_1) = (m_value_at basex_1 place_1))) from (fun h => hc6 h.1))] at hb1
            refine ⟨_, rfl, ?_⟩
            refine ⟨.inl ⟨rfl, _, (SqL.of (st.at 0 rfl))⟩, ?_⟩
            refine ⟨_, rfl, ?_⟩
            obtain ⟨hg15, hb1⟩ := gd_some hb1
            refine ⟨_, _, _, rfl, rfl, st.at 0 rfl, szl (by rw [List.length_map]; exact hg15), ?_⟩
            have st := st.putE 0 rfl (lst_snoc (f := V.int) s1.1 place_1)
            obtain rfl := Option.some.inj hb1
            exact ⟨_, _, _, _, _, _, rfl, st, ((gs7.trans gs8).trans gs9)⟩
    · rintro σ' H' ⟨y6, y7, y8, y9, y10, G10, rfl, st, gs10⟩
      obtain ⟨hg16, h⟩ := gd_some h
      refine ⟨_, _, (st.at 1 rfl), trivial, fun od => ⟨_, rfl, _, _, rfl, .inl ⟨_, upd_same, ?_⟩⟩⟩
      refine dc_filt (xs := (keys o1.2)) (pp := fun (place_2 : Int) => (dgD o1.2 place_2 0) > 0) (walk_keys (kvs := encD o1.2)) keys_hn (fun (place_2 : Int) => (place_2, (dgD o1.2 place_2 0))) (fun (place_2 : Int) (x : V) => x = .int place_2) keys_y (fun D acc hD => lock_gd hD) ?_ (sz (Nat.le_of_lt hg16.1)) hg16.2 ?_ ?_ ?_ ?_
      · exact fun _ => rfl
      · intro D acc2 place_2 x hD hm hx
        obtain rfl := hx
        have lk := lock_rd (o := .dK acc2) (st.at 1 rfl) hD
        exact (fun Q q => ⟨_, rfl, ⟨_, rfl, ⟨_, _, rfl, dg_some (lk _ _ (Or.inl (st.at 1 rfl))) (dget_key hm), ⟨_, _, rfl, rfl, _, rfl, q⟩⟩⟩⟩)
      · intro D acc2 place_2 x hD hm hx
        obtain rfl := hx
        have lk := lock_rd (o := .dK acc2) (st.at 1 rfl) hD
        exact (fun Q q => ⟨_, rfl, q⟩)
      · intro D acc2 place_2 x hD hm hx
        obtain rfl := hx
        have lk := lock_rd (o := .dK acc2) (st.at 1 rfl) hD
        exact (fun Q q => ⟨_, rfl, ⟨_, rfl, ⟨_, _, rfl, dg_some (lk _ _ (Or.inl (st.at 1 rfl))) (dget_key hm), q⟩⟩⟩)
      refine fun p15 hp15 => ⟨lock_gd hp15, ?_⟩
      rw [lock_same (st.at 1 rfl) hp15]
      have hp15 := lock_free hp15
      have st := st.newME (o := .dK (encD (((keys o1.2).filter (fun (place_2 : Int) => decide ((dgD o1.2 place_2 0) > 0))).map (fun (place_2 : Int) => (place_2, (dgD o1.2 place_2 0)))))) (o' := .dK (encD (((keys o1.2).filter (fun (place_2 : Int) => decide ((dgD o1.2 place_2 0) > 0))).map (fun (place_2 : Int) => (place_2, (dgD o1.2 place_2 0)))))) hp15 rfl
      refine ⟨_, rfl, ?_⟩
      refine ⟨sz (by show 2 ≤ _; omega), fun p16 hp16 => ?_⟩
      obtain ⟨G11, st, gs11, f10⟩ := st.newFE (o := .tup [.ref p15, .ref p5]) (o' := .tup [.ref p15, .ref p5]) hp16 rfl
      obtain rfl := Option.some.inj h
      have st := st.front 0 rfl
      have st := st.front 1 rfl
      have st := st.rm 2 rfl
      exact q _ _ _ _ _ (((((((gs1.trans gs2).trans gs3).trans gs4).trans gs5).trans gs6).trans gs10).trans gs11) st f10
theorem ok_open (T : Txt K mg) : FnOk P w K mg base CX0 1 T.f_open T.fd_open ["_law_script", "_law_at"] (sp_open K) := by
  refine T.F_open.ok sc_open (fun vs H Q E h => ?_) (fun cdv A outer s H vs Q E hr h => ?_)
  · obtain ⟨G, Fr, a_script_1, script_1, atx_1, r, rfl, _⟩ := h
    rfl
  · obtain ⟨G, Fr, a_script_1, script_1, atx_1, r, rfl, st, f_script_1, h, q⟩ := h
    have hu := hu_of hr
    unfold m_open at h
    refine ⟨_, (pss_cons (ps_set (i := 2) sc_open.nd rfl (Or.inl rfl) pe_int)
      (C8.pss_cut (ps_if (pt_cmpR op_lt (pv 1) (pe_callB (r := rLenK K) call_len_seq (by rfl) T.z_len PySem.boot_len (pa_cons (pv 0) pa_nil)) (nomark _))
      (pss_one (ps_set (i := 2) sc_open.nd rfl (Or.inl rfl) (pe_ix (r := rIxL K) ix_list (pv 0) (pv 1) (fun _ _ => rfl))))
      pss_nil)
      (pss_cons (ps_if (pt_cmpR op_ge (pv 2) (pe_op op_pow pe_int pe_int) (nomark _))
      (pss_one (ps_ret (pe_lst (pa_cons pe_int (pa_cons (pe_op op_sub (pv 2) (pe_op op_pow pe_int pe_int)) (pa_cons pe_int pa_nil))))))
      pss_nil)
      (pss_one (ps_ret (pe_lst (pa_cons pe_int (pa_cons (pv 2) (pa_cons pe_int pa_nil))))))))), ?_⟩
    obtain ⟨w1, hw1, h⟩ := bs h
    refine ⟨fun σ' H' => ∃ (G1 : Hp) , σ' = [some (.ref a_script_1), some (.int atx_1), some (.int w1)] ∧ St H' G1 (Fr) ∧ Same G G1, ?_, ?_⟩
    · refine ⟨_, rfl, ?_⟩
      refine ⟨_, rfl, ?_⟩
      refine ⟨_, _, rfl, .inl (Same.seq st.sub f_script_1), ?_⟩
      rw [List.length_map]
      refine ⟨_, _, rfl, rfl, _, rfl, ?_⟩
      refine ite2 (fun hc1 => ?_) (fun hc1 => ?_)
      · have hc1 : atx_1 < (script_1.length : Int) := of_decide_eq_true hc1
        rw [if_pos hc1] at hw1
        refine ⟨_, rfl, ?_⟩
        refine ⟨_, rfl, ?_⟩
        obtain ⟨x1, e1, hw1⟩ := bs hw1
        refine ⟨_, _, _, _, rfl, rfl, (Same.seq st.sub f_script_1), (by rw [atI_map, e1]; rfl), ?_⟩
        obtain rfl := Option.some.inj hw1
        exact ⟨_, rfl, st, Same.refl _⟩
      · have hc1 : ¬ (atx_1 < (script_1.length : Int)) := ndec hc1
        rw [if_neg hc1] at hw1
        obtain rfl := Option.some.inj hw1
        exact ⟨_, rfl, st, Same.refl _⟩
    · rintro σ' H' ⟨G1, rfl, st, gs1⟩
      refine ⟨_, rfl, ?_⟩
      refine ⟨_, _, rfl, rfl, ⟨by decide, by decide, by decide⟩, ?_⟩
      refine ⟨_, _, rfl, rfl, _, rfl, ?_⟩
      refine ite2 (fun hc2 => ?_) (fun hc2 => ?_)
      · have hc2 : w1 ≥ (10 ^ 18) := of_decide_eq_true hc2
        rw [if_pos hc2] at h
        refine ⟨_, rfl, ?_⟩
        refine ⟨_, _, rfl, rfl, ⟨by decide, by decide, by decide⟩, ?_⟩
        refine ⟨_, _, rfl, rfl, ?_⟩
        refine ⟨sz (by show 3 ≤ _; omega), fun p2 hp2 => ?_⟩
        have st := st.newME (o := .lst [.int 1, .int (w1 - (10 ^ 18)), .int 0]) (o' := .lst [.int ((1, (w1 - (10 ^ 18)), 0) : Int × Int × Int).1, .int ((1, (w1 - (10 ^ 18)), 0) : Int × Int × Int).2.1, .int ((1, (w1 - (10 ^ 18)), 0) : Int × Int × Int).2.2]) hp2 rfl
        obtain rfl := Option.some.inj h
        exact q _ _ _ gs1 st
      · have hc2 : ¬ (w1 ≥ (10 ^ 18)) := ndec hc2
        rw [if_neg hc2] at h
        refine ⟨_, rfl, ?_⟩
        refine ⟨sz (by show 3 ≤ _; omega), fun p3 hp3 => ?_⟩
        have st := st.newME (o := .lst [.int 0, .int w1, .int 0]) (o' := .lst [.int ((0, w1, 0) : Int × Int × Int).1, .int ((0, w1, 0) : Int × Int × Int).2.1, .int ((0, w1, 0) : Int × Int × Int).2.2]) hp3 rfl
        obtain rfl := Option.some.inj h
        exact q _ _ _ gs1 st
theorem ok_take (T : Txt K mg) : FnOk P w K mg base CX0 1 T.f_take T.fd_take ["_law_box", "_law_size"] (sp_take K) := by
  refine T.F_take.ok sc_take (fun vs H Q E h => ?_) (fun cdv A outer s H vs Q E hr h => ?_)
  · obtain ⟨G, Fr, a_box_1, box_1, size_1, r, rfl, _⟩ := h
    rfl
  · obtain ⟨G, Fr, a_box_1, box_1, size_1, r, rfl, st, h, q⟩ := h
    have hu := hu_of hr
    unfold m_take at h
    refine ⟨_, (pss_cons (ps_if (pt_cmpR op_eq (pe_ix (r := rIxL K) ix_list (pv 0) pe_int (fun _ _ => rfl)) pe_int (nomark _))
      (pss_cons (ps_set (i := 2) sc_take.nd rfl (Or.inl rfl) (pe_op op_mod (pe_callTy call_int1 (by rfl) T.z_int (by decide +kernel) (pa_cons (pe_ix (r := rIxL K) ix_list (pv 0) pe_int (fun _ _ => rfl)) pa_nil)) (pv 1)))
        (pss_cons (ps_asg (pe_op op_fdiv (pe_callTy call_int1 (by rfl) T.z_int (by decide +kernel) (pa_cons (pe_ix (r := rIxL K) ix_list (pv 0) pe_int (fun _ _ => rfl)) pa_nil)) (pv 1)) (pg_sub (pv 0) pe_int set_list))
        (pss_one (ps_ret (pv 2)))))
      pss_nil)
      (pss_cons (ps_set (i := 3) sc_take.nd rfl (Or.inl rfl) (pe_ix (r := rIxL K) ix_list (pv 0) pe_int (fun _ _ => rfl)))
      (pss_cons (ps_asg (pe_op op_add (pv 3) pe_int) (pg_sub (pv 0) pe_int set_list))
      (pss_cons (ps_set (i := 4) sc_take.nd rfl (Or.inl rfl) (pe_op op_mod (pe_callTy call_int1 (by rfl) T.z_int (by decide +kernel) (pa_cons (pe_op op_add (pe_op op_add (pe_ix (r := rIxL K) ix_list (pv 0) pe_int (fun _ _ => rfl)) (pe_op op_mul pe_int (pv 3))) pe_int) pa_nil)) pe_int))
      (pss_cons (ps_set (i := 4) sc_take.nd rfl (Or.inl rfl) (pe_op op_mod (pe_callTy call_int1 (by rfl) T.z_int (by decide +kernel) (pa_cons (pe_op op_mul (pv 4) (pe_op op_add (pv 4) pe_int)) pa_nil)) pe_int))
      (pss_cons (ps_set (i := 4) sc_take.nd rfl (Or.inl rfl) (pe_op op_mod (pe_callTy call_int1 (by rfl) T.z_int (by decide +kernel) (pa_cons (pe_op op_add (pe_op op_mul (pv 4) (pe_op op_add (pv 4) pe_int)) (pe_op op_mul pe_int (pv 3))) pa_nil)) pe_int))
      (pss_one (ps_ret (pe_op op_mod (pe_callTy call_int1 (by rfl) T.z_int (by decide +kernel) (pa_cons (pe_op op_fdiv (pv 4) pe_int) pa_nil)) (pv 1)))))))))), ?_⟩
    refine ⟨_, rfl, ?_⟩
    refine ⟨_, _, _, _, rfl, rfl, (SqL.of (st.at 0 rfl)), rfl, ?_⟩
    refine ⟨rfl, _, rfl, ?_⟩
    refine ite2 (fun hc1 => ?_) (fun hc1 => ?_)
    · rw [dEq] at hc1
      have hc1 : box_1.1 = 1 := of_decide_eq_true hc1
      rw [if_pos hc1] at h
      refine ⟨_, rfl, ?_⟩
      refine ⟨_, _, _, _, rfl, rfl, (SqL.of (st.at 0 rfl)), rfl, ?_⟩
      refine .inl ⟨_, rfl, ?_⟩
      refine ⟨_, rfl, ?_⟩
      obtain ⟨hg2, h⟩ := gd_some h
      refine ⟨_, _, rfl, rfl, hg2, ?_⟩
      refine ⟨_, rfl, ?_⟩
      refine ⟨_, _, _, _, rfl, rfl, (SqL.of (st.at 0 rfl)), rfl, ?_⟩
      refine .inl ⟨_, rfl, ?_⟩
      refine ⟨_, rfl, ?_⟩
      obtain ⟨hg1, h⟩ := gd_some h
      refine ⟨_, _, rfl, rfl, hg1, ?_⟩
      refine ⟨_, rfl, ?_⟩
      refine ⟨_, _, _, 1, rfl, rfl, st.at 0 rfl, rfl, ?_⟩
      have st := st.putE (o' := .lst [.int ((box_1.1, (box_1.2.1 / size_1), box_1.2.2) : Int × Int × Int).1, .int ((box_1.1, (box_1.2.1 / size_1), box_1.2.2) : Int × Int × Int).2.1, .int ((box_1.1, (box_1.2.1 / size_1), box_1.2.2) : Int × Int × Int).2.2]) 0 rfl rfl
      refine ⟨_, rfl, ?_⟩
      obtain rfl := Option.some.inj h
      exact q _ _ (Same.refl _) st
    · rw [dEq] at hc1
      have hc1 : ¬ (box_1.1 = 1) := ndec hc1
      rw [if_neg hc1] at h
      refine ⟨_, rfl, ?_⟩
      refine ⟨_, _, _, _, rfl, rfl, (SqL.of (st.at 0 rfl)), rfl, ?_⟩
      refine ⟨_, rfl, ?_⟩
      refine ⟨_, _, rfl, rfl, ?_⟩
      refine ⟨_, rfl, ?_⟩
      refine ⟨_, _, _, 2, rfl, rfl, st.at 0 rfl, rfl, ?_⟩
      have st := st.putE (o' := .lst [.int ((box_1.1, box_1.2.1, (box_1.2.2 + 1)) : Int × Int × Int).1, .int ((box_1.1, box_1.2.1, (box_1.2.2 + 1)) : Int × Int × Int).2.1, .int ((box_1.1, box_1.2.1, (box_1.2.2 + 1)) : Int × Int × Int).2.2]) 0 rfl rfl
      refine ⟨_, rfl, ?_⟩
      refine ⟨_, _, _, _, rfl, rfl, (SqL.of (st.at 0 rfl)), rfl, ?_⟩
      refine ⟨_, rfl, ?_⟩
      refine ⟨_, _, rfl, rfl, .inl ⟨by decide, by decide⟩, ?_⟩
      refine ⟨_, _, rfl, rfl, ?_⟩
      refine ⟨_, _, rfl, rfl, ?_⟩
      refine .inl ⟨_, rfl, ?_⟩
      refine ⟨_, _, rfl, rfl, (by decide : (0 : Int) < 2147483647), ?_⟩
      refine ⟨_, rfl, ?_⟩
      refine ⟨_, rfl, ?_⟩
      refine ⟨_, _, rfl, rfl, ?_⟩
      refine ⟨_, _, rfl, rfl, .inl ⟨by omega, by omega⟩, ?_⟩
      refine .inl ⟨_, rfl, ?_⟩
      refine ⟨_, _, rfl, rfl, (by decide : (0 : Int) < 2147483629), ?_⟩
      refine ⟨_, rfl, ?_⟩
      refine ⟨_, rfl, ?_⟩
      refine ⟨_, _, rfl, rfl, ?_⟩
      refine ⟨_, _, rfl, rfl, .inl ⟨by omega, by omega⟩, ?_⟩
      refine ⟨_, rfl, ?_⟩
      refine ⟨_, _, rfl, rfl, .inl ⟨by decide, by decide⟩, ?_⟩
      refine ⟨_, _, rfl, rfl, ?_⟩
      refine .inl ⟨_, rfl, ?_⟩
      refine ⟨_, _, rfl, rfl, (by decide : (0 : Int) < 2147483647), ?_⟩
      refine ⟨_, rfl, ?_⟩
      refine ⟨_, _, rfl, rfl, ⟨by decide, by decide⟩, ?_⟩
      refine .inl ⟨_, rfl, ?_⟩
      refine ⟨_, rfl, ?_⟩
      obtain ⟨hg3, h⟩ := gd_some h
      refine ⟨_, _, rfl, rfl, hg3, ?_⟩
      obtain rfl := Option.some.inj h
      exact q _ _ (Same.refl _) st
theorem ok_choose (T : Txt K mg) : FnOk P w K mg base CX0 2 T.f_choose T.fd_choose ["_law_box", "_law_rows", "_law_count"] (sp_choose K) := by
  have G_take : FnOk P w K mg base CX0 1 T.f_take T.fd_take ["_law_box", "_law_size"] (sp_take K) := ok_take T
  refine T.F_choose.ok sc_choose (fun vs H Q E h => ?_) (fun cdv A outer s H vs Q E hr h => ?_)
  · obtain ⟨G, Fr, a_box_1, box_1, a_rows_1, rows_1, count_1, r, rfl, _⟩ := h
    rfl
  · obtain ⟨G, Fr, a_box_1, box_1, a_rows_1, rows_1, count_1, r, rfl, st, f_rows_1, h, q⟩ := h
    have hu := hu_of hr
    unfold m_choose at h
    refine ⟨_, (pss_cons (ps_set (i := 3) sc_choose.nd rfl (Or.inl rfl) (pe_callTy (r := rListK K) call_list_of (by rfl) T.z_list (by decide +kernel) (pa_cons (pv 1) pa_nil)))
      (pss_cons (ps_set (i := 4) sc_choose.nd rfl (Or.inl rfl) (pe_lst pa_nil))
      (pss_cons (ps_for PassesOwn.never rfl (pi_range1 (by rfl) T.z_range (pa_cons (pe_callB (call_min2 rfl) (by rfl) T.z_min (by decide +kernel) (pa_cons (pv 2) (pa_cons (pe_callB (r := rLenK K) call_len_seq (by rfl) T.z_len PySem.boot_len (pa_cons (pv 1) pa_nil)) pa_nil))) pa_nil)) (pg_name (i := 5) sc_choose.nd rfl (Or.inl rfl))
      (pss_cons (ps_set (i := 6) sc_choose.nd rfl (Or.inl rfl) (pe_call G_take (hr.mono (by omega)) (by rfl) T.g_take T.F_take.kp T.b_take .nil pass0 (pa_cons (pv 0) (pa_cons (pe_callB (r := rLenK K) call_len_seq (by rfl) T.z_len PySem.boot_len (pa_cons (pv 3) pa_nil)) pa_nil))))
        (pss_cons (ps_expr (pe_bm PySem.F.plainAttrs_list PySem.F.slot_list_append PySem.F.type_list_append mt_append (pv 4) (pa_cons (pe_ix (r := rIxL K) ix_list (pv 3) (pv 6) (fun _ _ => rfl)) pa_nil)))
        (pss_one (ps_set (i := 3) sc_choose.nd rfl (Or.inl rfl) (pe_op op_cat (pe_slice (r := rSlL K) sl_list (pv 3) po_none (po_some (pv 6))) (pe_slice (r := rSlL K) sl_list (pv 3) (po_some (pe_op op_add (pv 6) pe_int)) po_none)))))))
      (pss_one (ps_ret (pv 4)))))), ?_⟩
    refine ⟨_, rfl, ?_⟩
    refine ⟨_, _, rfl, .inl (SqL.of (st.sub _ _ f_rows_1)), fun p2 hp2 => ?_⟩
    obtain ⟨G1, st, gs1, f1⟩ := st.newFE (o := .lst (rows_1.map V.int)) (o' := .lst (rows_1.map V.int)) hp2 rfl
    refine ⟨Nat.zero_le _, fun p3 hp3 => ?_⟩
    have st := st.newME (o := .lst []) (o' := .lst ([].map V.int)) hp3 rfl
    refine ⟨_, rfl, ?_⟩
    refine ⟨_, rfl, ?_⟩
    refine ⟨_, _, rfl, .inl (SqL.of (st.sub _ _ (gs1 _ _ f_rows_1))), ?_⟩
    rw [List.length_map]
    refine ⟨_, _, rfl, ?_⟩
    obtain ⟨hg1, h⟩ := gd_some h
    refine ⟨_, rfl, (by omega), (by omega), ?_⟩
    obtain ⟨o1, hl1, h⟩ := bs h
    refine for_mN walk_range (rng_len _ _) hl1 (fun (s1 : (List Int) × (Int × Int × Int) × (List Int)) σ' H' => ∃ (y1 : Option V) (y2 : Option V) (G2 : Hp) (p4 : Addr), σ' = [some (.ref a_box_1), some (.ref a_rows_1), some (.int count_1), some (.ref p4), some (.ref p3), y1, y2] ∧ St H' G2 ((p3, .lst (s1.2.2.map V.int)) :: (a_box_1, .lst [.int s1.2.1.1, .int s1.2.1.2.1, .int s1.2.1.2.2]) :: Fr) ∧ Same G1 G2 ∧ G2 p4 = some (.lst (s1.1.map V.int))) ?_ ?_ ?_ ?_
    · exact ⟨_, _, _, _, rfl, st, Same.refl _, f1⟩
    · intros; trivial
    · rintro i k_1 x s1 s2 σ' H' H1' hx ⟨y1, y2, G2, p4, rfl, st, gs2, f2⟩ hy hb1
      obtain ⟨rfl, rfl⟩ := rng_y hx hy
      refine ⟨_, rfl, ?_⟩
      refine ⟨_, rfl, ?_⟩
      refine ⟨_, _, rfl, .inl (SqL.of (st.sub _ _ f2)), ?_⟩
      rw [List.length_map]
      obtain ⟨r1, e1, hb1⟩ := bs hb1
      have st := st.front 1 rfl
      refine ⟨_, _, _, s1.2.1, (s1.1.length : Int), _, rfl, st, e1, fun H1 G3 gs3 st => ?_⟩
      refine ⟨_, rfl, ?_⟩
      refine ⟨.inl ⟨rfl, _, (SqL.of (st.at 1 rfl))⟩, ?_⟩
      refine ⟨_, rfl, ?_⟩
      refine ⟨_, rfl, ?_⟩
      obtain ⟨x1, e2, hb1⟩ := bs hb1
      refine ⟨_, _, _, _, rfl, rfl, (SqL.of (st.sub _ _ (gs3 _ _ f2))), (by rw [atI_map, e2]; rfl), ?_⟩
      obtain ⟨hg2, hb1⟩ := gd_some hb1
      refine ⟨_, _, _, rfl, rfl, st.at 1 rfl, szl (by rw [List.length_map]; exact hg2), ?_⟩
      have st := st.putE 1 rfl (lst_snoc (f := V.int) s1.2.2 x1)
      refine ⟨_, rfl, ?_⟩
      refine ⟨_, rfl, ?_⟩
      refine ⟨_, rfl, ?_⟩
      refine ⟨_, _, rfl, (SqL.of (st.sub _ _ (gs3 _ _ f2))), fun p5 hp5 => ?_⟩
      obtain ⟨G4, st, gs4, f3⟩ := st.newFE (o := .lst (cutV (s1.1.map V.int) none (some r1.1))) (o' := .lst ((cutA s1.1 none (some r1.1)).map V.int)) hp5 (lst_cut _ _ _)
      refine ⟨_, rfl, ?_⟩
      refine ⟨_, rfl, ?_⟩
      refine ⟨_, _, rfl, rfl, ?_⟩
      refine ⟨_, rfl, ?_⟩
      refine ⟨_, _, rfl, (SqL.of (st.sub _ _ ((gs3.trans gs4) _ _ f2))), fun p6 hp6 => ?_⟩
      obtain ⟨G5, st, gs5, f4⟩ := st.newFE (o := .lst (cutV (s1.1.map V.int) (some (r1.1 + 1)) none)) (o' := .lst ((cutA s1.1 (some (r1.1 + 1)) none).map V.int)) hp6 (lst_cut _ _ _)
      obtain ⟨hg3, hb1⟩ := gd_some hb1
      refine ⟨_, _, _, _, rfl, rfl, (st.sub _ _ (gs5 _ _ f3)), (st.sub _ _ f4), sz (by rw [List.length_map, List.length_map]; omega), fun p7 hp7 => ?_⟩
      obtain ⟨G6, st, gs6, f5⟩ := st.newFE (o := .lst ((cutA s1.1 none (some r1.1)).map V.int ++ (cutA s1.1 (some (r1.1 + 1)) none).map V.int)) (o' := .lst (((cutA s1.1 none (some r1.1)) ++ (cutA s1.1 (some (r1.1 + 1)) none)).map V.int)) hp7 lst_app
      have st := st.front 0 rfl
      have st := st.front 1 rfl
      obtain rfl := Option.some.inj hb1
      exact ⟨_, _, _, _, rfl, st, ((((gs2.trans gs3).trans gs4).trans gs5).trans gs6), f5⟩
    · rintro σ' H' ⟨y3, y4, G7, p8, rfl, st, gs7, f6⟩
      refine ⟨_, rfl, ?_⟩
      obtain ⟨G8, st, gs8, f7⟩ := st.frzE 0 rfl
      obtain rfl := Option.some.inj h
      exact q _ _ _ ((gs1.trans gs7).trans gs8) st f7
theorem ok_places (T : Txt K mg) : FnOk P w K mg base CX0 2 T.f_places T.fd_places ["_law_box", "_law_count"] (sp_places K) := by
  have G_take : FnOk P w K mg base CX0 1 T.f_take T.fd_take ["_law_box", "_law_size"] (sp_take K) := ok_take T
  refine T.F_places.ok sc_places (fun vs H Q E h => ?_) (fun cdv A outer s H vs Q E hr h => ?_)
  · obtain ⟨G, Fr, a_box_1, box_1, count_1, r, rfl, _⟩ := h
    rfl
  · obtain ⟨G, Fr, a_box_1, box_1, count_1, r, rfl, st, h, q⟩ := h
    have hu := hu_of hr
    unfold m_places at h
    refine ⟨_, (pss_cons (ps_set (i := 2) sc_places.nd rfl (Or.inl rfl) (pe_lst pa_nil))
      (pss_cons (ps_set (i := 3) sc_places.nd rfl (Or.inl rfl) (pe_op op_sub (pe_call G_take (hr.mono (by omega)) (by rfl) T.g_take T.F_take.kp T.b_take .nil pass0 (pa_cons (pv 0) (pa_cons pe_int pa_nil))) pe_int))
      (pss_cons (ps_for PassesOwn.never rfl (pi_range1 (by rfl) T.z_range (pa_cons (pv 1) pa_nil)) (pg_name (i := 4) sc_places.nd rfl (Or.inl rfl))
      (pss_cons (ps_set (i := 5) sc_places.nd rfl (Or.inl rfl) (pe_op op_add pe_int (pe_call G_take (hr.mono (by omega)) (by rfl) T.g_take T.F_take.kp T.b_take .nil pass0 (pa_cons (pv 0) (pa_cons pe_int pa_nil)))))
        (C8.pss_cut (ps_if (pt_cmpR op_eq (pe_call G_take (hr.mono (by omega)) (by rfl) T.g_take T.F_take.kp T.b_take .nil pass0 (pa_cons (pv 0) (pa_cons pe_int pa_nil))) pe_int (nomark _))
        (pss_one (ps_set (i := 5) sc_places.nd rfl (Or.inl rfl) (pe_op op_add (pv 5) pe_int)))
        pss_nil)
        (pss_cons (ps_set (i := 3) sc_places.nd rfl (Or.inl rfl) (pe_op op_add (pv 3) (pv 5)))
        (pss_one (ps_expr (pe_bm PySem.F.plainAttrs_list PySem.F.slot_list_append PySem.F.type_list_append mt_append (pv 2) (pa_cons (pv 3) pa_nil))))))))
      (pss_one (ps_ret (pv 2)))))), ?_⟩
    refine ⟨Nat.zero_le _, fun p2 hp2 => ?_⟩
    have st := st.newME (o := .lst []) (o' := .lst ([].map V.int)) hp2 rfl
    refine ⟨_, rfl, ?_⟩
    obtain ⟨r1, e1, h⟩ := bs h
    have st := st.front 1 rfl
    refine ⟨_, _, _, box_1, 3, _, rfl, st, e1, fun H1 G1 gs1 st => ?_⟩
    refine ⟨_, _, rfl, rfl, ?_⟩
    refine ⟨_, rfl, ?_⟩
    obtain ⟨hg1, h⟩ := gd_some h
    refine ⟨_, rfl, (by omega), (by omega), ?_⟩
    obtain ⟨o1, hl1, h⟩ := bs h
    refine for_mN walk_range (rng_len _ _) hl1 (fun (s1 : Int × (Int × Int × Int) × (List Int)) σ' H' => ∃ (y1 : Option V) (y2 : Option V) (G2 : Hp) , σ' = [some (.ref a_box_1), some (.int count_1), some (.ref p2), some (.int s1.1), y1, y2] ∧ St H' G2 ((a_box_1, .lst [.int s1.2.1.1, .int s1.2.1.2.1, .int s1.2.1.2.2]) :: (p2, .lst (s1.2.2.map V.int)) :: Fr) ∧ Same G1 G2) ?_ ?_ ?_ ?_
    · exact ⟨_, _, _, rfl, st, Same.refl _⟩
    · intros; trivial
    · rintro i k_1 x s1 s2 σ' H' H1' hx ⟨y1, y2, G2, rfl, st, gs2⟩ hy hb1
      obtain ⟨rfl, rfl⟩ := rng_y hx hy
      refine ⟨_, rfl, ?_⟩
      obtain ⟨r2, e2, hb1⟩ := bs hb1
      have st := st.front 0 rfl
      refine ⟨_, _, _, s1.2.1, 2, _, rfl, st, e2, fun H2 G3 gs3 st => ?_⟩
      refine ⟨_, _, rfl, rfl, ?_⟩
      obtain ⟨w1, hw1, hb1⟩ := bs hb1
      refine ⟨fun σ' H' => ∃ (G4 : Hp) , σ' = [some (.ref a_box_1), some (.int count_1), some (.ref p2), some (.int s1.1), some (.int k_1), some (.int w1.1)] ∧ St H' G4 ((a_box_1, .lst [.int w1.2.1, .int w1.2.2.1, .int w1.2.2.2]) :: (p2, .lst (s1.2.2.map V.int)) :: Fr) ∧ Same G3 G4, ?_, ?_⟩
      · refine ⟨_, rfl, ?_⟩
        obtain ⟨r3, e3, hw1⟩ := bs hw1
        have st := st.front 0 rfl
        refine ⟨_, _, _, r2.2, 6, _, rfl, st, e3, fun H3 G5 gs5 st => ?_⟩
        refine ⟨rfl, _, rfl, ?_⟩
        refine ite2 (fun hc1 => ?_) (fun hc1 => ?_)
        · rw [dEq] at hc1
          have hc1 : r3.1 = 0 := of_decide_eq_true hc1
          rw [if_pos hc1] at hw1
          refine ⟨_, rfl, ?_⟩
          refine ⟨_, _, rfl, rfl, ?_⟩
          obtain rfl := Option.some.inj hw1
          exact ⟨_, rfl, st, gs5⟩
        · rw [dEq] at hc1
          have hc1 : ¬ (r3.1 = 0) := ndec hc1
          rw [if_neg hc1] at hw1
          obtain rfl := Option.some.inj hw1
          exact ⟨_, rfl, st, gs5⟩
      · rintro σ' H' ⟨G4, rfl, st, gs4⟩
        refine ⟨_, rfl, ?_⟩
        refine ⟨_, rfl, ?_⟩
        refine ⟨_, _, rfl, rfl, ?_⟩
        refine ⟨_, rfl, ?_⟩
        refine ⟨.inl ⟨rfl, _, (SqL.of (st.at 1 rfl))⟩, ?_⟩
        refine ⟨_, rfl, ?_⟩
        obtain ⟨hg2, hb1⟩ := gd_some hb1
        refine ⟨_, _, _, rfl, rfl, st.at 1 rfl, szl (by rw [List.length_map]; exact hg2), ?_⟩
        have st := st.putE 1 rfl (lst_snoc (f := V.int) s1.2.2 (s1.1 + w1.1))
        obtain rfl := Option.some.inj hb1
        exact ⟨_, _, _, rfl, st, ((gs2.trans gs3).trans gs4)⟩
    · rintro σ' H' ⟨y3, y4, G6, rfl, st, gs6⟩
      refine ⟨_, rfl, ?_⟩
      obtain ⟨G7, st, gs7, f1⟩ := st.frzE 1 rfl
      obtain rfl := Option.some.inj h
      exact q _ _ _ ((gs1.trans gs6).trans gs7) st f1
theorem ok_book (T : Txt K mg) : FnOk P w K mg base CX0 2 T.f_book T.fd_book ["_law_box", "_law_places_here", "_law_top"] (sp_book K) := by
  have G_take : FnOk P w K mg base CX0 1 T.f_take T.fd_take ["_law_box", "_law_size"] (sp_take K) := ok_take T
  refine T.F_book.ok sc_book (fun vs H Q E h => ?_) (fun cdv A outer s H vs Q E hr h => ?_)
  · obtain ⟨G, Fr, a_box_1, box_1, a_places_1, places_1, top_1, r, rfl, _⟩ := h
    rfl
  · obtain ⟨G, Fr, a_box_1, box_1, a_places_1, places_1, top_1, r, rfl, st, f_places_1, h, q⟩ := h
    have hu := hu_of hr
    unfold m_book at h
    refine ⟨_, (pss_cons (ps_set (i := 3) sc_book.nd rfl (Or.inl rfl) pe_dnewK)
      (pss_cons (ps_for PassesOwn.never rfl (pi_list (pv 1)) (pg_name (i := 4) sc_book.nd rfl (Or.inl rfl))
      (pss_cons (ps_set (i := 5) sc_book.nd rfl (Or.inl rfl) (pe_op op_sub (pe_call G_take (hr.mono (by omega)) (by rfl) T.g_take T.F_take.kp T.b_take .nil pass0 (pa_cons (pv 0) (pa_cons (pe_op op_add (pv 2) pe_int) pa_nil))) pe_int))
        (pss_one (ps_if (pt_cmpR op_gt (pv 5) pe_int (nomark _))
        (pss_one (ps_dput hu (pv 3) (pv 4) (pv 5) rfl))
        pss_nil))))
      (pss_one (ps_ret (pv 3))))), ?_⟩
    refine fun p2 hp2 => ?_
    have st := st.newME (o := .dK []) (o' := .dK (encD [])) hp2 rfl
    refine ⟨_, rfl, ?_⟩
    refine ⟨_, rfl, ⟨_, (SqL.of (st.sub _ _ f_places_1))⟩, ?_⟩
    obtain ⟨o1, hl1, h⟩ := bs h
    refine for_mN (walk_list (xs := places_1.map V.int)) (List.length_map _) hl1 (fun (s1 : (List (Int × Int)) × (Int × Int × Int)) σ' H' => ∃ (y1 : Option V) (y2 : Option V) (G1 : Hp) , σ' = [some (.ref a_box_1), some (.ref a_places_1), some (.int top_1), some (.ref p2), y1, y2] ∧ St H' G1 ((p2, .dK (encD s1.1)) :: (a_box_1, .lst [.int s1.2.1, .int s1.2.2.1, .int s1.2.2.2]) :: Fr) ∧ Same G G1) ?_ ?_ ?_ ?_
    · exact ⟨_, _, _, rfl, st, Same.refl _⟩
    · rintro s1 σ' H' ⟨y1, y2, G1, rfl, st, gs1⟩
      exact (SqL.of (st.sub _ _ (gs1 _ _ f_places_1)))
    · rintro i place_1 x s1 s2 σ' H' H1' hx ⟨y1, y2, G1, rfl, st, gs1⟩ hy hb1
      obtain ⟨rfl, rfl⟩ := flat_y hx hy
      refine ⟨_, rfl, ?_⟩
      refine ⟨_, rfl, ?_⟩
      refine ⟨_, _, rfl, rfl, ?_⟩
      obtain ⟨r1, e1, hb1⟩ := bs hb1
      have st := st.front 1 rfl
      refine ⟨_, _, _, s1.2, (top_1 + 2), _, rfl, st, e1, fun H1 G2 gs2 st => ?_⟩
      refine ⟨_, _, rfl, rfl, ?_⟩
      refine ⟨_, rfl, ?_⟩
      refine ⟨_, _, rfl, rfl, _, rfl, ?_⟩
      refine ite2 (fun hc1 => ?_) (fun hc1 => ?_)
      · have hc1 : (r1.1 - 1) > 0 := of_decide_eq_true hc1
        rw [if_pos hc1] at hb1
        refine ⟨_, rfl, ?_⟩
        refine ⟨_, rfl, ?_⟩
        refine ⟨_, rfl, ?_⟩
        obtain ⟨hg1, hb1⟩ := gd_some hb1
        refine ⟨_, _, rfl, DPut.k (k := Sum.inl place_1) (st.at 1 rfl) (szl (by rw [encD_len]; exact hg1)), ?_⟩
        have st := st.putE 1 rfl (dk_put s1.1 place_1 (r1.1 - 1))
        have st := st.front 0 rfl
        have st := st.front 1 rfl
        obtain rfl := Option.some.inj hb1
        exact ⟨_, _, _, rfl, st, (gs1.trans gs2)⟩
      · have hc1 : ¬ ((r1.1 - 1) > 0) := ndec hc1
        rw [if_neg hc1] at hb1
        have st := st.front 0 rfl
        have st := st.front 1 rfl
        obtain rfl := Option.some.inj hb1
        exact ⟨_, _, _, rfl, st, (gs1.trans gs2)⟩
    · rintro σ' H' ⟨y3, y4, G3, rfl, st, gs3⟩
      refine ⟨_, rfl, ?_⟩
      obtain ⟨G4, st, gs4, f1⟩ := st.frzE 0 rfl
      obtain rfl := Option.some.inj h
      exact q _ _ _ (gs3.trans gs4) st f1
theorem ok_written (T : Txt K mg) : FnOk P w K mg base CX0 1 T.f_written T.fd_written ["_law_book_here", "_law_writes"] (sp_written K) := by
  refine T.F_written.ok sc_written (fun vs H Q E h => ?_) (fun cdv A outer s H vs Q E hr h => ?_)
  · obtain ⟨G, Fr, a_book_1, book_1, a_writes_1, writes_1, r, rfl, _⟩ := h
    rfl
  · obtain ⟨G, Fr, a_book_1, book_1, a_writes_1, writes_1, r, rfl, st, f_book_1, f_writes_1, h, q⟩ := h
    have hu := hu_of hr
    unfold m_written at h
    refine ⟨_, (pss_cons (ps_set (i := 2) sc_written.nd rfl (Or.inl rfl) pe_dnewK)
      (pss_cons (ps_for PassesOwn.never rfl (pi_list (pe_callB cr_sortedI (by rfl) T.z_sorted (by decide +kernel) (pa_cons (pe_lc (own := [("_law_p", 5)]) (g := gName 5) (tt := tYes) rfl sc_written.nd (pi_list (pe_op op_cat (LkP.pe_listKeys rfl (pv 0) (by rfl) T.z_list (by decide +kernel)) (pe_lock (pe_lc (own := [("_law_q", 6)]) (g := gName 6) rfl sc_written.nd (pi_keys (pv 1)) (blkOk_by (own := [("_law_q", 6)]) (N := N_written) (sc := defScope s_written) (by decide +kernel)) (fun _ _ _ _ _ => (pg_name (i := 6) sc_written.nd rfl (Or.inl rfl))) (fun _ _ _ _ _ => (pts_one (pt_cmp (pc_dnotin hu (pv 6) (pv 0))))) (fun _ _ _ _ _ => (pv 6)))))) (blkOk_by (own := [("_law_p", 5)]) (N := N_written) (sc := defScope s_written) (by decide +kernel)) (fun _ _ _ _ _ => (pg_name (i := 5) sc_written.nd rfl (Or.inl rfl))) (fun _ _ _ _ _ => pts_nil) (fun _ _ _ _ _ => (pe_callTy call_int1 (by rfl) T.z_int (by decide +kernel) (pa_cons (pv 5) pa_nil)))) pa_nil))) (pg_name (i := 3) sc_written.nd rfl (Or.inl rfl))
      (pss_cons (ps_set (i := 4) sc_written.nd rfl (Or.inl rfl) (pe_dget2 hu (pv 0) (pv 3) pe_int (by constructor <;> rfl)))
        (C8.pss_cut (ps_if (pt_cmp (pc_din hu (pv 3) (pv 1)))
        (pss_one (ps_set (i := 4) sc_written.nd rfl (Or.inl rfl) (pe_dget hu (pv 1) (pv 3) (fun _ _ => rfl))))
        pss_nil)
        (pss_one (ps_if (pt_cmpR op_gt (pv 4) pe_int (nomark _))
        (pss_one (ps_dput hu (pv 2) (pv 3) (pv 4) rfl))
        pss_nil)))))
      (pss_one (ps_ret (pv 2))))), ?_⟩
    refine fun p2 hp2 => ?_
    have st := st.newME (o := .dK []) (o' := .dK (encD [])) hp2 rfl
    refine ⟨_, rfl, ?_⟩
    refine ⟨_, _, rfl, (st.sub _ _ f_book_1), fun p3 hp3 => ?_⟩
    obtain ⟨G1, st, gs1, f1⟩ := st.newFE (o := .lst ((encD book_1).map fun q => kV q.1)) (o' := .lst ((keys book_1).map V.int)) hp3 (lst_keys _)
    obtain ⟨hg1, h⟩ := gd_some h
    refine ⟨_, _, (st.sub _ _ (gs1 _ _ f_writes_1)), trivial, fun od => ⟨_, rfl, _, _, rfl, .inl ⟨_, upd_same, ?_⟩⟩⟩
    refine lc_filt (xs := (keys writes_1)) (pp := fun (qx_1 : Int) => ¬ (qx_1 ∈ keys book_1)) (walk_keys (kvs := encD writes_1)) keys_hn (fun (qx_1 : Int) => qx_1) V.int (fun (qx_1 : Int) (x : V) => x = .int qx_1) keys_y (fun D acc hD => lock_gd hD) ?_ (sz (Nat.le_of_lt hg1)) ?_ ?_ ?_
    · exact fun _ => rfl
    · intro D acc1 qx_1 x hD hm hx
      obtain rfl := hx
      have lk := lock_rd (o := .lst acc1) (st.sub _ _ (gs1 _ _ f_writes_1)) hD
      exact (fun Q q => ⟨_, rfl, ⟨_, rfl, ⟨_, _, rfl, dg_at (lk _ _ (Or.inl (st.sub _ _ (gs1 _ _ f_book_1)))) qx_1, (by rw [isSome_eq, dNot]; exact ⟨_, rfl, q⟩)⟩⟩⟩)
    · intro D acc1 qx_1 x hD hm hx
      obtain rfl := hx
      have lk := lock_rd (o := .lst acc1) (st.sub _ _ (gs1 _ _ f_writes_1)) hD
      exact (fun Q q => ⟨_, rfl, q⟩)
    refine fun p4 hp4 => ⟨lock_gd hp4, ?_⟩
    rw [lock_same (st.sub _ _ (gs1 _ _ f_writes_1)) hp4]
    have hp4 := lock_free hp4
    obtain ⟨G2, st, gs2, f2⟩ := st.newFE (o := .lst ((((keys writes_1).filter (fun (qx_1 : Int) => decide (¬ (qx_1 ∈ keys book_1)))).map (fun (qx_1 : Int) => qx_1)).map V.int)) (o' := .lst ((((keys writes_1).filter (fun (qx_1 : Int) => decide (¬ (qx_1 ∈ keys book_1)))).map (fun (qx_1 : Int) => qx_1)).map V.int)) hp4 rfl
    obtain ⟨hg2, h⟩ := gd_some h
    refine ⟨_, _, _, _, rfl, rfl, (st.sub _ _ (gs2 _ _ f1)), (st.sub _ _ f2), sz (by rw [List.length_map, List.length_map]; omega), fun p5 hp5 => ?_⟩
    obtain ⟨G3, st, gs3, f3⟩ := st.newFE (o := .lst ((keys book_1).map V.int ++ (((keys writes_1).filter (fun (qx_1 : Int) => decide (¬ (qx_1 ∈ keys book_1)))).map (fun (qx_1 : Int) => qx_1)).map V.int)) (o' := .lst (((keys book_1) ++ (((keys writes_1).filter (fun (qx_1 : Int) => decide (¬ (qx_1 ∈ keys book_1)))).map (fun (qx_1 : Int) => qx_1))).map V.int)) hp5 lst_app
    refine ⟨_, rfl, ⟨_, (SqL.of (st.sub _ _ f3))⟩, ?_⟩
    obtain ⟨hg3, h⟩ := gd_some h
    refine lc_map (xs := ((keys book_1) ++ (((keys writes_1).filter (fun (qx_1 : Int) => decide (¬ (qx_1 ∈ keys book_1)))).map (fun (qx_1 : Int) => qx_1)))) (walk_list (xs := ((keys book_1) ++ (((keys writes_1).filter (fun (qx_1 : Int) => decide (¬ (qx_1 ∈ keys book_1)))).map (fun (qx_1 : Int) => qx_1))).map V.int)) (List.length_map _) (fun (p_1 : Int) => p_1) V.int (fun (p_1 : Int) (x : V) => x = .int p_1) flat_y (fun D acc hD => Same.seq (Same.new hD) (SqL.of (st.sub _ _ f3))) ?_ (sz (Nat.le_of_lt hg3)) ?_ (fun p6 hp6 => ?_)
    · exact fun _ => rfl
    · intro D acc2 p_1 x hD hm hx
      obtain rfl := hx
      have st := st.newM (o := .lst acc2) hD
      exact (fun Q q => ⟨_, rfl, .inl ⟨_, rfl, q⟩⟩)
    obtain ⟨G4, st, gs4, f4⟩ := st.newFE (o := .lst ((((keys book_1) ++ (((keys writes_1).filter (fun (qx_1 : Int) => decide (¬ (qx_1 ∈ keys book_1)))).map (fun (qx_1 : Int) => qx_1))).map (fun (p_1 : Int) => p_1)).map V.int)) (o' := .lst ((((keys book_1) ++ (((keys writes_1).filter (fun (qx_1 : Int) => decide (¬ (qx_1 ∈ keys book_1)))).map (fun (qx_1 : Int) => qx_1))).map (fun (p_1 : Int) => p_1)).map V.int)) hp6 rfl
    refine ⟨_, _, rfl, (SqL.of (st.sub _ _ f4)), fun ns1 p7 pr1 srt1 hp7 => ?_⟩
    obtain rfl : ns1 = (isort (((keys book_1) ++ (((keys writes_1).filter (fun (qx_1 : Int) => decide (¬ (qx_1 ∈ keys book_1)))).map (fun (qx_1 : Int) => qx_1))).map (fun (p_1 : Int) => p_1))) := isort_eq pr1 srt1
    obtain ⟨G5, st, gs5, f5⟩ := st.newFE (o := .lst ((isort (((keys book_1) ++ (((keys writes_1).filter (fun (qx_1 : Int) => decide (¬ (qx_1 ∈ keys book_1)))).map (fun (qx_1 : Int) => qx_1))).map (fun (p_1 : Int) => p_1))).map V.int)) (o' := .lst ((isort (((keys book_1) ++ (((keys writes_1).filter (fun (qx_1 : Int) => decide (¬ (qx_1 ∈ keys book_1)))).map (fun (qx_1 : Int) => qx_1))).map (fun (p_1 : Int) => p_1))).map V.int)) hp7 rfl
    refine ⟨_, rfl, ⟨_, (SqL.of (st.sub _ _ f5))⟩, ?_⟩
    obtain ⟨o1, hl1, h⟩ := bs h
    refine for_mN (walk_list (xs := (isort (((keys book_1) ++ (((keys writes_1).filter (fun (qx_1 : Int) => decide (¬ (qx_1 ∈ keys book_1)))).map (fun (qx_1 : Int) => qx_1))).map (fun (p_1 : Int) => p_1))).map V.int)) (List.length_map _) hl1 (fun (s1 : (List (Int × Int))) σ' H' => ∃ (y1 : Option V) (y2 : Option V) (G6 : Hp) , σ' = [some (.ref a_book_1), some (.ref a_writes_1), some (.ref p2), y1, y2, none, none] ∧ St H' G6 ((p2, .dK (encD s1)) :: Fr) ∧ Same G5 G6) ?_ ?_ ?_ ?_
    · exact ⟨_, _, _, rfl, st, Same.refl _⟩
    · rintro s1 σ' H' ⟨y1, y2, G6, rfl, st, gs6⟩
      exact (SqL.of (st.sub _ _ (gs6 _ _ f5)))
    · rintro i place_1 x s1 s2 σ' H' H1' hx ⟨y1, y2, G6, rfl, st, gs6⟩ hy hb1
      obtain ⟨rfl, rfl⟩ := flat_y hx hy
      refine ⟨_, rfl, ?_⟩
      refine ⟨_, rfl, isD (Or.inl (st.sub _ _ ((((((gs1.trans gs2).trans gs3).trans gs4).trans gs5).trans gs6) _ _ f_book_1))), ?_⟩
      refine ⟨_, rfl, ?_⟩
      refine ⟨_, dg_at (Or.inl (st.sub _ _ ((((((gs1.trans gs2).trans gs3).trans gs4).trans gs5).trans gs6) _ _ f_book_1))) place_1, ?_⟩
      rw [get2_eq]
      obtain ⟨w1, hw1, hb1⟩ := bs hb1
      refine ⟨fun σ' H' => ∃ (G7 : Hp) , σ' = [some (.ref a_book_1), some (.ref a_writes_1), some (.ref p2), some (.int place_1), some (.int w1), none, none] ∧ St H' G7 ((p2, .dK (encD s1)) :: Fr) ∧ Same G6 G7, ?_, ?_⟩
      · refine ⟨_, rfl, ?_⟩
        refine ⟨_, rfl, ?_⟩
        refine ⟨_, _, rfl, dg_at (Or.inl (st.sub _ _ ((((((gs1.trans gs2).trans gs3).trans gs4).trans gs5).trans gs6) _ _ f_writes_1))) place_1, ?_⟩
        rw [isSome_eq]
        refine ⟨_, rfl, ?_⟩
        refine ite2 (fun hc1 => ?_) (fun hc1 => ?_)
        · have hc1 : place_1 ∈ keys writes_1 := of_decide_eq_true hc1
          rw [if_pos hc1] at hw1
          refine ⟨_, rfl, ?_⟩
          refine ⟨_, rfl, ?_⟩
          obtain ⟨x1, e1, hw1⟩ := bs hw1
          refine ⟨_, _, rfl, dg_some (Or.inl (st.sub _ _ ((((((gs1.trans gs2).trans gs3).trans gs4).trans gs5).trans gs6) _ _ f_writes_1))) e1, ?_⟩
          obtain rfl := Option.some.inj hw1
          exact ⟨_, rfl, st, Same.refl _⟩
        · have hc1 : ¬ (place_1 ∈ keys writes_1) := ndec hc1
          rw [if_neg hc1] at hw1
          obtain rfl := Option.some.inj hw1
          exact ⟨_, rfl, st, Same.refl _⟩
      · rintro σ' H' ⟨G7, rfl, st, gs7⟩
        refine ⟨_, rfl, ?_⟩
        refine ⟨_, _, rfl, rfl, _, rfl, ?_⟩
        refine ite2 (fun hc2 => ?_) (fun hc2 => ?_)
        · have hc2 : w1 > 0 := of_decide_eq_true hc2
          rw [if_pos hc2] at hb1
          refine ⟨_, rfl, ?_⟩
          refine ⟨_, rfl, ?_⟩
          refine ⟨_, rfl, ?_⟩
          obtain ⟨hg5, hb1⟩ := gd_some hb1
          refine ⟨_, _, rfl, DPut.k (k := Sum.inl place_1) (st.at 0 rfl) (szl (by rw [encD_len]; exact hg5)), ?_⟩
          have st := st.putE 0 rfl (dk_put s1 place_1 w1)
          obtain rfl := Option.some.inj hb1
          exact ⟨_, _, _, rfl, st, (gs6.trans gs7)⟩
        · have hc2 : ¬ (w1 > 0) := ndec hc2
          rw [if_neg hc2] at hb1
          obtain rfl := Option.some.inj hb1
          exact ⟨_, _, _, rfl, st, (gs6.trans gs7)⟩
    · rintro σ' H' ⟨y3, y4, G8, rfl, st, gs8⟩
      refine ⟨_, rfl, ?_⟩
      obtain ⟨G9, st, gs9, f6⟩ := st.frzE 0 rfl
      obtain rfl := Option.some.inj h
      exact q _ _ _ ((((((gs1.trans gs2).trans gs3).trans gs4).trans gs5).trans gs8).trans gs9) st f6
theorem ok_is_book (T : Txt K mg) : FnOk P w K mg base CX0 1 T.f_is_book T.fd_is_book ["_law_told"] (sp_is_book K) := by
  refine T.F_is_book.ok sc_is_book (fun vs H Q E h => ?_) (fun cdv A outer s H vs Q E hr h => ?_)
  · obtain ⟨a_told_1, told_1, r, rfl, _⟩ := h
    rfl
  · obtain ⟨a_told_1, told_1, r, rfl, f_told_1, h, q⟩ := h
    have hu := hu_of hr
    have st : St H H [] := St.refl
    unfold m_is_book at h
    refine ⟨_, (pss_cons (ps_if (pt_not (pt_val (pe_callB (r := rIsi K) call_isi (by rfl) T.z_isinstance (by decide +kernel) (pa_cons (pv 0) (pa_cons (pe_bltn (v := .ty "dict") (u := .type "dict") (by rfl) T.z_dict (by decide +kernel) rfl) pa_nil)))))
      (pss_one (ps_ret pe_bl))
      pss_nil)
      (pss_cons (ps_lock (ps_for PassesOwn.never rfl (pi_keys (pv 0)) (pg_name (i := 1) sc_is_book.nd rfl (Or.inl rfl))
      (pss_cons (ps_if (PW.pt (pw_or (pt_not (pt_val (pe_callB (r := rIsi K) call_isi (by rfl) T.z_isinstance (by decide +kernel) (pa_cons (pv 1) (pa_cons (pe_bltn (v := .ty "int") (u := .type "int") (by rfl) T.z_int (by decide +kernel) rfl) pa_nil))))) (pw_or1 (pt_val (pe_callB (r := rIsi K) call_isi (by rfl) T.z_isinstance (by decide +kernel) (pa_cons (pv 1) (pa_cons (pe_bltn (v := .ty "bool") (u := .type "bool") (by rfl) T.z_bool (by decide +kernel) rfl) pa_nil)))))))
        (pss_one (ps_ret pe_bl))
        pss_nil)
        (pss_one (ps_if (PW.pt (pw_or (pt_not (pt_val (pe_callB (r := rIsi K) call_isi (by rfl) T.z_isinstance (by decide +kernel) (pa_cons (pe_dget hu (pv 0) (pv 1) (fun _ _ => rfl)) (pa_cons (pe_bltn (v := .ty "int") (u := .type "int") (by rfl) T.z_int (by decide +kernel) rfl) pa_nil))))) (pw_or1 (pt_val (pe_callB (r := rIsi K) call_isi (by rfl) T.z_isinstance (by decide +kernel) (pa_cons (pe_dget hu (pv 0) (pv 1) (fun _ _ => rfl)) (pa_cons (pe_bltn (v := .ty "bool") (u := .type "bool") (by rfl) T.z_bool (by decide +kernel) rfl) pa_nil)))))))
        (pss_one (ps_ret pe_bl))
        pss_nil)))))
      (pss_one (ps_ret pe_bl)))), ?_⟩
    refine ⟨_, rfl, ?_⟩
    refine ⟨_, _, _, _, true, rfl, .ty "dict", tyx_dict (Or.inl f_told_1), kit_ty (by decide +kernel), ?_⟩
    refine ⟨_, rfl, ?_⟩
    refine iteF ?_
    refine ⟨_, _, f_told_1, trivial, fun od => ⟨_, rfl, _, _, rfl, .inl ⟨_, upd_same, ?_⟩⟩⟩
    have lk := lock_rd1 (od := od) f_told_1
    obtain ⟨o1, hl1, h⟩ := bs h
    refine for_mF (walk_keys (kvs := encD told_1)) keys_hn hl1 (fun (s1 : Unit) σ' H' => ∃ (y1 : Option V), σ' = [some (.ref a_told_1), y1] ∧ (L2.upd H a_told_1 (.frz od (.dK (encD told_1)))) = H') ?_ ?_ ?_ ?_
    · exact ⟨_, rfl, rfl⟩
    · rintro s1 σ' H' ⟨y1, rfl, rfl⟩
      exact upd_same
    · rintro i place_1 x s1 s2 σ' H' H1' hx ⟨y1, rfl, rfl⟩ hy hb1 hret1
      obtain ⟨rfl, rfl⟩ := keys_y hx hy
      refine ⟨_, rfl, ?_⟩
      refine ⟨_, _, _, _, true, rfl, .ty "int", .base (.int _), kit_ty (by decide +kernel), ?_⟩
      refine ⟨_, rfl, ?_⟩
      refine iteF ?_
      refine ⟨_, rfl, ?_⟩
      refine ⟨_, _, _, _, false, rfl, .ty "bool", .base (.int _), kit_ty (by decide +kernel), ?_⟩
      refine ⟨_, rfl, ?_⟩
      refine iteF ?_
      refine ⟨_, rfl, ?_⟩
      refine ⟨_, rfl, ?_⟩
      refine ⟨_, _, rfl, dg_some (lk _ _ (Or.inl f_told_1)) (dget_key (List.mem_of_getElem? hx)), ?_⟩
      refine ⟨_, _, _, _, true, rfl, .ty "int", .base (.int _), kit_ty (by decide +kernel), ?_⟩
      refine ⟨_, rfl, ?_⟩
      refine iteF ?_
      refine ⟨_, rfl, ?_⟩
      refine ⟨_, rfl, ?_⟩
      refine ⟨_, _, rfl, dg_some (lk _ _ (Or.inl f_told_1)) (dget_key (List.mem_of_getElem? hx)), ?_⟩
      refine ⟨_, _, _, _, false, rfl, .ty "bool", .base (.int _), kit_ty (by decide +kernel), ?_⟩
      refine ⟨_, rfl, ?_⟩
      refine iteF ?_
      obtain rfl := Option.some.inj hb1
      exact ⟨_, rfl, _, rfl, rfl⟩
    · rintro s3 σ' H' rfl ⟨y2, rfl, rfl⟩
      replace h := el_nx h
      refine ⟨upd_same, ?_⟩
      rw [lock_back f_told_1]
      obtain rfl := Option.some.inj h
      exact q
theorem ok_ints (T : Txt K mg) : FnOk P w K mg base CX0 1 T.f_ints T.fd_ints ["_law_told"] (sp_ints K) := by
  refine T.F_ints.ok sc_ints (fun vs H Q E h => ?_) (fun cdv A outer s H vs Q E hr h => ?_)
  · obtain ⟨a_told_1, told_1, r, rfl, _⟩ := h
    rfl
  · obtain ⟨a_told_1, told_1, r, rfl, f_told_1, h, q⟩ := h
    have hu := hu_of hr
    have st : St H H [] := St.refl
    unfold m_ints at h
    refine ⟨_, (pss_cons (ps_if (pt_not (pt_val (pe_callB (r := rIsi K) call_isi (by rfl) T.z_isinstance (by decide +kernel) (pa_cons (pv 0) (pa_cons (pe_bltn (v := .ty "list") (u := .type "list") (by rfl) T.z_list (by decide +kernel) rfl) pa_nil)))))
      (pss_one (ps_ret pe_bl))
      pss_nil)
      (pss_cons (ps_for PassesOwn.never rfl (pi_list (pv 0)) (pg_name (i := 1) sc_ints.nd rfl (Or.inl rfl))
      (pss_one (ps_if (PW.pt (pw_or (pt_not (pt_val (pe_callB (r := rIsi K) call_isi (by rfl) T.z_isinstance (by decide +kernel) (pa_cons (pv 1) (pa_cons (pe_bltn (v := .ty "int") (u := .type "int") (by rfl) T.z_int (by decide +kernel) rfl) pa_nil))))) (pw_or1 (pt_val (pe_callB (r := rIsi K) call_isi (by rfl) T.z_isinstance (by decide +kernel) (pa_cons (pv 1) (pa_cons (pe_bltn (v := .ty "bool") (u := .type "bool") (by rfl) T.z_bool (by decide +kernel) rfl) pa_nil)))))))
        (pss_one (ps_ret pe_bl))
        pss_nil)))
      (pss_one (ps_ret pe_bl)))), ?_⟩
    refine ⟨_, rfl, ?_⟩
    refine ⟨_, _, _, _, true, rfl, .ty "list", tyx_listS f_told_1, kit_ty (by decide +kernel), ?_⟩
    refine ⟨_, rfl, ?_⟩
    refine iteF ?_
    refine ⟨_, rfl, ?_⟩
    refine ⟨_, rfl, ⟨_, f_told_1⟩, ?_⟩
    obtain ⟨o1, hl1, h⟩ := bs h
    refine for_mF (walk_list (xs := told_1.map V.int)) (List.length_map _) hl1 (fun (s1 : Unit) σ' H' => ∃ (y1 : Option V), σ' = [some (.ref a_told_1), y1] ∧ H = H') ?_ ?_ ?_ ?_
    · exact ⟨_, rfl, rfl⟩
    · rintro s1 σ' H' ⟨y1, rfl, rfl⟩
      exact f_told_1
    · rintro i entry_1 x s1 s2 σ' H' H1' hx ⟨y1, rfl, rfl⟩ hy hb1 hret1
      obtain ⟨rfl, rfl⟩ := flat_y hx hy
      refine ⟨_, rfl, ?_⟩
      refine ⟨_, _, _, _, true, rfl, .ty "int", .base (.int _), kit_ty (by decide +kernel), ?_⟩
      refine ⟨_, rfl, ?_⟩
      refine iteF ?_
      refine ⟨_, rfl, ?_⟩
      refine ⟨_, _, _, _, false, rfl, .ty "bool", .base (.int _), kit_ty (by decide +kernel), ?_⟩
      refine ⟨_, rfl, ?_⟩
      refine iteF ?_
      obtain rfl := Option.some.inj hb1
      exact ⟨_, rfl, _, rfl, rfl⟩
    · rintro s3 σ' H' rfl ⟨y2, rfl, rfl⟩
      replace h := el_nx h
      obtain rfl := Option.some.inj h
      exact q
theorem ok_near (T : Txt K mg) : FnOk P w K mg base CX0 2 T.f_near T.fd_near ["_law_box", "_law_places_here", "_law_base", "_law_other", "_law_top"] (sp_near K) := by
  have G_take : FnOk P w K mg base CX0 1 T.f_take T.fd_take ["_law_box", "_law_size"] (sp_take K) := ok_take T
  refine T.F_near.ok sc_near (fun vs H Q E h => ?_) (fun cdv A outer s H vs Q E hr h => ?_)
  · obtain ⟨G, Fr, a_box_1, box_1, a_places_1, places_1, a_basex_1, basex_1, a_other_1, other_1, top_1, r, rfl, _⟩ := h
    rfl
  · obtain ⟨G, Fr, a_box_1, box_1, a_places_1, places_1, a_basex_1, basex_1, a_other_1, other_1, top_1, r, rfl, st, f_places_1, f_basex_1, f_other_1, h, q⟩ := h
    have hu := hu_of hr
    unfold m_near at h
    refine ⟨_, (pss_cons (ps_set (i := 5) sc_near.nd rfl (Or.inl rfl) pe_dnewK)
      (pss_cons (ps_for PassesOwn.never rfl (pi_list (pv 1)) (pg_name (i := 6) sc_near.nd rfl (Or.inl rfl))
      (pss_cons (ps_set (i := 7) sc_near.nd rfl (Or.inl rfl) (pe_dget2 hu (pv 2) (pv 6) pe_int (by constructor <;> rfl)))
        (pss_cons (ps_set (i := 8) sc_near.nd rfl (Or.inl rfl) (pe_call G_take (hr.mono (by omega)) (by rfl) T.g_take T.F_take.kp T.b_take .nil pass0 (pa_cons (pv 0) (pa_cons pe_int pa_nil))))
        (C8.pss_cut (ps_if (PW.pt (pw_or (pt_cmpR op_eq (pv 8) pe_int (nomark _)) (pw_or1 (pt_cmpR op_eq (pv 8) pe_int (nomark _)))))
        (pss_one (ps_set (i := 7) sc_near.nd rfl (Or.inl rfl) (pe_call G_take (hr.mono (by omega)) (by rfl) T.g_take T.F_take.kp T.b_take .nil pass0 (pa_cons (pv 0) (pa_cons (pe_op op_add (pv 4) pe_int) pa_nil)))))
        pss_nil)
        (C8.pss_cut (ps_if (pt_cmpR op_eq (pv 8) pe_int (nomark _))
        (pss_one (ps_set (i := 7) sc_near.nd rfl (Or.inl rfl) pe_int))
        pss_nil)
        (C8.pss_cut (ps_if (pt_cmpR op_gt (pv 8) pe_int (nomark _))
        (pss_one (ps_set (i := 7) sc_near.nd rfl (Or.inl rfl) (pe_dget2 hu (pv 3) (pv 6) pe_int (by constructor <;> rfl))))
        pss_nil)
        (pss_one (ps_if (pt_cmpR op_gt (pv 7) pe_int (nomark _))
        (pss_one (ps_dput hu (pv 5) (pv 6) (pv 7) rfl))
        pss_nil))))))))
      (pss_one (ps_ret (pv 5))))), ?_⟩
    refine fun p2 hp2 => ?_
    have st := st.newME (o := .dK []) (o' := .dK (encD [])) hp2 rfl
    refine ⟨_, rfl, ?_⟩
    refine ⟨_, rfl, ⟨_, (SqL.of (st.sub _ _ f_places_1))⟩, ?_⟩
    obtain ⟨o1, hl1, h⟩ := bs h
    refine for_mN (walk_list (xs := places_1.map V.int)) (List.length_map _) hl1 (fun (s1 : (List (Int × Int)) × (Int × Int × Int)) σ' H' => ∃ (y1 : Option V) (y2 : Option V) (y3 : Option V) (G1 : Hp) , σ' = [some (.ref a_box_1), some (.ref a_places_1), some (.ref a_basex_1), some (.ref a_other_1), some (.int top_1), some (.ref p2), y1, y2, y3] ∧ St H' G1 ((p2, .dK (encD s1.1)) :: (a_box_1, .lst [.int s1.2.1, .int s1.2.2.1, .int s1.2.2.2]) :: Fr) ∧ Same G G1) ?_ ?_ ?_ ?_
    · exact ⟨_, _, _, _, rfl, st, Same.refl _⟩
    · rintro s1 σ' H' ⟨y1, y2, y3, G1, rfl, st, gs1⟩
      exact (SqL.of (st.sub _ _ (gs1 _ _ f_places_1)))
    · rintro i place_1 x s1 s2 σ' H' H1' hx ⟨y1, y2, y3, G1, rfl, st, gs1⟩ hy hb1
      obtain ⟨rfl, rfl⟩ := flat_y hx hy
      refine ⟨_, rfl, ?_⟩
      refine ⟨_, rfl, isD (Or.inl (st.sub _ _ (gs1 _ _ f_basex_1))), ?_⟩
      refine ⟨_, rfl, ?_⟩
      refine ⟨_, dg_at (Or.inl (st.sub _ _ (gs1 _ _ f_basex_1))) place_1, ?_⟩
      rw [get2_eq]
      refine ⟨_, rfl, ?_⟩
      obtain ⟨r1, e1, hb1⟩ := bs hb1
      have st := st.front 1 rfl
      refine ⟨_, _, _, s1.2, 7, _, rfl, st, e1, fun H1 G2 gs2 st => ?_⟩
      obtain ⟨w1, hw1, hb1⟩ := bs hb1
      refine ⟨fun σ' H' => ∃ (G3 : Hp) , σ' = [some (.ref a_box_1), some (.ref a_places_1), some (.ref a_basex_1), some (.ref a_other_1), some (.int top_1), some (.ref p2), some (.int place_1), some (.int w1.1), some (.int r1.1)] ∧ St H' G3 ((a_box_1, .lst [.int w1.2.1, .int w1.2.2.1, .int w1.2.2.2]) :: (p2, .dK (encD s1.1)) :: Fr) ∧ Same G2 G3, ?_, ?_⟩
      · refine ⟨_, rfl, ?_⟩
        refine ⟨rfl, _, rfl, ?_⟩
        refine ite2 (fun hc1 => ?_) (fun hc1 => ?_)
        · rw [dEq] at hc1
          have hc1 : r1.1 = 2 := of_decide_eq_true hc1
          refine iteT ?_
          rw [if_pos (show (r1.1 = 2) ∨ (r1.1 = 3) from (Or.inl hc1))] at hw1
          refine ⟨_, rfl, ?_⟩
          refine ⟨_, rfl, ?_⟩
          refine ⟨_, _, rfl, rfl, ?_⟩
          obtain ⟨r2, e2, hw1⟩ := bs hw1
          have st := st.front 0 rfl
          refine ⟨_, _, _, r1.2, (top_1 + 1), _, rfl, st, e2, fun H2 G4 gs4 st => ?_⟩
          obtain rfl := Option.some.inj hw1
          exact ⟨_, rfl, st, gs4⟩
        · rw [dEq] at hc1
          have hc1 : ¬ (r1.1 = 2) := ndec hc1
          refine ⟨_, rfl, ?_⟩
          refine ⟨rfl, _, rfl, ?_⟩
          refine ite2 (fun hc2 => ?_) (fun hc2 => ?_)
          · rw [dEq] at hc2
            have hc2 : r1.1 = 3 := of_decide_eq_true hc2
            rw [if_pos (show (r1.1 = 2) ∨ (r1.1 = 3) from (Or.inr hc2))] at hw1
            refine ⟨_, rfl, ?_⟩
            refine ⟨_, rfl, ?_⟩
            refine ⟨_, _, rfl, rfl, ?_⟩
            obtain ⟨r3, e3, hw1⟩ := bs hw1
            have st := st.front 0 rfl
            refine ⟨_, _, _, r1.2, (top_1 + 1), _, rfl, st, e3, fun H3 G5 gs5 st => ?_⟩
            obtain rfl := Option.some.inj hw1
            exact ⟨_, rfl, st, gs5⟩
          · rw [dEq] at hc2
            have hc2 : ¬ (r1.1 = 3) := ndec hc2
            rw [if_neg (show ¬ ((r1.1 = 2) ∨ (r1.1 = 3)) from (fun h => h.elim hc1 hc2))] at hw1
            obtain rfl := Option.some.inj hw1
            exact ⟨_, rfl, st, Same.refl _⟩
      · rintro σ' H' ⟨G3, rfl, st, gs3⟩
        obtain ⟨w2, hw2, hb1⟩ := bs hb1
        refine ⟨fun σ' H' => ∃ (G6 : Hp) , σ' = [some (.ref a_box_1), some (.ref a_places_1), some (.ref a_basex_1), some (.ref a_other_1), some (.int top_1), some (.ref p2), some (.int place_1), some (.int w2), some (.int r1.1)] ∧ St H' G6 ((a_box_1, .lst [.int w1.2.1, .int w1.2.2.1, .int w1.2.2.2]) :: (p2, .dK (encD s1.1)) :: Fr) ∧ Same G3 G6, ?_, ?_⟩
        · refine ⟨_, rfl, ?_⟩
          refine ⟨rfl, _, rfl, ?_⟩
          refine ite2 (fun hc3 => ?_) (fun hc3 => ?_)
          · rw [dEq] at hc3
            have hc3 : r1.1 = 4 := of_decide_eq_true hc3
            rw [if_pos hc3] at hw2
            obtain rfl := Option.some.inj hw2
            exact ⟨_, rfl, st, Same.refl _⟩
          · rw [dEq] at hc3
            have hc3 : ¬ (r1.1 = 4) := ndec hc3
            rw [if_neg hc3] at hw2
            obtain rfl := Option.some.inj hw2
            exact ⟨_, rfl, st, Same.refl _⟩
        · rintro σ' H' ⟨G6, rfl, st, gs6⟩
          obtain ⟨w3, hw3, hb1⟩ := bs hb1
          refine ⟨fun σ' H' => ∃ (G7 : Hp) , σ' = [some (.ref a_box_1), some (.ref a_places_1), some (.ref a_basex_1), some (.ref a_other_1), some (.int top_1), some (.ref p2), some (.int place_1), some (.int w3), some (.int r1.1)] ∧ St H' G7 ((a_box_1, .lst [.int w1.2.1, .int w1.2.2.1, .int w1.2.2.2]) :: (p2, .dK (encD s1.1)) :: Fr) ∧ Same G6 G7, ?_, ?_⟩
          · refine ⟨_, rfl, ?_⟩
            refine ⟨_, _, rfl, rfl, _, rfl, ?_⟩
            refine ite2 (fun hc4 => ?_) (fun hc4 => ?_)
            · have hc4 : r1.1 > 4 := of_decide_eq_true hc4
              rw [if_pos hc4] at hw3
              refine ⟨_, rfl, ?_⟩
              refine ⟨_, rfl, isD (Or.inl (st.sub _ _ ((((gs1.trans gs2).trans gs3).trans gs6) _ _ f_other_1))), ?_⟩
              refine ⟨_, rfl, ?_⟩
              refine ⟨_, dg_at (Or.inl (st.sub _ _ ((((gs1.trans gs2).trans gs3).trans gs6) _ _ f_other_1))) place_1, ?_⟩
              rw [get2_eq]
              obtain rfl := Option.some.inj hw3
              exact ⟨_, rfl, st, Same.refl _⟩
            · have hc4 : ¬ (r1.1 > 4) := ndec hc4
              rw [if_neg hc4] at hw3
              obtain rfl := Option.some.inj hw3
              exact ⟨_, rfl, st, Same.refl _⟩
          · rintro σ' H' ⟨G7, rfl, st, gs7⟩
            refine ⟨_, rfl, ?_⟩
            refine ⟨_, _, rfl, rfl, _, rfl, ?_⟩
            refine ite2 (fun hc5 => ?_) (fun hc5 => ?_)
            · have hc5 : w3 > 0 := of_decide_eq_true hc5
              rw [if_pos hc5] at hb1
              refine ⟨_, rfl, ?_⟩
              refine ⟨_, rfl, ?_⟩
              refine ⟨_, rfl, ?_⟩
              obtain ⟨hg1, hb1⟩ := gd_some hb1
              refine ⟨_, _, rfl, DPut.k (k := Sum.inl place_1) (st.at 1 rfl) (szl (by rw [encD_len]; exact hg1)), ?_⟩
              have st := st.putE 1 rfl (dk_put s1.1 place_1 w3)
              have st := st.front 0 rfl
              have st := st.front 1 rfl
              obtain rfl := Option.some.inj hb1
              exact ⟨_, _, _, _, rfl, st, ((((gs1.trans gs2).trans gs3).trans gs6).trans gs7)⟩
            · have hc5 : ¬ (w3 > 0) := ndec hc5
              rw [if_neg hc5] at hb1
              have st := st.front 0 rfl
              have st := st.front 1 rfl
              obtain rfl := Option.some.inj hb1
              exact ⟨_, _, _, _, rfl, st, ((((gs1.trans gs2).trans gs3).trans gs6).trans gs7)⟩
    · rintro σ' H' ⟨y4, y5, y6, G8, rfl, st, gs8⟩
      refine ⟨_, rfl, ?_⟩
      obtain ⟨G9, st, gs9, f1⟩ := st.frzE 0 rfl
      obtain rfl := Option.some.inj h
      exact q _ _ _ (gs8.trans gs9) st f1
theorem ok_merged (T : Txt K mg) : FnOk P w K mg base CX0 1 T.f_merged T.fd_merged ["_law_base", "_law_open_places", "_law_first", "_law_second", "_law_places_here"] (sp_merged K) := by
  refine T.F_merged.ok sc_merged (fun vs H Q E h => ?_) (fun cdv A outer s H vs Q E hr h => ?_)
  · obtain ⟨G, Fr, a_basex_1, basex_1, a_open_places_1, open_places_1, a_firstx_1, firstx_1, a_secondx_1, secondx_1, a_places_1, places_1, r, rfl, _⟩ := h
    rfl
  · obtain ⟨G, Fr, a_basex_1, basex_1, a_open_places_1, open_places_1, a_firstx_1, firstx_1, a_secondx_1, secondx_1, a_places_1, places_1, r, rfl, st, f_basex_1, f_open_places_1, f_firstx_1, f_secondx_1, f_places_1, h, q⟩ := h
    have hu := hu_of hr
    unfold m_merged at h
    refine ⟨_, (pss_cons (ps_set (i := 5) sc_merged.nd rfl (Or.inl rfl) pe_dnewK)
      (pss_cons (ps_set (i := 6) sc_merged.nd rfl (Or.inl rfl) (pe_lst pa_nil))
      (pss_cons (ps_for PassesOwn.never rfl (pi_list (pv 4)) (pg_name (i := 7) sc_merged.nd rfl (Or.inl rfl))
      (pss_cons (ps_set (i := 8) sc_merged.nd rfl (Or.inl rfl) (pe_dget2 hu (pv 0) (pv 7) pe_int (by constructor <;> rfl)))
        (pss_cons (ps_set (i := 9) sc_merged.nd rfl (Or.inl rfl) (pe_dget2 hu (pv 2) (pv 7) pe_int (by constructor <;> rfl)))
        (pss_cons (ps_set (i := 10) sc_merged.nd rfl (Or.inl rfl) (pe_dget2 hu (pv 3) (pv 7) pe_int (by constructor <;> rfl)))
        (pss_cons (ps_set (i := 11) sc_merged.nd rfl (Or.inl rfl) (pv 9))
        (C8.pss_cut (ps_if (PW.pt (pw_and (pt_cmpR op_ne (pv 9) (pv 10) (nomark _)) (pw_and1 (pt_cmpR (r := rIn K false) op_in_seq (pv 7) (pv 1) (by rfl)))))
        (pss_one (ps_set (i := 11) sc_merged.nd rfl (Or.inl rfl) (pe_un un_neg pe_int)))
        (pss_one (ps_if (PW.pt (pw_and (pt_cmpR op_ne (pv 9) (pv 10) (nomark _)) (pw_and1 (pt_cmpR op_eq (pv 9) (pv 8) (nomark _)))))
          (pss_one (ps_set (i := 11) sc_merged.nd rfl (Or.inl rfl) (pv 10)))
          (pss_one (ps_if (PW.pt (pw_and (pt_cmpR op_ne (pv 9) (pv 10) (nomark _)) (pw_and1 (pt_cmpR op_ne (pv 10) (pv 8) (nomark _)))))
            (pss_one (ps_set (i := 11) sc_merged.nd rfl (Or.inl rfl) (pe_un un_neg pe_int)))
            pss_nil)))))
        (C8.pss_cut (ps_if (pt_cmpR op_lt (pv 11) pe_int (nomark _))
        (pss_one (ps_expr (pe_bm PySem.F.plainAttrs_list PySem.F.slot_list_append PySem.F.type_list_append mt_append (pv 6) (pa_cons (pv 7) pa_nil))))
        pss_nil)
        (pss_one (ps_if (pt_cmpR op_gt (pv 11) pe_int (nomark _))
        (pss_one (ps_dput hu (pv 5) (pv 7) (pv 11) rfl))
        pss_nil)))))))))
      (pss_one (ps_ret (pe_lst (pa_cons (pv 5) (pa_cons (pv 6) pa_nil)))))))), ?_⟩
    refine fun p4 hp4 => ?_
    have st := st.newME (o := .dK []) (o' := .dK (encD [])) hp4 rfl
    refine ⟨Nat.zero_le _, fun p5 hp5 => ?_⟩
    have st := st.newME (o := .lst []) (o' := .lst ([].map V.int)) hp5 rfl
    refine ⟨_, rfl, ?_⟩
    refine ⟨_, rfl, ⟨_, (SqL.of (st.sub _ _ f_places_1))⟩, ?_⟩
    obtain ⟨o1, hl1, h⟩ := bs h
    refine for_mN (walk_list (xs := places_1.map V.int)) (List.length_map _) hl1 (fun (s1 : (List (Int × Int)) × (List Int)) σ' H' => ∃ (y1 : Option V) (y2 : Option V) (y3 : Option V) (y4 : Option V) (y5 : Option V) (G1 : Hp) , σ' = [some (.ref a_basex_1), some (.ref a_open_places_1), some (.ref a_firstx_1), some (.ref a_secondx_1), some (.ref a_places_1), some (.ref p4), some (.ref p5), y1, y2, y3, y4, y5] ∧ St H' G1 ((p5, .lst (s1.2.map V.int)) :: (p4, .dK (encD s1.1)) :: Fr) ∧ Same G G1) ?_ ?_ ?_ ?_
    · exact ⟨_, _, _, _, _, _, rfl, st, Same.refl _⟩
    · rintro s1 σ' H' ⟨y1, y2, y3, y4, y5, G1, rfl, st, gs1⟩
      exact (SqL.of (st.sub _ _ (gs1 _ _ f_places_1)))
    · rintro i place_1 x s1 s2 σ' H' H1' hx ⟨y1, y2, y3, y4, y5, G1, rfl, st, gs1⟩ hy hb1
      obtain ⟨rfl, rfl⟩ := flat_y hx hy
      refine ⟨_, rfl, ?_⟩
      refine ⟨_, rfl, isD (Or.inl (st.sub _ _ (gs1 _ _ f_basex_1))), ?_⟩
      refine ⟨_, rfl, ?_⟩
      refine ⟨_, dg_at (Or.inl (st.sub _ _ (gs1 _ _ f_basex_1))) place_1, ?_⟩
      rw [get2_eq]
      refine ⟨_, rfl, ?_⟩
      refine ⟨_, rfl, isD (Or.inl (st.sub _ _ (gs1 _ _ f_firstx_1))), ?_⟩
      refine ⟨_, rfl, ?_⟩
      refine ⟨_, dg_at (Or.inl (st.sub _ _ (gs1 _ _ f_firstx_1))) place_1, ?_⟩
      rw [get2_eq]
      refine ⟨_, rfl, ?_⟩
      refine ⟨_, rfl, isD (Or.inl (st.sub _ _ (gs1 _ _ f_secondx_1))), ?_⟩
      refine ⟨_, rfl, ?_⟩
      refine ⟨_, dg_at (Or.inl (st.sub _ _ (gs1 _ _ f_secondx_1))) place_1, ?_⟩
      rw [get2_eq]
      refine ⟨_, rfl, ?_⟩
      obtain ⟨w1, hw1, hb1⟩ := bs hb1
      refine ⟨fun σ' H' => ∃ (G2 : Hp) , σ' = [some (.ref a_basex_1), some (.ref a_open_places_1), some (.ref a_firstx_1), some (.ref a_secondx_1), some (.ref a_places_1), some (.ref p4), some (.ref p5), some (.int place_1), some (.int (dgD basex_1 place_1 0)), some (.int (dgD firstx_1 place_1 0)), some (.int (dgD secondx_1 place_1 0)), some (.int w1)] ∧ St H' G2 ((p5, .lst (s1.2.map V.int)) :: (p4, .dK (encD s1.1)) :: Fr) ∧ Same G1 G2, ?_, ?_⟩
      · refine ⟨_, rfl, ?_⟩
        refine ⟨_, rfl, ?_⟩
        refine ⟨rfl, _, rfl, ?_⟩
        refine ite2 (fun hc1 => ?_) (fun hc1 => ?_)
        · rw [dEq, dNot] at hc1
          have hc1 : ¬ ((dgD firstx_1 place_1 0) = (dgD secondx_1 place_1 0)) := of_decide_eq_true hc1
          refine ⟨_, rfl, ?_⟩
          refine ⟨_, rfl, ?_⟩
          refine ⟨_, _, rfl, .inl (SqL.of (st.sub _ _ (gs1 _ _ f_open_places_1))), rfl, flat_ints _, ?_⟩
          rw [in_eq]
          refine ⟨_, rfl, ?_⟩
          refine ite2 (fun hc2 => ?_) (fun hc2 => ?_)
          · have hc2 : place_1 ∈ open_places_1 := of_decide_eq_true hc2
            rw [if_pos (show (¬ ((dgD firstx_1 place_1 0) = (dgD secondx_1 place_1 0))) ∧ (place_1 ∈ open_places_1) from ⟨hc1, hc2⟩)] at hw1
            refine ⟨_, rfl, ?_⟩
            obtain rfl := Option.some.inj hw1
            exact ⟨_, rfl, st, Same.refl _⟩
          · have hc2 : ¬ (place_1 ∈ open_places_1) := ndec hc2
            rw [if_neg (show ¬ ((¬ ((dgD firstx_1 place_1 0) = (dgD secondx_1 place_1 0))) ∧ (place_1 ∈ open_places_1)) from (fun h => hc2 h.2))] at hw1
            refine ⟨_, rfl, ?_⟩
            refine ⟨_, rfl, ?_⟩
            refine ⟨rfl, _, rfl, ?_⟩
            refine ite2 (fun hc3 => ?_) (fun hc3 => ?_)
            · rw [dEq, dNot] at hc3
              have hc3 : ¬ ((dgD firstx_1 place_1 0) = (dgD secondx_1 place_1 0)) := of_decide_eq_true hc3
              refine ⟨_, rfl, ?_⟩
              refine ⟨_, rfl, ?_⟩
              refine ⟨rfl, _, rfl, ?_⟩
              refine ite2 (fun hc4 => ?_) (fun hc4 => ?_)
              · rw [dEq] at hc4
                have hc4 : (dgD firstx_1 place_1 0) = (dgD basex_1 place_1 0) := of_decide_eq_true hc4
                rw [if_pos (show (¬ ((dgD firstx_1 place_1 0) = (dgD secondx_1 place_1 0))) ∧ ((dgD firstx_1 place_1 0) = (dgD basex_1 place_1 0)) from ⟨hc3, hc4⟩)] at hw1
                refine ⟨_, rfl, ?_⟩
                obtain rfl := Option.some.inj hw1
                exact ⟨_, rfl, st, Same.refl _⟩
              · rw [dEq] at hc4
                have hc4 : ¬ ((dgD firstx_1 place_1 0) = (dgD basex_1 place_1 0)) := ndec hc4
                rw [if_neg (show ¬ ((¬ ((dgD firstx_1 place_1 0) = (dgD secondx_1 place_1 0))) ∧ ((dgD firstx_1 place_1 0) = (dgD basex_1 place_1 0))) from (fun h => hc4 h.2))] at hw1
                refine ⟨_, rfl, ?_⟩
                refine ⟨_, rfl, ?_⟩
                refine ⟨rfl, _, rfl, ?_⟩
                refine ite2 (fun hc5 => ?_) (fun hc5 => ?_)
                · rw [dEq, dNot] at hc5
                  have hc5 : ¬ ((dgD firstx_1 place_1 0) = (dgD secondx_1 place_1 0)) := of_decide_eq_true hc5
                  refine ⟨_, rfl, ?_⟩
                  refine ⟨_, rfl, ?_⟩
                  refine ⟨rfl, _, rfl, ?_⟩
                  refine ite2 (fun hc6 => ?_) (fun hc6 => ?_)
                  · rw [dEq, dNot] at hc6
                    have hc6 : ¬ ((dgD secondx_1 place_1 0) = (dgD basex_1 place_1 0)) := of_decide_eq_true hc6
                    rw [if_pos (show (¬ ((dgD firstx_1 place_1 0) = (dgD secondx_1 place_1 0))) ∧ (¬ ((dgD secondx_1 place_1 0) = (dgD basex_1 place_1 0))) from ⟨hc5, hc6⟩)] at hw1
                    refine ⟨_, rfl, ?_⟩
                    obtain rfl := Option.some.inj hw1
                    exact ⟨_, rfl, st, Same.refl _⟩
                  · rw [dEq, dNot] at hc6
                    have hc6 : ¬ (¬ ((dgD secondx_1 place_1 0) = (dgD basex_1 place_1 0))) := ndec hc6
                    rw [if_neg (show ¬ ((¬ ((dgD firstx_1 place_1 0) = (dgD secondx_1 place_1 0))) ∧ (¬ ((dgD secondx_1 place_1 0) = (dgD basex_1 place_1 0)))) from (fun h => hc6 h.2))] at hw1
                    obtain rfl := Option.some.inj hw1
                    exact ⟨_, rfl, st, Same.refl _⟩
                · rw [dEq, dNot] at hc5
                  have hc5 : ¬ (¬ ((dgD firstx_1 place_1 0) = (dgD secondx_1 place_1 0))) := ndec hc5
                  refine iteF ?_
                  rw [if_neg (show ¬ ((¬ ((dgD firstx_1 place_1 0) = (dgD secondx_1 place_1 0))) ∧ (¬ ((dgD secondx_1 place_1 0) = (dgD basex_1 place_1 0)))) from (fun h => hc5 h.1))] at hw1
                  obtain rfl := Option.some.inj hw1
                  exact ⟨_, rfl, st, Same.refl _⟩
            · rw [dEq, dNot] at hc3
              have hc3 : ¬ (¬ ((dgD firstx_1 place_1 0) = (dgD secondx_1 place_1 0))) := ndec hc3
              refine iteF ?_
              rw [if_neg (show ¬ ((¬ ((dgD firstx_1 place_1 0) = (dgD secondx_1 place_1 0))) ∧ ((dgD firstx_1 place_1 0) = (dgD basex_1 place_1 0))) from (fun h => hc3 h.1))] at hw1
              refine ⟨_, rfl, ?_⟩
              refine ⟨_, rfl, ?_⟩
              refine ⟨rfl, _, rfl, ?_⟩
              refine ite2 (fun hc7 => ?_) (fun hc7 => ?_)
              · rw [dEq, dNot] at hc7
                have hc7 : ¬ ((dgD firstx_1 place_1 0) = (dgD secondx_1 place_1 0)) := of_decide_eq_true hc7
                refine ⟨_, rfl, ?_⟩
                refine ⟨_, rfl, ?_⟩
                refine ⟨rfl, _, rfl, ?_⟩
                refine ite2 (fun hc8 => ?_) (fun hc8 => ?_)
                · rw [dEq, dNot] at hc8
                  have hc8 : ¬ ((dgD secondx_1 place_1 0) = (dgD basex_1 place_1 0)) := of_decide_eq_true hc8
                  rw [if_pos (show (¬ ((dgD firstx_1 place_1 0) = (dgD secondx_1 place_1 0))) ∧ (¬ ((dgD secondx_1 place_1 0) = (dgD basex_1 place_1 0))) from ⟨hc7, hc8⟩)] at hw1
                  refine ⟨_, rfl, ?_⟩
                  obtain rfl := Option.some.inj hw1
                  exact ⟨_, rfl, st, Same.refl _⟩
                · rw [dEq, dNot] at hc8
                  have hc8 : ¬ (¬ ((dgD secondx_1 place_1 0) = (dgD basex_1 place_1 0))) := ndec hc8
                  rw [if_neg (show ¬ ((¬ ((dgD firstx_1 place_1 0) = (dgD secondx_1 place_1 0))) ∧ (¬ ((dgD secondx_1 place_1 0) = (dgD basex_1 place_1 0)))) from (fun h => hc8 h.2))] at hw1
                  obtain rfl := Option.some.inj hw1
                  exact ⟨_, rfl, st, Same.refl _⟩
              · rw [dEq, dNot] at hc7
                have hc7 : ¬ (¬ ((dgD firstx_1 place_1 0) = (dgD secondx_1 place_1 0))) := ndec hc7
                refine iteF ?_
                rw [if_neg (show ¬ ((¬ ((dgD firstx_1 place_1 0) = (dgD secondx_1 place_1 0))) ∧ (¬ ((dgD secondx_1 place_1 0) = (dgD basex_1 place_1 0)))) from (fun h => hc7 h.1))] at hw1
                obtain rfl := Option.some.inj hw1
                exact ⟨_, rfl, st, Same.refl _⟩
        · rw [dEq, dNot] at hc1
          have hc1 : ¬ (¬ ((dgD firstx_1 place_1 0) = (dgD secondx_1 place_1 0))) := ndec hc1
          refine iteF ?_
          rw [if_neg (show ¬ ((¬ ((dgD firstx_1 place_1 0) = (dgD secondx_1 place_1 0))) ∧ (place_1 ∈ open_places_1)) from (fun h => hc1 h.1))] at hw1
          refine ⟨_, rfl, ?_⟩
          refine ⟨_, rfl, ?_⟩
          refine ⟨rfl, _, rfl, ?_⟩
          refine ite2 (fun hc9 => ?_) (fun hc9 => ?_)
          · rw [dEq, dNot] at hc9
            have hc9 : ¬ ((dgD firstx_1 place_1 0) = (dgD secondx_1 place_1 0)) := of_decide_eq_true hc9
            refine ⟨_, rfl, ?_⟩
            refine ⟨_, rfl, ?_⟩
            refine ⟨rfl, _, rfl, ?_⟩
            refine ite2 (fun hc10 => ?_) (fun hc10 => ?_)
            · rw [dEq] at hc10
              have hc10 : (dgD firstx_1 place_1 0) = (dgD basex_1 place_1 0) := of_decide_eq_true hc10
              rw [if_pos (show (¬ ((dgD firstx_1 place_1 0) = (dgD secondx_1 place_1 0))) ∧ ((dgD firstx_1 place_1 0) = (dgD basex_1 place_1 0)) from ⟨hc9, hc10⟩)] at hw1
              refine ⟨_, rfl, ?_⟩
              obtain rfl := Option.some.inj hw1
              exact ⟨_, rfl, st, Same.refl _⟩
            · rw [dEq] at hc10
              have hc10 : ¬ ((dgD firstx_1 place_1 0) = (dgD basex_1 place_1 0)) := ndec hc10
              rw [if_neg (show ¬ ((¬ ((dgD firstx_1 place_1 0) = (dgD secondx_1 place_1 0))) ∧ ((dgD firstx_1 place_1 0) = (dgD basex_1 place_1 0))) from (fun h => hc10 h.2))] at hw1
              refine ⟨_, rfl, ?_⟩
              refine ⟨_, rfl, ?_⟩
              refine ⟨rfl, _, rfl, ?_⟩
              refine ite2 (fun hc11 => ?_) (fun hc11 => ?_)
              · rw [dEq, dNot] at hc11
                have hc11 : ¬ ((dgD firstx_1 place_1 0) = (dgD secondx_1 place_1 0)) := of_decide_eq_true hc11
                refine ⟨_, rfl, ?_⟩
                refine ⟨_, rfl, ?_⟩
                refine ⟨rfl, _, rfl, ?_⟩
                refine ite2 (fun hc12 => ?_) (fun hc12 => ?_)
                · rw [dEq, dNot] at hc12
                  have hc12 : ¬ ((dgD secondx_1 place_1 0) = (dgD basex_1 place_1 0)) := of_decide_eq_true hc12
                  rw [if_pos (show (¬ ((dgD firstx_1 place_1 0) = (dgD secondx_1 place_1 0))) ∧ (¬ ((dgD secondx_1 place_1 0) = (dgD basex_1 place_1 0))) from ⟨hc11, hc12⟩)] at hw1
                  refine ⟨_, rfl, ?_⟩
                  obtain rfl := Option.some.inj hw1
                  exact ⟨_, rfl, st, Same.refl _⟩
                · rw [dEq, dNot] at hc12
                  have hc12 : ¬ (¬ ((dgD secondx_1 place_1 0) = (dgD basex_1 place_1 0))) := ndec hc12
                  rw [if_neg (show ¬ ((¬ ((dgD firstx_1 place_1 0) = (dgD secondx_1 place_1 0))) ∧ (¬ ((dgD secondx_1 place_1 0) = (dgD basex_1 place_1 0)))) from (fun h => hc12 h.2))] at hw1
                  obtain rfl := Option.some.inj hw1
                  exact ⟨_, rfl, st, Same.refl _⟩
              · rw [dEq, dNot] at hc11
                have hc11 : ¬ (¬ ((dgD firstx_1 place_1 0) = (dgD secondx_1 place_1 0))) := ndec hc11
                refine iteF ?_
                rw [if_neg (show ¬ ((¬ ((dgD firstx_1 place_1 0) = (dgD secondx_1 place_1 0))) ∧ (¬ ((dgD secondx_1 place_1 0) = (dgD basex_1 place_1 0)))) from (fun h => hc11 h.1))] at hw1
                obtain rfl := Option.some.inj hw1
                exact ⟨_, rfl, st, Same.refl _⟩
          · rw [dEq, dNot] at hc9
            have hc9 : ¬ (¬ ((dgD firstx_1 place_1 0) = (dgD secondx_1 place_1 0))) := ndec hc9
            refine iteF ?_
            rw [if_neg (show ¬ ((¬ ((dgD firstx_1 place_1 0) = (dgD secondx_1 place_1 0))) ∧ ((dgD firstx_1 place_1 0) = (dgD basex_1 place_1 0))) from (fun h => hc9 h.1))] at hw1
            refine ⟨_, rfl, ?_⟩
            refine ⟨_, rfl, ?_⟩
            refine ⟨rfl, _, rfl, ?_⟩
            refine ite2 (fun hc13 => ?_) (fun hc13 => ?_)
            · rw [dEq, dNot] at hc13
              have hc13 : ¬ ((dgD firstx_1 place_1 0) = (dgD secondx_1 place_1 0)) := of_decide_eq_true hc13
              refine ⟨_, rfl, ?_⟩
              refine ⟨_, rfl, ?_⟩
              refine ⟨rfl, _, rfl, ?_⟩
              refine ite2 (fun hc14 => ?_) (fun hc14 => ?_)
              · rw [dEq, dNot] at hc14
                have hc14 : ¬ ((dgD secondx_1 place_1 0) = (dgD basex_1 place_1 0)) := of_decide_eq_true hc14
                rw [if_pos (show (¬ ((dgD firstx_1 place_1 0) = (dgD secondx_1 place_1 0))) ∧ (¬ ((dgD secondx_1 place_1 0) = (dgD basex_1 place_1 0))) from ⟨hc13, hc14⟩)] at hw1
                refine ⟨_, rfl, ?_⟩
                obtain rfl := Option.some.inj hw1
                exact ⟨_, rfl, st, Same.refl _⟩
              · rw [dEq, dNot] at hc14
                have hc14 : ¬ (¬ ((dgD secondx_1 place_1 0) = (dgD basex_1 place_1 0))) := ndec hc14
                rw [if_neg (show ¬ ((¬ ((dgD firstx_1 place_1 0) = (dgD secondx_1 place_1 0))) ∧ (¬ ((dgD secondx_1 place_1 0) = (dgD basex_1 place_1 0)))) from (fun h => hc14 h.2))] at hw1
                obtain rfl := Option.some.inj hw1
                exact ⟨_, rfl, st, Same.refl _⟩
            · rw [dEq, dNot] at hc13
              have hc13 : ¬ (¬ ((dgD firstx_1 place_1 0) = (dgD secondx_1 place_1 0))) := ndec hc13
              refine iteF ?_
              rw [if_neg (show ¬ ((¬ ((dgD firstx_1 place_1 0) = (dgD secondx_1 place_1 0))) ∧ (¬ ((dgD secondx_1 place_1 0) = (dgD basex_1 place_1 0)))) from (fun h => hc13 h.1))] at hw1
              obtain rfl := Option.some.inj hw1
              exact ⟨_, rfl, st, Same.refl _⟩
      · rintro σ' H' ⟨G2, rfl, st, gs2⟩
        obtain ⟨w2, hw2, hb1⟩ := bs hb1
        refine ⟨fun σ' H' => ∃ (G3 : Hp) , σ' = [some (.ref a_basex_1), some (.ref a_open_places_1), some (.ref a_firstx_1), some (.ref a_secondx_1), some (.ref a_places_1), some (.ref p4), some (.ref p5), some (.int place_1), some (.int (dgD basex_1 place_1 0)), some (.int (dgD firstx_1 place_1 0)), some (.int (dgD secondx_1 place_1 0)), some (.int w1)] ∧ St H' G3 ((p5, .lst (w2.map V.int)) :: (p4, .dK (encD s1.1)) :: Fr) ∧ Same G2 G3, ?_, ?_⟩
        · refine ⟨_, rfl, ?_⟩
          refine ⟨_, _, rfl, rfl, _, rfl, ?_⟩
          refine ite2 (fun hc15 => ?_) (fun hc15 => ?_)
          · have hc15 : w1 < 0 := of_decide_eq_true hc15
            rw [if_pos hc15] at hw2
            refine ⟨_, rfl, ?_⟩
            refine ⟨.inl ⟨rfl, _, (SqL.of (st.at 0 rfl))⟩, ?_⟩
            refine ⟨_, rfl, ?_⟩
            obtain ⟨hg1, hw2⟩ := gd_some hw2
            refine ⟨_, _, _, rfl, rfl, st.at 0 rfl, szl (by rw [List.length_map]; exact hg1), ?_⟩
            have st := st.putE 0 rfl (lst_snoc (f := V.int) s1.2 place_1)
            obtain rfl := Option.some.inj hw2
            exact ⟨_, rfl, st, Same.refl _⟩
          · have hc15 : ¬ (w1 < 0) := ndec hc15
            rw [if_neg hc15] at hw2
            obtain rfl := Option.some.inj hw2
            exact ⟨_, rfl, st, Same.refl _⟩
        · rintro σ' H' ⟨G3, rfl, st, gs3⟩
          refine ⟨_, rfl, ?_⟩
          refine ⟨_, _, rfl, rfl, _, rfl, ?_⟩
          refine ite2 (fun hc16 => ?_) (fun hc16 => ?_)
          · have hc16 : w1 > 0 := of_decide_eq_true hc16
            rw [if_pos hc16] at hb1
            refine ⟨_, rfl, ?_⟩
            refine ⟨_, rfl, ?_⟩
            refine ⟨_, rfl, ?_⟩
            obtain ⟨hg2, hb1⟩ := gd_some hb1
            refine ⟨_, _, rfl, DPut.k (k := Sum.inl place_1) (st.at 1 rfl) (szl (by rw [encD_len]; exact hg2)), ?_⟩
            have st := st.putE 1 rfl (dk_put s1.1 place_1 w1)
            obtain rfl := Option.some.inj hb1
            exact ⟨_, _, _, _, _, _, rfl, st, ((gs1.trans gs2).trans gs3)⟩
          · have hc16 : ¬ (w1 > 0) := ndec hc16
            rw [if_neg hc16] at hb1
            obtain rfl := Option.some.inj hb1
            exact ⟨_, _, _, _, _, _, rfl, st, ((gs1.trans gs2).trans gs3)⟩
    · rintro σ' H' ⟨y6, y7, y8, y9, y10, G4, rfl, st, gs4⟩
      refine ⟨_, rfl, ?_⟩
      refine ⟨_, rfl, ?_⟩
      refine ⟨sz (by show 2 ≤ _; omega), fun p6 hp6 => ?_⟩
      obtain ⟨G5, st, gs5, f1⟩ := st.newFE (o := .lst [.ref p4, .ref p5]) (o' := .lst [.ref p4, .ref p5]) hp6 rfl
      obtain ⟨G6, st, gs6, f2⟩ := st.frzE 1 rfl
      obtain ⟨G7, st, gs7, f3⟩ := st.frzE 0 rfl
      obtain rfl := Option.some.inj h
      exact q _ _ _ _ _ (((gs4.trans gs5).trans gs6).trans gs7) st (gs7 _ _ f2) f3 ((gs6.trans gs7) _ _ f1)
theorem ok_asked (T : Txt K mg) : FnOk P w K mg base CX0 3 T.f_asked T.fd_asked ["_law_base", "_law_open_places", "_law_first", "_law_second", "_law_places_here"] (sp_asked K) := by
  have G_ints : FnOk P w K mg base CX0 1 T.f_ints T.fd_ints ["_law_told"] (sp_ints K) := ok_ints T
  have G_is_book : FnOk P w K mg base CX0 1 T.f_is_book T.fd_is_book ["_law_told"] (sp_is_book K) := ok_is_book T
  have G_merged : FnOk P w K mg base CX0 1 T.f_merged T.fd_merged ["_law_base", "_law_open_places", "_law_first", "_law_second", "_law_places_here"] (sp_merged K) := ok_merged T
  have G_written : FnOk P w K mg base CX0 1 T.f_written T.fd_written ["_law_book_here", "_law_writes"] (sp_written K) := ok_written T
  have G_value_merge : FnOk P w K mg base CX0 2 T.f_value_merge T.fd_value_merge ["base", "open_places", "first", "second"] (sp_value_merge K) := ok_value_merge T
  refine T.F_asked.ok sc_asked (fun vs H Q E h => ?_) (fun cdv A outer s H vs Q E hr h => ?_)
  · obtain ⟨G, Fr, a_basex_1, basex_1, a_open_places_1, open_places_1, a_firstx_1, firstx_1, a_secondx_1, secondx_1, a_places_1, places_1, r, rfl, _⟩ := h
    rfl
  · obtain ⟨G, Fr, a_basex_1, basex_1, a_open_places_1, open_places_1, a_firstx_1, firstx_1, a_secondx_1, secondx_1, a_places_1, places_1, r, rfl, st, f_basex_1, f_open_places_1, f_firstx_1, f_secondx_1, f_places_1, h, q⟩ := h
    have hu := hu_of hr
    unfold m_asked at h
    refine ⟨_, (pss_cons (ps_set (i := 5) sc_asked.nd rfl (Or.inl rfl) (pe_call G_merged (hr.mono (by omega)) (by rfl) T.g_merged T.F_merged.kp T.b_merged .nil pass0 (pa_cons (pv 0) (pa_cons (pv 1) (pa_cons (pv 2) (pa_cons (pv 3) (pa_cons (pv 4) pa_nil)))))))
      (pss_cons (ps_set (i := 6) sc_asked.nd rfl (Or.inl rfl) (pe_lst (pa_cons (pe_call G_written (hr.mono (by omega)) (by rfl) T.g_written T.F_written.kp T.b_written .nil pass0 (pa_cons (pv 0) (pa_cons pe_dnewK pa_nil))) (pa_cons (pe_callTy (r := rListK K) call_list_of (by rfl) T.z_list (by decide +kernel) (pa_cons (pv 1) pa_nil)) (pa_cons (pe_call G_written (hr.mono (by omega)) (by rfl) T.g_written T.F_written.kp T.b_written .nil pass0 (pa_cons (pv 2) (pa_cons pe_dnewK pa_nil))) (pa_cons (pe_call G_written (hr.mono (by omega)) (by rfl) T.g_written T.F_written.kp T.b_written .nil pass0 (pa_cons (pv 3) (pa_cons pe_dnewK pa_nil))) pa_nil))))))
      (pss_cons (ps_for PassesOwn.never rfl (pi_range1 (by rfl) T.z_range (pa_cons pe_int pa_nil)) (pg_name (i := 7) sc_asked.nd rfl (Or.inl rfl))
      (pss_cons (ps_set (i := 8) sc_asked.nd rfl (Or.inl rfl) (pe_call G_value_merge (hr.mono (by omega)) (by rfl) T.g_value_merge T.F_value_merge.kp T.b_value_merge .nil pass0 (pa_cons (pe_ix (r := rIxL K) ix_list (pv 6) pe_int (fun _ _ => rfl)) (pa_cons (pe_ix (r := rIxL K) ix_list (pv 6) pe_int (fun _ _ => rfl)) (pa_cons (pe_ix (r := rIxL K) ix_list (pv 6) pe_int (fun _ _ => rfl)) (pa_cons (pe_ix (r := rIxL K) ix_list (pv 6) pe_int (fun _ _ => rfl)) pa_nil))))))
        (pss_cons (ps_if (PW.pt (pw_or (pt_not (pt_val (pe_callB (r := rIsi K) call_isi (by rfl) T.z_isinstance (by decide +kernel) (pa_cons (pv 8) (pa_cons (pe_bltn (v := .ty "tuple") (u := .type "tuple") (by rfl) T.z_tuple (by decide +kernel) rfl) pa_nil))))) (pw_or1 (pt_cmpR op_ne (pe_callB (r := rLenK K) call_len_seq (by rfl) T.z_len PySem.boot_len (pa_cons (pv 8) pa_nil)) pe_int (nomark _)))))
        (pss_one (ps_ret pe_bl))
        pss_nil)
        (pss_cons (ps_if (PW.pt (pw_or (pt_not (pt_val (pe_call G_is_book (hr.mono (by omega)) (by rfl) T.g_is_book T.F_is_book.kp T.b_is_book .nil pass0 (pa_cons (pe_ix (r := rIxT K) ix_tup (pv 8) pe_int (fun _ _ => rfl)) pa_nil)))) (pw_or1 (pt_cmpR (op_ne_dictA hr.units0) (pe_ix (r := rIxT K) ix_tup (pv 8) pe_int (fun _ _ => rfl)) (pe_ix (r := rIxL K) ix_list (pv 5) pe_int (fun _ _ => rfl)) (nomark _)))))
        (pss_one (ps_ret pe_bl))
        pss_nil)
        (pss_cons (ps_if (PW.pt (pw_or (pt_not (pt_val (pe_call G_ints (hr.mono (by omega)) (by rfl) T.g_ints T.F_ints.kp T.b_ints .nil pass0 (pa_cons (pe_ix (r := rIxT K) ix_tup (pv 8) pe_int (fun _ _ => rfl)) pa_nil)))) (pw_or1 (pt_cmpR (r := rNeD K) (op_neD hr.units) (pe_ix (r := rIxT K) ix_tup (pv 8) pe_int (fun _ _ => rfl)) (pe_ix (r := rIxL K) ix_list (pv 5) pe_int (fun _ _ => rfl)) (nomark _)))))
        (pss_one (ps_ret pe_bl))
        pss_nil)
        (pss_cons (ps_if (pt_cmpR (op_neV hr.units) (pv 6) (pe_lst (pa_cons (pv 0) (pa_cons (pv 1) (pa_cons (pv 2) (pa_cons (pv 3) pa_nil))))) (nomark _))
        (pss_one (ps_ret pe_bl))
        pss_nil)
        (pss_cons (ps_set (i := 9) sc_asked.nd rfl (Or.inl rfl) (pe_ix (r := rIxT K) ix_tup (pv 8) pe_int (fun _ _ => rfl)))
        (pss_cons (ps_dput hu (pv 9) (pe_op op_add pe_int (pv 7)) pe_int rfl)
        (pss_one (ps_expr (pe_bm PySem.F.plainAttrs_list PySem.F.slot_list_append PySem.F.type_list_append mt_append (pe_ix (r := rIxT K) ix_tup (pv 8) pe_int (fun _ _ => rfl)) (pa_cons pe_int pa_nil))))))))))))
      (pss_one (ps_ret pe_bl))))), ?_⟩
    refine ⟨_, rfl, ?_⟩
    refine ⟨_, rfl, ?_⟩
    refine ⟨_, rfl, ?_⟩
    refine ⟨_, rfl, ?_⟩
    refine ⟨_, rfl, ?_⟩
    obtain ⟨r1, e1, h⟩ := bs h
    refine ⟨_, _, _, basex_1, _, open_places_1, _, firstx_1, _, secondx_1, _, places_1, _, rfl, st, f_basex_1, f_open_places_1, f_firstx_1, f_secondx_1, f_places_1, e1, fun H1 G1 p1 p2 p3 gs1 st f1 f2 f3 => ?_⟩
    refine ⟨_, rfl, ?_⟩
    refine fun p4 hp4 => ?_
    obtain ⟨G2, st, gs2, f4⟩ := st.newFE (o := .dK []) (o' := .dK (encD [])) hp4 rfl
    obtain ⟨r2, e2, h⟩ := bs h
    refine ⟨_, _, _, basex_1, _, [], _, rfl, st, ((gs1.trans gs2) _ _ f_basex_1), f4, e2, fun H2 G3 p5 gs3 st f5 => ?_⟩
    refine ⟨_, rfl, ?_⟩
    refine ⟨_, _, rfl, .inl (SqL.of (st.sub _ _ (((gs1.trans gs2).trans gs3) _ _ f_open_places_1))), fun p6 hp6 => ?_⟩
    obtain ⟨G4, st, gs4, f6⟩ := st.newFE (o := .lst (open_places_1.map V.int)) (o' := .lst (open_places_1.map V.int)) hp6 rfl
    refine ⟨_, rfl, ?_⟩
    refine fun p7 hp7 => ?_
    obtain ⟨G5, st, gs5, f7⟩ := st.newFE (o := .dK []) (o' := .dK (encD [])) hp7 rfl
    obtain ⟨r3, e3, h⟩ := bs h
    refine ⟨_, _, _, firstx_1, _, [], _, rfl, st, (((((gs1.trans gs2).trans gs3).trans gs4).trans gs5) _ _ f_firstx_1), f7, e3, fun H3 G6 p8 gs6 st f8 => ?_⟩
    refine ⟨_, rfl, ?_⟩
    refine fun p9 hp9 => ?_
    obtain ⟨G7, st, gs7, f9⟩ := st.newFE (o := .dK []) (o' := .dK (encD [])) hp9 rfl
    obtain ⟨r4, e4, h⟩ := bs h
    refine ⟨_, _, _, secondx_1, _, [], _, rfl, st, (((((((gs1.trans gs2).trans gs3).trans gs4).trans gs5).trans gs6).trans gs7) _ _ f_secondx_1), f9, e4, fun H4 G8 p10 gs8 st f10 => ?_⟩
    refine ⟨sz (by show 4 ≤ _; omega), fun p11 hp11 => ?_⟩
    obtain ⟨G9, st, gs9, f11⟩ := st.newFE (o := .lst [.ref p5, .ref p6, .ref p8, .ref p10]) (o' := .lst [.ref p5, .ref p6, .ref p8, .ref p10]) hp11 rfl
    obtain ⟨hg1, h⟩ := gd_some h
    refine ⟨_, rfl, (by omega), (by omega), ?_⟩
    obtain ⟨o1, hl1, h⟩ := bs h
    refine for_mF walk_range (rng_len _ _) hl1 (fun (s1 : Unit) σ' H' => ∃ (y1 : Option V) (y2 : Option V) (y3 : Option V) (G10 : Hp) , σ' = [some (.ref a_basex_1), some (.ref a_open_places_1), some (.ref a_firstx_1), some (.ref a_secondx_1), some (.ref a_places_1), some (.ref p1), some (.ref p11), y1, y2, y3] ∧ St H' G10 (Fr) ∧ Same G9 G10) ?_ ?_ ?_ ?_
    · exact ⟨_, _, _, _, rfl, st, Same.refl _⟩
    · intros; trivial
    · rintro i turn_1 x s1 s2 σ' H' H1' hx ⟨y1, y2, y3, G10, rfl, st, gs10⟩ hy hb1 hret1
      obtain ⟨rfl, rfl⟩ := rng_y hx hy
      refine ⟨_, rfl, ?_⟩
      refine ⟨_, _, _, _, rfl, rfl, (SqL.of (st.sub _ _ (gs10 _ _ f11))), rfl, ?_⟩
      refine ⟨_, rfl, ?_⟩
      refine ⟨_, _, _, _, rfl, rfl, (SqL.of (st.sub _ _ (gs10 _ _ f11))), rfl, ?_⟩
      refine ⟨_, rfl, ?_⟩
      refine ⟨_, _, _, _, rfl, rfl, (SqL.of (st.sub _ _ (gs10 _ _ f11))), rfl, ?_⟩
      refine ⟨_, rfl, ?_⟩
      refine ⟨_, _, _, _, rfl, rfl, (SqL.of (st.sub _ _ (gs10 _ _ f11))), rfl, ?_⟩
      obtain ⟨r5, e5, hb1⟩ := bs hb1
      refine ⟨_, _, _, r2, _, open_places_1, _, r3, _, r4, _, rfl, st, (((((((gs4.trans gs5).trans gs6).trans gs7).trans gs8).trans gs9).trans gs10) _ _ f5), ((((((gs5.trans gs6).trans gs7).trans gs8).trans gs9).trans gs10) _ _ f6), ((((gs7.trans gs8).trans gs9).trans gs10) _ _ f8), ((gs9.trans gs10) _ _ f10), e5, fun H5 G11 p12 p13 p14 gs11 st f12 => ?_⟩
      refine ⟨_, rfl, ?_⟩
      refine ⟨_, _, _, _, true, rfl, .ty "tuple", tyx_tupS (SqT.of (st.sub _ _ f12)), kit_ty (by decide +kernel), ?_⟩
      refine ⟨_, rfl, ?_⟩
      refine iteF ?_
      refine ⟨_, rfl, ?_⟩
      refine ⟨_, _, rfl, .inr (SqT.of (st.sub _ _ f12)), ?_⟩
      refine ⟨rfl, _, rfl, ?_⟩
      refine ite2 (fun hc1 => ?_) (fun hc1 => ?_)
      · rw [dEq, dNot] at hc1
        have hc1 : ¬ ((2 : Int) = 2) := of_decide_eq_true hc1
        rw [if_pos hc1] at hb1
        obtain rfl := Option.some.inj hb1
        obtain rfl := hret1 _ rfl
        replace h := el_ret h
        obtain rfl := Option.some.inj h
        have st := st.rm 0 rfl
        have st := st.rm 0 rfl
        exact q _ _ ((((((((((gs1.trans gs2).trans gs3).trans gs4).trans gs5).trans gs6).trans gs7).trans gs8).trans gs9).trans gs10).trans gs11) st
      · rw [dEq, dNot] at hc1
        have hc1 : ¬ (¬ ((2 : Int) = 2)) := ndec hc1
        rw [if_neg hc1] at hb1
        refine ⟨_, rfl, ?_⟩
        refine ⟨_, _, _, _, rfl, rfl, (SqT.of (st.sub _ _ f12)), rfl, ?_⟩
        obtain ⟨r6, e6, hb1⟩ := bs hb1
        refine ⟨_, r5.1, r6, rfl, (st.at 1 rfl), e6, ?_⟩
        refine ⟨_, rfl, ?_⟩
        refine ite2 (fun hc2 => ?_) (fun hc2 => ?_)
        · have hc2 : ¬ (r6 = true) := by simpa using hc2
          rw [if_pos hc2] at hb1
          refine iteT ?_
          obtain rfl := Option.some.inj hb1
          obtain rfl := hret1 _ rfl
          replace h := el_ret h
          obtain rfl := Option.some.inj h
          have st := st.rm 0 rfl
          have st := st.rm 0 rfl
          exact q _ _ ((((((((((gs1.trans gs2).trans gs3).trans gs4).trans gs5).trans gs6).trans gs7).trans gs8).trans gs9).trans gs10).trans gs11) st
        · have hc2 : ¬ (¬ (r6 = true)) := by simpa using hc2
          rw [if_neg hc2] at hb1
          refine ⟨_, rfl, ?_⟩
          refine ⟨_, _, _, _, rfl, rfl, (SqT.of (st.sub _ _ f12)), rfl, ?_⟩
          refine ⟨_, rfl, ?_⟩
          refine ⟨_, _, _, _, rfl, rfl, (SqL.of (st.sub _ _ ((((((((((gs2.trans gs3).trans gs4).trans gs5).trans gs6).trans gs7).trans gs8).trans gs9).trans gs10).trans gs11) _ _ f3))), rfl, ?_⟩
          obtain ⟨hg2, hb1⟩ := gd_some hb1
          refine ⟨_, _, _, _, rfl, rfl, (st.at 1 rfl), (st.sub _ _ ((((((((((gs2.trans gs3).trans gs4).trans gs5).trans gs6).trans gs7).trans gs8).trans gs9).trans gs10).trans gs11) _ _ f1)), (deq_spec hg2).1, (deq_spec hg2).2, _, rfl, ?_⟩
          refine iteF ?_
          refine ⟨_, rfl, ?_⟩
          refine ⟨_, _, _, _, rfl, rfl, (SqT.of (st.sub _ _ f12)), rfl, ?_⟩
          obtain ⟨r7, e7, hb1⟩ := bs hb1
          refine ⟨_, r5.2, r7, rfl, (SqL.of (st.at 0 rfl)), e7, ?_⟩
          refine ⟨_, rfl, ?_⟩
          refine ite2 (fun hc3 => ?_) (fun hc3 => ?_)
          · have hc3 : ¬ (r7 = true) := by simpa using hc3
            rw [if_pos hc3] at hb1
            refine iteT ?_
            obtain rfl := Option.some.inj hb1
            obtain rfl := hret1 _ rfl
            replace h := el_ret h
            obtain rfl := Option.some.inj h
            have st := st.rm 0 rfl
            have st := st.rm 0 rfl
            exact q _ _ ((((((((((gs1.trans gs2).trans gs3).trans gs4).trans gs5).trans gs6).trans gs7).trans gs8).trans gs9).trans gs10).trans gs11) st
          · have hc3 : ¬ (¬ (r7 = true)) := by simpa using hc3
            rw [if_neg hc3] at hb1
            refine ⟨_, rfl, ?_⟩
            refine ⟨_, _, _, _, rfl, rfl, (SqT.of (st.sub _ _ f12)), rfl, ?_⟩
            refine ⟨_, rfl, ?_⟩
            refine ⟨_, _, _, _, rfl, rfl, (SqL.of (st.sub _ _ ((((((((((gs2.trans gs3).trans gs4).trans gs5).trans gs6).trans gs7).trans gs8).trans gs9).trans gs10).trans gs11) _ _ f3))), rfl, ?_⟩
            refine ⟨_, _, dpL (SqL.of (st.at 0 rfl)), dpL (SqL.of (st.sub _ _ ((((((((((gs2.trans gs3).trans gs4).trans gs5).trans gs6).trans gs7).trans gs8).trans gs9).trans gs10).trans gs11) _ _ f2))), shapedL _, shapedL _, ?_⟩
            rw [eqvL, dNot]
            refine ⟨_, rfl, ?_⟩
            refine ite2 (fun hc4 => ?_) (fun hc4 => ?_)
            · have hc4 : ¬ (r5.2 = r1.2) := of_decide_eq_true hc4
              rw [if_pos hc4] at hb1
              obtain rfl := Option.some.inj hb1
              obtain rfl := hret1 _ rfl
              replace h := el_ret h
              obtain rfl := Option.some.inj h
              have st := st.rm 0 rfl
              have st := st.rm 0 rfl
              exact q _ _ ((((((((((gs1.trans gs2).trans gs3).trans gs4).trans gs5).trans gs6).trans gs7).trans gs8).trans gs9).trans gs10).trans gs11) st
            · have hc4 : ¬ (¬ (r5.2 = r1.2)) := ndec hc4
              rw [if_neg hc4] at hb1
              refine ⟨_, rfl, ?_⟩
              refine ⟨_, rfl, ?_⟩
              refine ⟨_, rfl, ?_⟩
              refine ⟨_, rfl, ?_⟩
              refine ⟨_, rfl, ?_⟩
              refine ⟨sz (by show 4 ≤ _; omega), fun p15 hp15 => ?_⟩
              obtain ⟨G12, st, gs12, f13⟩ := st.newFE (o := .lst [.ref a_basex_1, .ref a_open_places_1, .ref a_firstx_1, .ref a_secondx_1]) (o' := .lst [.ref a_basex_1, .ref a_open_places_1, .ref a_firstx_1, .ref a_secondx_1]) hp15 rfl
              obtain ⟨hg3, hb1⟩ := gd_some hb1
              refine ⟨2, (by decide), ⟨_, _, _, _, rfl, rfl, (SqL.of (st.sub _ _ (((gs10.trans gs11).trans gs12) _ _ f11))), (SqL.of (st.sub _ _ f13)), (.cons (eqv_d (st.sub _ _ (((((((((gs4.trans gs5).trans gs6).trans gs7).trans gs8).trans gs9).trans gs10).trans gs11).trans gs12) _ _ f5)) (st.sub _ _ ((((((((((((gs1.trans gs2).trans gs3).trans gs4).trans gs5).trans gs6).trans gs7).trans gs8).trans gs9).trans gs10).trans gs11).trans gs12) _ _ f_basex_1)) hg3.1) (.cons (eqv_l (SqL.of (st.sub _ _ ((((((((gs5.trans gs6).trans gs7).trans gs8).trans gs9).trans gs10).trans gs11).trans gs12) _ _ f6))) (SqL.of (st.sub _ _ ((((((((((((gs1.trans gs2).trans gs3).trans gs4).trans gs5).trans gs6).trans gs7).trans gs8).trans gs9).trans gs10).trans gs11).trans gs12) _ _ f_open_places_1))) hg3.2.1) (.cons (eqv_d (st.sub _ _ ((((((gs7.trans gs8).trans gs9).trans gs10).trans gs11).trans gs12) _ _ f8)) (st.sub _ _ ((((((((((((gs1.trans gs2).trans gs3).trans gs4).trans gs5).trans gs6).trans gs7).trans gs8).trans gs9).trans gs10).trans gs11).trans gs12) _ _ f_firstx_1)) hg3.2.2.1) (.cons (eqv_d (st.sub _ _ ((((gs9.trans gs10).trans gs11).trans gs12) _ _ f10)) (st.sub _ _ ((((((((((((gs1.trans gs2).trans gs3).trans gs4).trans gs5).trans gs6).trans gs7).trans gs8).trans gs9).trans gs10).trans gs11).trans gs12) _ _ f_secondx_1)) hg3.2.2.2) .nil))))⟩, _, rfl, ?_⟩
              refine iteF ?_
              refine ⟨_, rfl, ?_⟩
              refine ⟨_, _, _, _, rfl, rfl, (SqT.of (st.sub _ _ (gs12 _ _ f12))), rfl, ?_⟩
              refine ⟨_, rfl, ?_⟩
              refine ⟨_, rfl, ?_⟩
              refine ⟨_, _, rfl, rfl, ?_⟩
              obtain ⟨hg4, hb1⟩ := gd_some hb1
              refine ⟨_, _, rfl, DPut.k (k := Sum.inl (7 + turn_1)) (st.at 1 rfl) (szl (by rw [encD_len]; exact hg4)), ?_⟩
              have st := st.putE 1 rfl (dk_put r5.1 (7 + turn_1) 7)
              refine ⟨_, rfl, ?_⟩
              refine ⟨_, _, _, _, rfl, rfl, (SqT.of (st.sub _ _ (gs12 _ _ f12))), rfl, ?_⟩
              refine ⟨.inl ⟨rfl, _, (SqL.of (st.at 0 rfl))⟩, ?_⟩
              obtain ⟨hg5, hb1⟩ := gd_some hb1
              refine ⟨_, _, _, rfl, rfl, st.at 0 rfl, szl (by rw [List.length_map]; exact hg5), ?_⟩
              have st := st.putE 0 rfl (lst_snoc (f := V.int) r5.2 7)
              have st := st.rm 0 rfl
              have st := st.rm 0 rfl
              obtain rfl := Option.some.inj hb1
              exact ⟨_, rfl, _, _, _, _, rfl, st, ((gs10.trans gs11).trans gs12)⟩
    · rintro s3 σ' H' rfl ⟨y4, y5, y6, G13, rfl, st, gs13⟩
      replace h := el_nx h
      obtain rfl := Option.some.inj h
      exact q _ _ (((((((((gs1.trans gs2).trans gs3).trans gs4).trans gs5).trans gs6).trans gs7).trans gs8).trans gs9).trans gs13) st
theorem ok_law (T : Txt K mg) : FnOk P w K mg base CX0 4 T.f_law T.fd_law ["_law_script"] (sp_law K) := by
  have G_asked : FnOk P w K mg base CX0 3 T.f_asked T.fd_asked ["_law_base", "_law_open_places", "_law_first", "_law_second", "_law_places_here"] (sp_asked K) := ok_asked T
  have G_book : FnOk P w K mg base CX0 2 T.f_book T.fd_book ["_law_box", "_law_places_here", "_law_top"] (sp_book K) := ok_book T
  have G_choose : FnOk P w K mg base CX0 2 T.f_choose T.fd_choose ["_law_box", "_law_rows", "_law_count"] (sp_choose K) := ok_choose T
  have G_near : FnOk P w K mg base CX0 2 T.f_near T.fd_near ["_law_box", "_law_places_here", "_law_base", "_law_other", "_law_top"] (sp_near K) := ok_near T
  have G_open : FnOk P w K mg base CX0 1 T.f_open T.fd_open ["_law_script", "_law_at"] (sp_open K) := ok_open T
  have G_places : FnOk P w K mg base CX0 2 T.f_places T.fd_places ["_law_box", "_law_count"] (sp_places K) := ok_places T
  have G_take : FnOk P w K mg base CX0 1 T.f_take T.fd_take ["_law_box", "_law_size"] (sp_take K) := ok_take T
  refine T.F_law.ok sc_law (fun vs H Q E h => ?_) (fun cdv A outer s H vs Q E hr h => ?_)
  · obtain ⟨G, Fr, a_script_1, script_1, r, rfl, _⟩ := h
    rfl
  · obtain ⟨G, Fr, a_script_1, script_1, r, rfl, st, f_script_1, h, q⟩ := h
    have hu := hu_of hr
    unfold m_law at h
    refine ⟨_, (pss_cons (ps_set (i := 1) sc_law.nd rfl (Or.inl rfl) (pe_call G_open (hr.mono (by omega)) (by rfl) T.g_open T.F_open.kp T.b_open .nil pass0 (pa_cons (pv 0) (pa_cons pe_int pa_nil))))
      (pss_cons (ps_set (i := 2) sc_law.nd rfl (Or.inl rfl) (pe_call G_take (hr.mono (by omega)) (by rfl) T.g_take T.F_take.kp T.b_take .nil pass0 (pa_cons (pv 1) (pa_cons pe_int pa_nil))))
      (C8.pss_cut (ps_if (pt_cmpR op_eq (pv 2) pe_int (nomark _))
      (pss_one (ps_set (i := 2) sc_law.nd rfl (Or.inl rfl) pe_int))
      pss_nil)
      (pss_cons (ps_set (i := 3) sc_law.nd rfl (Or.inl rfl) (pe_call G_places (hr.mono (by omega)) (by rfl) T.g_places T.F_places.kp T.b_places .nil pass0 (pa_cons (pv 1) (pa_cons (pv 2) pa_nil))))
      (pss_cons (ps_set (i := 4) sc_law.nd rfl (Or.inl rfl) (pe_ix (r := rIxL K) ix_list (pe_lst (pa_cons pe_int (pa_cons pe_int (pa_cons pe_int (pa_cons pe_int (pa_cons pe_int pa_nil)))))) (pe_call G_take (hr.mono (by omega)) (by rfl) T.g_take T.F_take.kp T.b_take .nil pass0 (pa_cons (pv 1) (pa_cons pe_int pa_nil))) (fun _ _ => rfl)))
      (C8.pss_cut (ps_if (PW.pt (pw_and (pt_cmpR op_eq (pe_call G_take (hr.mono (by omega)) (by rfl) T.g_take T.F_take.kp T.b_take .nil pass0 (pa_cons (pv 1) (pa_cons pe_int pa_nil))) pe_int (nomark _)) (pw_and1 (pt_cmpR op_gt (pv 2) pe_int (nomark _)))))
      (pss_cons (ps_set (i := 5) sc_law.nd rfl (Or.inr rfl) (pe_op op_sub pe_int (pe_ix (r := rIxL K) ix_list (pv 3) (pe_op op_sub (pv 2) pe_int) (fun _ _ => rfl))))
        (pss_one (ps_setLc (i := 3) (own := [("_law_place", 12)]) (g := gName 12) (tt := tYes) rfl sc_law.nd rfl rfl (sw_true rfl rfl rfl (by decide +kernel)) (pi_list (pv 3)) (blkOk_by (own := [("_law_place", 12)]) (N := N_law) (sc := defScope s_law) (by decide +kernel)) (fun _ _ _ _ _ => (pg_name (i := 12) sc_law.nd rfl (Or.inl rfl))) (fun _ _ _ _ _ => pts_nil) (fun _ _ _ _ _ => (pe_op op_add (pv 12) (pv 5))))))
      pss_nil)
      (pss_cons (ps_set (i := 6) sc_law.nd rfl (Or.inl rfl) pe_int)
      (C8.pss_cut (ps_if (pt_cmpR op_gt (pv 2) pe_int (nomark _))
      (pss_one (ps_set (i := 6) sc_law.nd rfl (Or.inl rfl) (pe_op op_add (pe_ix (r := rIxL K) ix_list (pv 3) (pe_op op_sub (pv 2) pe_int) (fun _ _ => rfl)) pe_int)))
      pss_nil)
      (pss_cons (ps_set (i := 7) sc_law.nd rfl (Or.inl rfl) (pe_call G_book (hr.mono (by omega)) (by rfl) T.g_book T.F_book.kp T.b_book .nil pass0 (pa_cons (pv 1) (pa_cons (pv 3) (pa_cons (pv 4) pa_nil)))))
      (pss_cons (ps_set (i := 8) sc_law.nd rfl (Or.inl rfl) (pe_call G_near (hr.mono (by omega)) (by rfl) T.g_near T.F_near.kp T.b_near .nil pass0 (pa_cons (pe_call G_open (hr.mono (by omega)) (by rfl) T.g_open T.F_open.kp T.b_open .nil pass0 (pa_cons (pv 0) (pa_cons pe_int pa_nil))) (pa_cons (pv 3) (pa_cons (pv 7) (pa_cons (pv 7) (pa_cons (pv 4) pa_nil)))))))
      (pss_cons (ps_set (i := 9) sc_law.nd rfl (Or.inl rfl) (pe_call G_near (hr.mono (by omega)) (by rfl) T.g_near T.F_near.kp T.b_near .nil pass0 (pa_cons (pe_call G_open (hr.mono (by omega)) (by rfl) T.g_open T.F_open.kp T.b_open .nil pass0 (pa_cons (pv 0) (pa_cons pe_int pa_nil))) (pa_cons (pv 3) (pa_cons (pv 7) (pa_cons (pv 8) (pa_cons (pv 4) pa_nil)))))))
      (pss_cons (ps_set (i := 10) sc_law.nd rfl (Or.inl rfl) (pe_call G_open (hr.mono (by omega)) (by rfl) T.g_open T.F_open.kp T.b_open .nil pass0 (pa_cons (pv 0) (pa_cons pe_int pa_nil))))
      (pss_cons (ps_set (i := 11) sc_law.nd rfl (Or.inl rfl) (pe_call G_choose (hr.mono (by omega)) (by rfl) T.g_choose T.F_choose.kp T.b_choose .nil pass0 (pa_cons (pv 10) (pa_cons (pe_op op_cat (pv 3) (pe_lst (pa_cons (pv 6) pa_nil))) (pa_cons (pe_call G_take (hr.mono (by omega)) (by rfl) T.g_take T.F_take.kp T.b_take .nil pass0 (pa_cons (pv 10) (pa_cons (pe_op op_add (pv 2) pe_int) pa_nil))) pa_nil)))))
      (C8.pss_cut (ps_if (pt_cmpR op_eq (pe_call G_take (hr.mono (by omega)) (by rfl) T.g_take T.F_take.kp T.b_take .nil pass0 (pa_cons (pv 10) (pa_cons pe_int pa_nil))) pe_int (nomark _))
      (pss_one (ps_set (i := 11) sc_law.nd rfl (Or.inl rfl) (pe_op op_cat (pv 11) (pe_slice (r := rSlL K) sl_list (pv 11) po_none (po_some pe_int)))))
      pss_nil)
      (pss_cons (ps_if (pt_not (pt_val (pe_call G_asked (hr.mono (by omega)) (by rfl) T.g_asked T.F_asked.kp T.b_asked .nil pass0 (pa_cons (pv 7) (pa_cons (pv 11) (pa_cons (pv 8) (pa_cons (pv 9) (pa_cons (pv 3) pa_nil))))))))
      (pss_one (ps_ret pe_bl))
      pss_nil)
      (pss_cons (ps_if (pt_not (pt_val (pe_call G_asked (hr.mono (by omega)) (by rfl) T.g_asked T.F_asked.kp T.b_asked .nil pass0 (pa_cons (pv 7) (pa_cons (pe_lst pa_nil) (pa_cons (pv 8) (pa_cons (pv 9) (pa_cons (pv 3) pa_nil))))))))
      (pss_one (ps_ret pe_bl))
      pss_nil)
      (pss_cons (ps_if (pt_not (pt_val (pe_call G_asked (hr.mono (by omega)) (by rfl) T.g_asked T.F_asked.kp T.b_asked .nil pass0 (pa_cons (pv 7) (pa_cons (pv 11) (pa_cons (pv 9) (pa_cons (pv 8) (pa_cons (pv 3) pa_nil))))))))
      (pss_one (ps_ret pe_bl))
      pss_nil)
      (pss_one (ps_ret (pe_call G_asked (hr.mono (by omega)) (by rfl) T.g_asked T.F_asked.kp T.b_asked .nil pass0 (pa_cons (pv 7) (pa_cons (pv 11) (pa_cons (pv 8) (pa_cons (pv 9) (pa_cons (pv 3) pa_nil))))))))))))))))))))))))), ?_⟩
    refine ⟨_, rfl, ?_⟩
    obtain ⟨r1, e1, h⟩ := bs h
    refine ⟨_, _, _, script_1, 0, _, rfl, st, f_script_1, e1, fun H1 G1 p1 gs1 st => ?_⟩
    refine ⟨_, rfl, ?_⟩
    obtain ⟨r2, e2, h⟩ := bs h
    have st := st.front 0 rfl
    refine ⟨_, _, _, r1, 10, _, rfl, st, e2, fun H2 G2 gs2 st => ?_⟩
    obtain ⟨w1, hw1, h⟩ := bs h
    refine ⟨fun σ' H' => ∃ (G3 : Hp) , σ' = [some (.ref a_script_1), some (.ref p1), some (.int w1), none, none, none, none, none, none, none, none, none, none] ∧ St H' G3 ((p1, .lst [.int r2.2.1, .int r2.2.2.1, .int r2.2.2.2]) :: Fr) ∧ Same G2 G3, ?_, ?_⟩
    · refine ⟨_, rfl, ?_⟩
      refine ⟨rfl, _, rfl, ?_⟩
      refine ite2 (fun hc1 => ?_) (fun hc1 => ?_)
      · rw [dEq] at hc1
        have hc1 : r2.1 = 9 := of_decide_eq_true hc1
        rw [if_pos hc1] at hw1
        obtain rfl := Option.some.inj hw1
        exact ⟨_, rfl, st, Same.refl _⟩
      · rw [dEq] at hc1
        have hc1 : ¬ (r2.1 = 9) := ndec hc1
        rw [if_neg hc1] at hw1
        obtain rfl := Option.some.inj hw1
        exact ⟨_, rfl, st, Same.refl _⟩
    · rintro σ' H' ⟨G3, rfl, st, gs3⟩
      refine ⟨_, rfl, ?_⟩
      refine ⟨_, rfl, ?_⟩
      obtain ⟨r3, e3, h⟩ := bs h
      have st := st.front 0 rfl
      refine ⟨_, _, _, r2.2, w1, _, rfl, st, e3, fun H3 G4 p2 gs4 st f1 => ?_⟩
      refine ⟨sz (by show 5 ≤ _; omega), fun p3 hp3 => ?_⟩
      obtain ⟨G5, st, gs5, f2⟩ := st.newFE (o := .lst [.int 1, .int 2, .int 3, .int 4, .int 9999]) (o' := .lst (([1, 2, 3, 4, 9999] : List Int).map V.int)) hp3 rfl
      refine ⟨_, rfl, ?_⟩
      obtain ⟨r4, e4, h⟩ := bs h
      have st := st.front 0 rfl
      refine ⟨_, _, _, r3.2, 5, _, rfl, st, e4, fun H4 G6 gs6 st => ?_⟩
      obtain ⟨x1, e5, h⟩ := bs h
      refine ⟨_, _, _, _, rfl, rfl, (SqL.of (st.sub _ _ (gs6 _ _ f2))), (by rw [atI_map, e5]; rfl), ?_⟩
      obtain ⟨w2, hw2, h⟩ := bs h
      refine ⟨fun σ' H' => ∃ (y1 : Option V) (G7 : Hp) (p4 : Addr), σ' = [some (.ref a_script_1), some (.ref p1), some (.int w1), some (.ref p4), some (.int x1), y1, none, none, none, none, none, none, none] ∧ St H' G7 ((p1, .lst [.int w2.2.1, .int w2.2.2.1, .int w2.2.2.2]) :: Fr) ∧ Same G6 G7 ∧ G7 p4 = some (.lst (w2.1.map V.int)), ?_, ?_⟩
      · refine ⟨_, rfl, ?_⟩
        obtain ⟨r5, e6, hw2⟩ := bs hw2
        have st := st.front 0 rfl
        refine ⟨_, _, _, r4.2, 4, _, rfl, st, e6, fun H5 G8 gs8 st => ?_⟩
        refine ⟨rfl, _, rfl, ?_⟩
        refine ite2 (fun hc2 => ?_) (fun hc2 => ?_)
        · rw [dEq] at hc2
          have hc2 : r5.1 = 0 := of_decide_eq_true hc2
          rw [if_pos hc2] at hw2
          refine ⟨_, rfl, ?_⟩
          refine ⟨_, _, rfl, rfl, _, rfl, ?_⟩
          refine ite2 (fun hc3 => ?_) (fun hc3 => ?_)
          · have hc3 : w1 > 0 := of_decide_eq_true hc3
            rw [if_pos hc3] at hw2
            refine ⟨_, rfl, ?_⟩
            refine ⟨_, rfl, ?_⟩
            refine ⟨_, _, rfl, rfl, ?_⟩
            obtain ⟨x2, e7, hw2⟩ := bs hw2
            refine ⟨_, _, _, _, rfl, rfl, (SqL.of (st.sub _ _ (((gs5.trans gs6).trans gs8) _ _ f1))), (by rw [atI_map, e7]; rfl), ?_⟩
            refine ⟨_, _, rfl, rfl, ?_⟩
            refine ⟨_, rfl, ?_⟩
            refine ⟨_, rfl, ⟨_, (SqL.of (st.sub _ _ (((gs5.trans gs6).trans gs8) _ _ f1)))⟩, ?_⟩
            obtain ⟨hg1, hw2⟩ := gd_some hw2
            refine lc_map (xs := r3.1) (walk_list (xs := r3.1.map V.int)) (List.length_map _) (fun (place_1 : Int) => (place_1 + (254 - x2))) V.int (fun (place_1 : Int) (x : V) => x = .int place_1) flat_y (fun D acc hD => Same.seq (Same.new hD) (SqL.of (st.sub _ _ (((gs5.trans gs6).trans gs8) _ _ f1)))) ?_ (sz (Nat.le_of_lt hg1)) ?_ (fun p5 hp5 => ?_)
            · exact fun _ => rfl
            · intro D acc1 place_1 x hD hm hx
              obtain rfl := hx
              have st := st.newM (o := .lst acc1) hD
              exact (fun Q q => ⟨_, rfl, ⟨_, rfl, ⟨_, _, rfl, rfl, q⟩⟩⟩)
            obtain ⟨G9, st, gs9, f4⟩ := st.newFE (o := .lst ((r3.1.map (fun (place_1 : Int) => (place_1 + (254 - x2)))).map V.int)) (o' := .lst ((r3.1.map (fun (place_1 : Int) => (place_1 + (254 - x2)))).map V.int)) hp5 rfl
            obtain rfl := Option.some.inj hw2
            exact ⟨_, _, _, rfl, st, (gs8.trans gs9), f4⟩
          · have hc3 : ¬ (w1 > 0) := ndec hc3
            rw [if_neg hc3] at hw2
            obtain rfl := Option.some.inj hw2
            exact ⟨_, _, _, rfl, st, gs8, (((gs5.trans gs6).trans gs8) _ _ f1)⟩
        · rw [dEq] at hc2
          have hc2 : ¬ (r5.1 = 0) := ndec hc2
          rw [if_neg hc2] at hw2
          refine iteF ?_
          obtain rfl := Option.some.inj hw2
          exact ⟨_, _, _, rfl, st, gs8, (((gs5.trans gs6).trans gs8) _ _ f1)⟩
      · rintro σ' H' ⟨y1, G7, p4, rfl, st, gs7, f3⟩
        obtain ⟨w3, hw3, h⟩ := bs h
        refine ⟨fun σ' H' => ∃ (G10 : Hp) , σ' = [some (.ref a_script_1), some (.ref p1), some (.int w1), some (.ref p4), some (.int x1), y1, some (.int w3), none, none, none, none, none, none] ∧ St H' G10 ((p1, .lst [.int w2.2.1, .int w2.2.2.1, .int w2.2.2.2]) :: Fr) ∧ Same G7 G10, ?_, ?_⟩
        · refine ⟨_, rfl, ?_⟩
          refine ⟨_, _, rfl, rfl, _, rfl, ?_⟩
          refine ite2 (fun hc4 => ?_) (fun hc4 => ?_)
          · have hc4 : w1 > 0 := of_decide_eq_true hc4
            rw [if_pos hc4] at hw3
            refine ⟨_, rfl, ?_⟩
            refine ⟨_, rfl, ?_⟩
            refine ⟨_, _, rfl, rfl, ?_⟩
            obtain ⟨x3, e8, hw3⟩ := bs hw3
            refine ⟨_, _, _, _, rfl, rfl, (SqL.of (st.sub _ _ f3)), (by rw [atI_map, e8]; rfl), ?_⟩
            refine ⟨_, _, rfl, rfl, ?_⟩
            obtain rfl := Option.some.inj hw3
            exact ⟨_, rfl, st, Same.refl _⟩
          · have hc4 : ¬ (w1 > 0) := ndec hc4
            rw [if_neg hc4] at hw3
            obtain rfl := Option.some.inj hw3
            exact ⟨_, rfl, st, Same.refl _⟩
        · rintro σ' H' ⟨G10, rfl, st, gs10⟩
          refine ⟨_, rfl, ?_⟩
          refine ⟨_, rfl, ?_⟩
          refine ⟨_, rfl, ?_⟩
          obtain ⟨r6, e9, h⟩ := bs h
          have st := st.front 0 rfl
          refine ⟨_, _, _, w2.2, _, w2.1, x1, _, rfl, st, (gs10 _ _ f3), e9, fun H6 G11 p6 gs11 st f5 => ?_⟩
          refine ⟨_, rfl, ?_⟩
          obtain ⟨r7, e10, h⟩ := bs h
          refine ⟨_, _, _, script_1, 1, _, rfl, st, (Same.seq ((((((((gs1.trans gs2).trans gs3).trans gs4).trans gs5).trans gs6).trans gs7).trans gs10).trans gs11) f_script_1), e10, fun H7 G12 p7 gs12 st => ?_⟩
          refine ⟨_, rfl, ?_⟩
          refine ⟨_, rfl, ?_⟩
          refine ⟨_, rfl, ?_⟩
          refine ⟨_, rfl, ?_⟩
          obtain ⟨r8, e11, h⟩ := bs h
          have st := st.front 0 rfl
          refine ⟨_, _, _, r7, _, w2.1, _, r6.1, _, r6.1, x1, _, rfl, st, (((gs10.trans gs11).trans gs12) _ _ f3), (gs12 _ _ f5), (gs12 _ _ f5), e11, fun H8 G13 p8 gs13 st f6 => ?_⟩
          refine ⟨_, rfl, ?_⟩
          obtain ⟨r9, e12, h⟩ := bs h
          refine ⟨_, _, _, script_1, 2, _, rfl, st, (Same.seq ((((((((((gs1.trans gs2).trans gs3).trans gs4).trans gs5).trans gs6).trans gs7).trans gs10).trans gs11).trans gs12).trans gs13) f_script_1), e12, fun H9 G14 p9 gs14 st => ?_⟩
          refine ⟨_, rfl, ?_⟩
          refine ⟨_, rfl, ?_⟩
          refine ⟨_, rfl, ?_⟩
          refine ⟨_, rfl, ?_⟩
          obtain ⟨r10, e13, h⟩ := bs h
          have st := st.front 0 rfl
          refine ⟨_, _, _, r9, _, w2.1, _, r6.1, _, r8.1, x1, _, rfl, st, (((((gs10.trans gs11).trans gs12).trans gs13).trans gs14) _ _ f3), (((gs12.trans gs13).trans gs14) _ _ f5), (gs14 _ _ f6), e13, fun H10 G15 p10 gs15 st f7 => ?_⟩
          refine ⟨_, rfl, ?_⟩
          obtain ⟨r11, e14, h⟩ := bs h
          refine ⟨_, _, _, script_1, 3, _, rfl, st, (Same.seq ((((((((((((gs1.trans gs2).trans gs3).trans gs4).trans gs5).trans gs6).trans gs7).trans gs10).trans gs11).trans gs12).trans gs13).trans gs14).trans gs15) f_script_1), e14, fun H11 G16 p11 gs16 st => ?_⟩
          refine ⟨_, rfl, ?_⟩
          refine ⟨_, rfl, ?_⟩
          refine ⟨_, rfl, ?_⟩
          refine ⟨sz (by show 1 ≤ _; omega), fun p12 hp12 => ?_⟩
          obtain ⟨G17, st, gs17, f8⟩ := st.newFE (o := .lst [.int w3]) (o' := .lst (([w3] : List Int).map V.int)) hp12 rfl
          obtain ⟨hg2, h⟩ := gd_some h
          refine ⟨_, _, _, _, rfl, rfl, (st.sub _ _ ((((((((gs10.trans gs11).trans gs12).trans gs13).trans gs14).trans gs15).trans gs16).trans gs17) _ _ f3)), (st.sub _ _ f8), sz (by rw [List.length_map, List.length_map]; omega), fun p13 hp13 => ?_⟩
          obtain ⟨G18, st, gs18, f9⟩ := st.newFE (o := .lst (w2.1.map V.int ++ ([w3] : List Int).map V.int)) (o' := .lst ((w2.1 ++ ([w3] : List Int)).map V.int)) hp13 lst_app
          refine ⟨_, rfl, ?_⟩
          refine ⟨_, rfl, ?_⟩
          refine ⟨_, _, rfl, rfl, ?_⟩
          obtain ⟨r12, e15, h⟩ := bs h
          have st := st.front 0 rfl
          refine ⟨_, _, _, r11, (w1 + 2), _, rfl, st, e15, fun H12 G19 gs19 st => ?_⟩
          obtain ⟨r13, e16, h⟩ := bs h
          have st := st.front 0 rfl
          refine ⟨_, _, _, r12.2, _, (w2.1 ++ ([w3] : List Int)), r12.1, _, rfl, st, (gs19 _ _ f9), e16, fun H13 G20 p14 gs20 st f10 => ?_⟩
          obtain ⟨w4, hw4, h⟩ := bs h
          refine ⟨fun σ' H' => ∃ (G21 : Hp) (p15 : Addr), σ' = [some (.ref a_script_1), some (.ref p1), some (.int w1), some (.ref p4), some (.int x1), y1, some (.int w3), some (.ref p6), some (.ref p8), some (.ref p10), some (.ref p11), some (.ref p15), none] ∧ St H' G21 ((p11, .lst [.int w4.2.1, .int w4.2.2.1, .int w4.2.2.2]) :: (p9, .lst [.int r10.2.1, .int r10.2.2.1, .int r10.2.2.2]) :: (p7, .lst [.int r8.2.1, .int r8.2.2.1, .int r8.2.2.2]) :: (p1, .lst [.int r6.2.1, .int r6.2.2.1, .int r6.2.2.2]) :: Fr) ∧ Same G20 G21 ∧ G21 p15 = some (.lst (w4.1.map V.int)), ?_, ?_⟩
          · refine ⟨_, rfl, ?_⟩
            obtain ⟨r14, e17, hw4⟩ := bs hw4
            have st := st.front 0 rfl
            refine ⟨_, _, _, r13.2, 2, _, rfl, st, e17, fun H14 G22 gs22 st => ?_⟩
            refine ⟨rfl, _, rfl, ?_⟩
            refine ite2 (fun hc5 => ?_) (fun hc5 => ?_)
            · rw [dEq] at hc5
              have hc5 : r14.1 = 1 := of_decide_eq_true hc5
              rw [if_pos hc5] at hw4
              refine ⟨_, rfl, ?_⟩
              refine ⟨_, rfl, ?_⟩
              refine ⟨_, rfl, ?_⟩
              refine ⟨_, _, rfl, (SqL.of (st.sub _ _ (gs22 _ _ f10))), fun p16 hp16 => ?_⟩
              obtain ⟨G23, st, gs23, f12⟩ := st.newFE (o := .lst (cutV (r13.1.map V.int) none (some 2))) (o' := .lst ((cutA r13.1 none (some 2)).map V.int)) hp16 (lst_cut _ _ _)
              obtain ⟨hg3, hw4⟩ := gd_some hw4
              refine ⟨_, _, _, _, rfl, rfl, (st.sub _ _ ((gs22.trans gs23) _ _ f10)), (st.sub _ _ f12), sz (by rw [List.length_map, List.length_map]; omega), fun p17 hp17 => ?_⟩
              obtain ⟨G24, st, gs24, f13⟩ := st.newFE (o := .lst (r13.1.map V.int ++ (cutA r13.1 none (some 2)).map V.int)) (o' := .lst ((r13.1 ++ (cutA r13.1 none (some 2))).map V.int)) hp17 lst_app
              obtain rfl := Option.some.inj hw4
              exact ⟨_, _, rfl, st, ((gs22.trans gs23).trans gs24), f13⟩
            · rw [dEq] at hc5
              have hc5 : ¬ (r14.1 = 1) := ndec hc5
              rw [if_neg hc5] at hw4
              obtain rfl := Option.some.inj hw4
              exact ⟨_, _, rfl, st, gs22, (gs22 _ _ f10)⟩
          · rintro σ' H' ⟨G21, p15, rfl, st, gs21, f11⟩
            refine ⟨_, rfl, ?_⟩
            refine ⟨_, rfl, ?_⟩
            refine ⟨_, rfl, ?_⟩
            refine ⟨_, rfl, ?_⟩
            refine ⟨_, rfl, ?_⟩
            obtain ⟨r15, e18, h⟩ := bs h
            refine ⟨_, _, _, r6.1, _, w4.1, _, r8.1, _, r10.1, _, w2.1, _, rfl, st, ((((((((((gs12.trans gs13).trans gs14).trans gs15).trans gs16).trans gs17).trans gs18).trans gs19).trans gs20).trans gs21) _ _ f5), f11, ((((((((gs14.trans gs15).trans gs16).trans gs17).trans gs18).trans gs19).trans gs20).trans gs21) _ _ f6), ((((((gs16.trans gs17).trans gs18).trans gs19).trans gs20).trans gs21) _ _ f7), ((((((((((((gs10.trans gs11).trans gs12).trans gs13).trans gs14).trans gs15).trans gs16).trans gs17).trans gs18).trans gs19).trans gs20).trans gs21) _ _ f3), e18, fun H15 G25 gs25 st => ?_⟩
            refine ⟨_, rfl, ?_⟩
            refine ite2 (fun hc6 => ?_) (fun hc6 => ?_)
            · have hc6 : ¬ (r15 = true) := by simpa using hc6
              rw [if_pos hc6] at h
              obtain rfl := Option.some.inj h
              have st := st.rm 0 rfl
              have st := st.rm 0 rfl
              have st := st.rm 0 rfl
              have st := st.rm 0 rfl
              exact q _ _ (((((((((((((((((((gs1.trans gs2).trans gs3).trans gs4).trans gs5).trans gs6).trans gs7).trans gs10).trans gs11).trans gs12).trans gs13).trans gs14).trans gs15).trans gs16).trans gs17).trans gs18).trans gs19).trans gs20).trans gs21).trans gs25) st
            · have hc6 : ¬ (¬ (r15 = true)) := by simpa using hc6
              rw [if_neg hc6] at h
              refine ⟨_, rfl, ?_⟩
              refine ⟨Nat.zero_le _, fun p18 hp18 => ?_⟩
              obtain ⟨G26, st, gs26, f14⟩ := st.newFE (o := .lst []) (o' := .lst ([].map V.int)) hp18 rfl
              refine ⟨_, rfl, ?_⟩
              refine ⟨_, rfl, ?_⟩
              refine ⟨_, rfl, ?_⟩
              obtain ⟨r16, e19, h⟩ := bs h
              refine ⟨_, _, _, r6.1, _, [], _, r8.1, _, r10.1, _, w2.1, _, rfl, st, ((((((((((((gs12.trans gs13).trans gs14).trans gs15).trans gs16).trans gs17).trans gs18).trans gs19).trans gs20).trans gs21).trans gs25).trans gs26) _ _ f5), f14, ((((((((((gs14.trans gs15).trans gs16).trans gs17).trans gs18).trans gs19).trans gs20).trans gs21).trans gs25).trans gs26) _ _ f6), ((((((((gs16.trans gs17).trans gs18).trans gs19).trans gs20).trans gs21).trans gs25).trans gs26) _ _ f7), ((((((((((((((gs10.trans gs11).trans gs12).trans gs13).trans gs14).trans gs15).trans gs16).trans gs17).trans gs18).trans gs19).trans gs20).trans gs21).trans gs25).trans gs26) _ _ f3), e19, fun H16 G27 gs27 st => ?_⟩
              refine ⟨_, rfl, ?_⟩
              refine ite2 (fun hc7 => ?_) (fun hc7 => ?_)
              · have hc7 : ¬ (r16 = true) := by simpa using hc7
                rw [if_pos hc7] at h
                obtain rfl := Option.some.inj h
                have st := st.rm 0 rfl
                have st := st.rm 0 rfl
                have st := st.rm 0 rfl
                have st := st.rm 0 rfl
                exact q _ _ (((((((((((((((((((((gs1.trans gs2).trans gs3).trans gs4).trans gs5).trans gs6).trans gs7).trans gs10).trans gs11).trans gs12).trans gs13).trans gs14).trans gs15).trans gs16).trans gs17).trans gs18).trans gs19).trans gs20).trans gs21).trans gs25).trans gs26).trans gs27) st
              · have hc7 : ¬ (¬ (r16 = true)) := by simpa using hc7
                rw [if_neg hc7] at h
                refine ⟨_, rfl, ?_⟩
                refine ⟨_, rfl, ?_⟩
                refine ⟨_, rfl, ?_⟩
                refine ⟨_, rfl, ?_⟩
                refine ⟨_, rfl, ?_⟩
                obtain ⟨r17, e20, h⟩ := bs h
                refine ⟨_, _, _, r6.1, _, w4.1, _, r10.1, _, r8.1, _, w2.1, _, rfl, st, (((((((((((((gs12.trans gs13).trans gs14).trans gs15).trans gs16).trans gs17).trans gs18).trans gs19).trans gs20).trans gs21).trans gs25).trans gs26).trans gs27) _ _ f5), (((gs25.trans gs26).trans gs27) _ _ f11), (((((((((gs16.trans gs17).trans gs18).trans gs19).trans gs20).trans gs21).trans gs25).trans gs26).trans gs27) _ _ f7), (((((((((((gs14.trans gs15).trans gs16).trans gs17).trans gs18).trans gs19).trans gs20).trans gs21).trans gs25).trans gs26).trans gs27) _ _ f6), (((((((((((((((gs10.trans gs11).trans gs12).trans gs13).trans gs14).trans gs15).trans gs16).trans gs17).trans gs18).trans gs19).trans gs20).trans gs21).trans gs25).trans gs26).trans gs27) _ _ f3), e20, fun H17 G28 gs28 st => ?_⟩
                refine ⟨_, rfl, ?_⟩
                refine ite2 (fun hc8 => ?_) (fun hc8 => ?_)
                · have hc8 : ¬ (r17 = true) := by simpa using hc8
                  rw [if_pos hc8] at h
                  obtain rfl := Option.some.inj h
                  have st := st.rm 0 rfl
                  have st := st.rm 0 rfl
                  have st := st.rm 0 rfl
                  have st := st.rm 0 rfl
                  exact q _ _ ((((((((((((((((((((((gs1.trans gs2).trans gs3).trans gs4).trans gs5).trans gs6).trans gs7).trans gs10).trans gs11).trans gs12).trans gs13).trans gs14).trans gs15).trans gs16).trans gs17).trans gs18).trans gs19).trans gs20).trans gs21).trans gs25).trans gs26).trans gs27).trans gs28) st
                · have hc8 : ¬ (¬ (r17 = true)) := by simpa using hc8
                  rw [if_neg hc8] at h
                  refine ⟨_, rfl, ?_⟩
                  refine ⟨_, rfl, ?_⟩
                  refine ⟨_, rfl, ?_⟩
                  refine ⟨_, rfl, ?_⟩
                  refine ⟨_, rfl, ?_⟩
                  obtain ⟨r18, e21, h⟩ := bs h
                  refine ⟨_, _, _, r6.1, _, w4.1, _, r8.1, _, r10.1, _, w2.1, _, rfl, st, ((((((((((((((gs12.trans gs13).trans gs14).trans gs15).trans gs16).trans gs17).trans gs18).trans gs19).trans gs20).trans gs21).trans gs25).trans gs26).trans gs27).trans gs28) _ _ f5), ((((gs25.trans gs26).trans gs27).trans gs28) _ _ f11), ((((((((((((gs14.trans gs15).trans gs16).trans gs17).trans gs18).trans gs19).trans gs20).trans gs21).trans gs25).trans gs26).trans gs27).trans gs28) _ _ f6), ((((((((((gs16.trans gs17).trans gs18).trans gs19).trans gs20).trans gs21).trans gs25).trans gs26).trans gs27).trans gs28) _ _ f7), ((((((((((((((((gs10.trans gs11).trans gs12).trans gs13).trans gs14).trans gs15).trans gs16).trans gs17).trans gs18).trans gs19).trans gs20).trans gs21).trans gs25).trans gs26).trans gs27).trans gs28) _ _ f3), e21, fun H18 G29 gs29 st => ?_⟩
                  obtain rfl := Option.some.inj h
                  have st := st.rm 0 rfl
                  have st := st.rm 0 rfl
                  have st := st.rm 0 rfl
                  have st := st.rm 0 rfl
                  exact q _ _ (((((((((((((((((((((((gs1.trans gs2).trans gs3).trans gs4).trans gs5).trans gs6).trans gs7).trans gs10).trans gs11).trans gs12).trans gs13).trans gs14).trans gs15).trans gs16).trans gs17).trans gs18).trans gs19).trans gs20).trans gs21).trans gs25).trans gs26).trans gs27).trans gs28).trans gs29) st
end
/-! ### the law's draws, by mirrors -/
theorem t_take (b : Int × Int × Int) {n : Int} (h0 : 0 < n) (h1 : n < 1073741824) : Ok (m_take b n) (fun r => 0 ≤ r.1 ∧ r.1 < n) := by
  unfold m_take
  refine .ite (fun _ => .gd h0 (.gd ⟨h0, h1⟩ (.some ⟨Int.emod_nonneg _ (by omega), Int.emod_lt_of_pos _ h0⟩))) fun _ => .gd h0 (.some ⟨Int.emod_nonneg _ (by omega), Int.emod_lt_of_pos _ h0⟩)
theorem t_open (ns : List Int) {i : Int} (h0 : 0 ≤ i) : Ok (m_open ns i) (fun _ => True) := by
  unfold m_open
  refine Ok.bind (P := fun _ => True) ?_ fun x _ => .ite (fun _ => .some trivial) fun _ => .some trivial
  refine .ite (fun h => ?_) fun _ => .some trivial
  exact (atI_in h0 h).bind fun x _ => .some trivial
theorem asc_snoc {xs : List Int} {x : Int} (h : Asc xs) (hx : ∀ k ∈ xs, k < x) : Asc (xs ++ [x]) := List.pairwise_append.mpr ⟨h, List.pairwise_singleton _ _, fun a ha b hb => by rw [List.mem_singleton.mp hb]; exact hx a ha⟩
theorem t_places (b : Int × Int × Int) {n : Int} (h0 : 0 ≤ n) (h1 : n ≤ 1000) : Ok (m_places b n) (fun r => Asc r.1 ∧ (r.1.length : Int) = n ∧ ∀ k ∈ r.1, 0 ≤ k ∧ k ≤ 1 + 11 * n) := by
  unfold m_places
  refine (t_take b (n := 3) (by decide) (by decide)).bind fun r hr => .gd ⟨by omega, by omega⟩ ?_
  refine Ok.bind (P := fun s => Asc s.2.2 ∧ (s.2.2.length : Int) = n ∧ ∀ k ∈ s.2.2, 0 ≤ k ∧ k ≤ 1 + 11 * n) ?_ fun s hs => .some hs
  refine (Ok.forN (fun pre s => Asc s.2.2 ∧ s.2.2.length = pre.length ∧ -1 ≤ s.1 ∧ s.1 ≤ 1 + 11 * (pre.length : Int) ∧ ∀ k ∈ s.2.2, 0 ≤ k ∧ k ≤ s.1) ⟨by exact List.Pairwise.nil, by rfl, by dsimp only; omega, by dsimp only; simp; omega, fun k hk => by cases hk⟩ ?_).mono ?_
  · intro pre a rest s e ⟨i1, i2, i3, i4, i5⟩
    have hl := (rng_pre e).2
    refine (t_take s.2.1 (n := 2) (by decide) (by decide)).bind fun r2 h2 => ?_
    refine Ok.bind (P := fun w => 1 ≤ w.1 ∧ w.1 ≤ 11) ?_ fun w hw => .gd (by omega) (.some ⟨asc_snoc i1 fun k hk => ?_, ?_, ?_, ?_, fun k hk => ?_⟩)
    · refine (t_take r2.2 (n := 6) (by decide) (by decide)).bind fun r3 h3 => .ite (fun _ => .some ⟨?_, ?_⟩) fun _ => .some ⟨?_, ?_⟩
      all_goals (dsimp only; omega)
    · have := i5 k hk; omega
    · show (s.2.2 ++ [_]).length = _
      rw [List.length_append, List.length_append, i2]
      rfl
    · show -1 ≤ s.1 + w.1
      omega
    · show s.1 + w.1 ≤ _
      rw [List.length_append]
      show s.1 + w.1 ≤ 1 + 11 * ((pre.length + 1 : Nat) : Int)
      omega
    · show 0 ≤ k ∧ k ≤ s.1 + w.1
      rcases List.mem_append.mp hk with h | h
      · have := i5 k h; omega
      · rw [List.mem_singleton.mp h]; omega
  · intro s ⟨i1, i2, i3, i4, i5⟩
    rw [← rng_len] at i2 i4
    exact ⟨i1, by omega, fun k hk => by have := i5 k hk; omega⟩
theorem t_choose (b : Int × Int × Int) (rows : List Int) (c : Int) (hl : rows.length ≤ 1000) (hc : -1000 ≤ c) : Ok (m_choose b rows c) (fun r => (∃ rest, rows.Perm (r.1 ++ rest)) ∧ r.1.length = min c.toNat rows.length) := by
  unfold m_choose
  have e0 : (if (rows.length : Int) < c then (rows.length : Int) else c).toNat = min c.toNat rows.length := by split <;> omega
  refine .gd ⟨by split <;> omega, by split <;> omega⟩ ?_
  refine Ok.bind (P := fun s => (∃ rest, rows.Perm (s.2.2 ++ rest)) ∧ s.2.2.length = min c.toNat rows.length) ?_ fun s hs => .some hs
  rw [e0]
  refine (Ok.forN (fun pre s => rows.Perm (s.2.2 ++ s.1) ∧ s.2.2.length = pre.length) ⟨List.Perm.refl _, rfl⟩ ?_).mono ?_
  · intro pre a rest s e ⟨i1, i2⟩
    have hlt := (rng_pre e).2
    have hz := i1.length_eq
    rw [List.length_append] at hz
    refine (t_take s.2.1 (n := (s.1.length : Int)) (by omega) (by omega)).bind fun r hr => ?_
    refine (atI_in hr.1 hr.2).bind fun x hx => ?_
    obtain ⟨k, hk⟩ := Int.eq_ofNat_of_zero_le hr.1
    rw [hk] at hr hx ⊢
    have e1 := cutA_lo s.1 k (by omega)
    have e2 : cutA s.1 (some ((k : Int) + 1)) none = s.1.drop (k + 1) := cutA_hi s.1 (k + 1) (by omega)
    have e3 : s.1 = s.1.take k ++ x :: s.1.drop (k + 1) := by
      have hx2 : s.1[k]? = some x := hx.2
      obtain ⟨hl2, ex⟩ := List.getElem?_eq_some_iff.mp hx2
      rw [← ex, List.getElem_cons_drop, List.take_append_drop]
    refine .gd (by omega) (.gd ?_ (.some ⟨?_, ?_⟩))
    · rw [e1, e2, List.length_take, List.length_drop]
      omega
    · show rows.Perm ((s.2.2 ++ [x]) ++ (cutA s.1 none (some (k : Int)) ++ cutA s.1 (some ((k : Int) + 1)) none))
      rw [e1, e2, List.append_assoc]
      refine i1.trans (List.Perm.append_left _ ?_)
      conv => lhs; rw [e3]
      exact List.perm_middle
    · show (s.2.2 ++ [x]).length = _
      rw [List.length_append, List.length_append, i2]
      rfl
  · intro s ⟨i1, i2⟩
    rw [← rng_len] at i2
    exact ⟨⟨_, i1⟩, i2⟩
theorem t_book (b : Int × Int × Int) {P : List Int} (hP : Asc P) (hl : P.length ≤ 1000) {t : Int} (h0 : 0 ≤ t) (h1 : t ≤ 10000) : Ok (m_book b P t) (fun r => ∃ v, r.1 = mkB P v) := by
  unfold m_book
  refine Ok.bind (P := fun (s : List (Int × Int) × (Int × Int × Int)) => ∃ v, s.1 = mkB P v) ?_ fun s hs => .some hs
  refine Ok.forN (fun pre (s : List (Int × Int) × (Int × Int × Int)) => ∃ v, s.1 = mkB pre v) ⟨fun _ => 0, rfl⟩ ?_
  intro pre a rest s e ⟨v, hv⟩
  have na := asc_pre hP e
  have hl2 : pre.length < P.length := by rw [e, List.length_append]; simp
  refine (t_take s.2 (n := t + 2) (by omega) (by omega)).bind fun r hr => ?_
  have := mkB_len pre v
  exact .ite (fun h => .gd (by rw [hv]; omega) (.some ⟨_, by rw [hv]; exact mkB_fill na h⟩)) fun h => .some ⟨_, by rw [hv]; exact mkB_skip na h⟩
theorem t_near (b : Int × Int × Int) {P : List Int} (hP : Asc P) (hl : P.length ≤ 1000) (base other : List (Int × Int)) {t : Int} (h0 : 0 ≤ t) (h1 : t ≤ 10000) : Ok (m_near b P base other t) (fun r => ∃ v, r.1 = mkB P v) := by
  unfold m_near
  refine Ok.bind (P := fun (s : List (Int × Int) × (Int × Int × Int)) => ∃ v, s.1 = mkB P v) ?_ fun s hs => .some hs
  refine Ok.forN (fun pre (s : List (Int × Int) × (Int × Int × Int)) => ∃ v, s.1 = mkB pre v) ⟨fun _ => 0, rfl⟩ ?_
  intro pre a rest s e ⟨v, hv⟩
  have na := asc_pre hP e
  have hl2 : pre.length < P.length := by rw [e, List.length_append]; simp
  refine (t_take s.2 (n := 7) (by decide) (by decide)).bind fun r hr => ?_
  refine Ok.bind (P := fun _ => True) ?_ fun w1 _ => ?_
  · exact .ite (fun _ => (t_take r.2 (n := t + 1) (by omega) (by omega)).bind fun _ _ => .some trivial) fun _ => .some trivial
  refine Ok.bind (P := fun _ => True) (.ite (fun _ => .some trivial) fun _ => .some trivial) fun w2 _ => ?_
  refine Ok.bind (P := fun _ => True) (.ite (fun _ => .some trivial) fun _ => .some trivial) fun w3 _ => ?_
  have := mkB_len pre v
  refine .ite (fun h => .gd (by rw [hv]; omega) (.some ⟨_, by rw [hv]; exact mkB_fill na h⟩)) fun h => .some ⟨_, by rw [hv]; exact mkB_skip na h⟩
theorem t_written {P : List Int} (hP : Asc P) (hl : P.length ≤ 1000) (v : Int → Int) : m_written (mkB P v) [] = some (mkB P v) := by
  refine Ok.eq ?_
  unfold m_written
  have hk := keys_mkB P v
  have hz := mkB_len P v
  have e1 : ((keys ([] : List (Int × Int))).filter (fun q => decide (¬ q ∈ keys (mkB P v)))).map (fun q : Int => q) = [] := rfl
  rw [e1, List.append_nil]
  have ha : Asc (keys (mkB P v)) := by rw [hk]; exact asc_filter hP _
  have e2 : isort ((keys (mkB P v)).map fun p : Int => p) = keys (mkB P v) := by
    rw [List.map_id' (keys (mkB P v))]
    exact isort_id (asc_le ha)
  rw [e2]
  refine .gd (by decide) (.gd (by rw [keys_len]; simp; omega) (.gd (by rw [keys_len]; omega) ?_))
  refine Ok.bind (P := fun s => s = mkB P v) ?_ fun s hs => .some hs
  refine (Ok.forN (fun pre s => s = mkB pre v) rfl ?_).mono fun s hs => ?_
  · intro pre a rest s e hs
    have na := asc_pre ha e
    have hl2 : pre.length < (keys (mkB P v)).length := by rw [e, List.length_append]; simp
    rw [keys_len] at hl2
    have ma : a ∈ keys (mkB P v) := by rw [e]; simp
    rw [hk] at ma
    have ma2 := List.mem_filter.mp ma
    have pa : v a > 0 := by simpa using ma2.2
    refine Ok.bind (P := fun w => w = v a) ?_ fun w hw => ?_
    · refine .ite (fun h => absurd h (by simp [keys])) fun _ => .some ?_
      rw [dgD_mkB]
      exact if_pos ⟨ma2.1, pa⟩
    · subst hw
      have := mkB_len pre v
      refine .ite (fun h => .gd (by rw [hs]; omega) (.some (by rw [hs]; exact mkB_put na h))) fun h => absurd pa h
  · rw [hs, hk]
    unfold mkB
    rw [List.filter_filter]
    congr 1
    exact List.filter_congr fun p _ => by simp
theorem t_is_book (m : List (Int × Int)) : m_is_book m = some true := by
  refine Ok.eq ?_
  unfold m_is_book
  refine (Ok.forU fun a _ => ⟨_, rfl, rfl⟩).bind fun fl h => ?_
  subst h
  exact .some rfl
theorem t_ints (m : List Int) : m_ints m = some true := by
  refine Ok.eq ?_
  unfold m_ints
  refine (Ok.forU fun a _ => ⟨_, rfl, rfl⟩).bind fun fl h => ?_
  subst h
  exact .some rfl
/-- what is due at a place: the value, or a clash -/
def clash (o : List Int) (b f s : Int → Int) (p : Int) : Prop := f p ≠ s p ∧ (p ∈ o ∨ (f p ≠ b p ∧ s p ≠ b p))
instance {o : List Int} {b f s : Int → Int} {p : Int} : Decidable (clash o b f s p) := by unfold clash; infer_instance
def due (o : List Int) (b f s : Int → Int) (p : Int) : Int := if clash o b f s p then -1 else if f p = s p then f p else if f p = b p then s p else f p
theorem due_clash {o : List Int} {b f s : Int → Int} {p : Int} (hf : 0 ≤ f p) (hs : 0 ≤ s p) : due o b f s p < 0 ↔ clash o b f s p := by
  unfold due
  constructor
  · intro h
    by_cases c : clash o b f s p
    · exact c
    · rw [if_neg c] at h
      split at h
      · omega
      · split at h <;> omega
  · intro h
    rw [if_pos h]
    omega
theorem t_merged (o : List Int) {P : List Int} (hP : Asc P) (hl : P.length ≤ 1000) (b f s : List (Int × Int)) (hf : ∀ p, 0 ≤ dgD f p 0) (hs : ∀ p, 0 ≤ dgD s p 0) :
    m_merged b o f s P = some (mkB P (due o (fun p => dgD b p 0) (fun p => dgD f p 0) (fun p => dgD s p 0)), P.filter fun p => decide (clash o (fun p => dgD b p 0) (fun p => dgD f p 0) (fun p => dgD s p 0) p)) := by
  generalize hv : due o (fun p => dgD b p 0) (fun p => dgD f p 0) (fun p => dgD s p 0) = v
  refine Ok.eq ?_
  unfold m_merged
  refine Ok.bind (P := fun r => r = _) ?_ fun r hr => .some hr
  refine Ok.forN (fun pre r => r = (mkB pre v, pre.filter fun p => decide (clash o (fun p => dgD b p 0) (fun p => dgD f p 0) (fun p => dgD s p 0) p))) rfl ?_
  intro pre a rest r e hr
  have na := asc_pre hP e
  have hl2 : pre.length < P.length := by rw [e, List.length_append]; simp
  have dc := due_clash (o := o) (b := fun p => dgD b p 0) (f := fun p => dgD f p 0) (s := fun p => dgD s p 0) (p := a) (hf a) (hs a)
  rw [hv] at dc
  refine Ok.bind (P := fun w => w = v a) ?_ fun w hw => ?_
  · rw [← hv]
    unfold due
    refine .ite (fun h => .some ?_) fun h => .ite (fun h2 => .some ?_) fun h2 => .ite (fun h3 => .some ?_) fun h3 => .some ?_
    · have c : clash o (fun p => dgD b p 0) (fun p => dgD f p 0) (fun p => dgD s p 0) a := ⟨h.1, .inl h.2⟩
      rw [if_pos c]
    · have n : a ∉ o := fun z => h ⟨h2.1, z⟩
      have c : ¬ clash o (fun p => dgD b p 0) (fun p => dgD f p 0) (fun p => dgD s p 0) a := fun z => z.2.elim n fun z => z.1 h2.2
      rw [if_neg c]
      dsimp only
      rw [if_neg h2.1, if_pos h2.2]
    · have n : ¬ dgD f a 0 = dgD b a 0 := fun z => h2 ⟨h3.1, z⟩
      have c : clash o (fun p => dgD b p 0) (fun p => dgD f p 0) (fun p => dgD s p 0) a := ⟨h3.1, .inr ⟨n, h3.2⟩⟩
      rw [if_pos c]
    · by_cases d : dgD f a 0 = dgD s a 0
      · have c : ¬ clash o (fun p => dgD b p 0) (fun p => dgD f p 0) (fun p => dgD s p 0) a := fun z => z.1 d
        rw [if_neg c]
        dsimp only
        rw [if_pos d]
      · have n1 : a ∉ o := fun z => h ⟨d, z⟩
        have n2 : ¬ dgD f a 0 = dgD b a 0 := fun z => h2 ⟨d, z⟩
        have n3 : dgD s a 0 = dgD b a 0 := Decidable.of_not_not fun z => h3 ⟨d, z⟩
        have c : ¬ clash o (fun p => dgD b p 0) (fun p => dgD f p 0) (fun p => dgD s p 0) a := fun z => z.2.elim n1 fun z => z.2 n3
        rw [if_neg c]
        dsimp only
        rw [if_neg d, if_neg n2]
  subst hw
  have l1 := mkB_len pre v
  have l2 := List.length_filter_le (fun p => decide (clash o (fun p => dgD b p 0) (fun p => dgD f p 0) (fun p => dgD s p 0) p)) pre
  refine Ok.bind (P := fun w2 => w2 = (pre ++ [a]).filter fun p => decide (clash o (fun p => dgD b p 0) (fun p => dgD f p 0) (fun p => dgD s p 0) p)) ?_ fun w2 hw2 => ?_
  · refine .ite (fun h => .gd (by rw [hr]; dsimp only; omega) (.some ?_)) fun h => .some ?_
    · rw [hr, List.filter_append, List.filter_cons_of_pos (by simpa using dc.mp h)]
      rfl
    · rw [hr, List.filter_append, List.filter_cons_of_neg (by simpa using fun z => h (dc.mpr z))]
      simp
  · refine .ite (fun h => .gd (by rw [hr]; dsimp only; omega) (.some ?_)) fun h => .some ?_
    · rw [hr, hw2, mkB_put na h]
    · rw [hr, hw2, mkB_snoc_neg h]
/-- a book over P given by values; what it holds at a place is at least 0, and 0 off P -/
theorem gv_off {P : List Int} {v : Int → Int} {p : Int} (h : p ∉ P) : gv P v p = 0 := if_neg fun z => h z.1
theorem gv_pos {P : List Int} {v : Int → Int} {p : Int} : 0 < gv P v p ↔ p ∈ P ∧ v p > 0 := by
  unfold gv
  split
  · rename_i h
    exact ⟨fun _ => h, fun _ => h.2⟩
  · rename_i h
    exact ⟨fun z => by omega, fun z => absurd z h⟩
theorem mem_mkB {P : List Int} {v : Int → Int} {p : Int} : p ∈ keys (mkB P v) ↔ 0 < gv P v p := by
  rw [keys_mkB, List.mem_filter, decide_eq_true_iff, gv_pos]
theorem mkB_filter {P : List Int} {v : Int → Int} (q : Int → Bool) (h : ∀ p ∈ P, v p > 0 → q p = true) : mkB (P.filter q) v = mkB P v := by
  unfold mkB
  rw [List.filter_filter]
  congr 1
  refine List.filter_congr fun p hp => ?_
  by_cases c : v p > 0
  · simp [c, h p hp c]
  · simp [c]
theorem t_value_merge (o : List Int) {P : List Int} (hP : Asc P) (hl : P.length ≤ 14) (vb vf vs : Int → Int) :
    m_value_merge (mkB P vb) o (mkB P vf) (mkB P vs) = some (mkB P (due o (gv P vb) (gv P vf) (gv P vs)), P.filter fun p => decide (clash o (gv P vb) (gv P vf) (gv P vs) p)) := by
  refine Ok.eq ?_
  unfold m_value_merge
  have kn : ∀ v, (keys (mkB P v)).Nodup := fun v => mkB_nodup hP
  have kl : ∀ v, (mkB P v).length ≤ P.length := mkB_len P
  have ks : ∀ v, ∀ k ∈ keys (mkB P v), k ∈ P := fun v k hk => by rw [keys_mkB] at hk; exact (List.mem_filter.mp hk).1
  have us : ∀ v, ∀ k ∈ usort (keys (mkB P v)), k ∈ P := fun v k hk => ks v k (mem_usort.mp hk)
  have u2 : ∀ k ∈ usort (keys (mkB P vb)) ++ usort (keys (mkB P vf)), k ∈ P := fun k hk => (List.mem_append.mp hk).elim (us vb k) (us vf k)
  have u3 : ∀ k ∈ usort (usort (keys (mkB P vb)) ++ usort (keys (mkB P vf))) ++ usort (keys (mkB P vs)), k ∈ P := fun k hk => (List.mem_append.mp hk).elim (fun h => u2 k (mem_usort.mp h)) (us vs k)
  have l1 := fun v => usort_le hP (ks v)
  have l2 := usort_le hP u2
  have l3 := usort_le hP u3
  have := kl vb; have := kl vf; have := kl vs; have := l1 vb; have := l1 vf; have := l1 vs
  refine .gd ⟨kn vb, by omega⟩ (.gd ⟨kn vf, by omega⟩ (.gd (by omega) (.gd ⟨kn vs, by omega⟩ (.gd (by omega) (.gd (by omega) ?_)))))
  generalize hU : usort (usort (usort (keys (mkB P vb)) ++ usort (keys (mkB P vf))) ++ usort (keys (mkB P vs))) = U at l3 ⊢
  have uA : Asc U := by rw [← hU]; exact usort_asc _
  have uM : ∀ p, p ∈ U ↔ 0 < gv P vb p ∨ 0 < gv P vf p ∨ 0 < gv P vs p := fun p => by
    rw [← hU, mem_usort, List.mem_append, mem_usort, List.mem_append, mem_usort, mem_usort, mem_usort, mem_mkB, mem_mkB, mem_mkB, or_assoc]
  have uE : U = P.filter fun p => decide (p ∈ U) := by
    refine asc_ext uA (asc_filter hP _) fun p => ?_
    rw [List.mem_filter, decide_eq_true_iff]
    exact ⟨fun h => ⟨by rw [← hU] at h; exact u3 p (mem_usort.mp h), h⟩, fun h => h.2⟩
  generalize hB : gv P vb = B at uM ⊢
  generalize hF : gv P vf = F at uM ⊢
  generalize hS : gv P vs = S at uM ⊢
  have vB : ∀ p, m_value_at (mkB P vb) p = B p := fun p => by rw [← hB]; exact dgD_mkB P vb p
  have vF : ∀ p, m_value_at (mkB P vf) p = F p := fun p => by rw [← hF]; exact dgD_mkB P vf p
  have vS : ∀ p, m_value_at (mkB P vs) p = S p := fun p => by rw [← hS]; exact dgD_mkB P vs p
  have nF : ∀ p, 0 ≤ F p := fun p => by rw [← hF]; exact gv_nn P vf p
  have nS : ∀ p, 0 ≤ S p := fun p => by rw [← hS]; exact gv_nn P vs p
  have nB : ∀ p, 0 ≤ B p := fun p => by rw [← hB]; exact gv_nn P vb p
  -- the loop: what does not clash, with its value; what clashes
  refine Ok.bind (P := fun s => s.1 = U.filter (fun p => decide (clash o B F S p)) ∧ s.2 = (U.filter fun p => decide (¬ clash o B F S p)).map fun p => (p, due o B F S p)) ?_ fun s hs => ?_
  · refine Ok.forN (fun pre (s : List Int × List (Int × Int)) => s.1 = pre.filter (fun p => decide (clash o B F S p)) ∧ s.2 = (pre.filter fun p => decide (¬ clash o B F S p)).map fun p => (p, due o B F S p)) ⟨rfl, rfl⟩ ?_
    intro pre a rest s e ⟨h1, h2⟩
    have na := asc_pre uA e
    have hl2 : pre.length < U.length := by rw [e, List.length_append]; simp
    rw [vB, vF, vS]
    have z1 : s.1.length ≤ pre.length := by rw [h1]; exact List.length_filter_le _ _
    have z2 : s.2.length ≤ pre.length := by rw [h2, List.length_map]; exact List.length_filter_le _ _
    have nk : a ∉ keys s.2 := fun z => by
      rw [h2] at z
      obtain ⟨kv, q1, q2⟩ := List.mem_map.mp z
      obtain ⟨k, q3, rfl⟩ := List.mem_map.mp q1
      exact na (q2 ▸ (List.mem_filter.mp q3).1)
    have keep : ∀ x, ¬ clash o B F S a → due o B F S a = x → s.1 = (pre ++ [a]).filter (fun p => decide (clash o B F S p)) ∧ dput s.2 a x = ((pre ++ [a]).filter fun p => decide (¬ clash o B F S p)).map fun p => (p, due o B F S p) := fun x c d => by
      rw [List.filter_append, List.filter_append, List.filter_cons_of_neg (by simpa using c), List.filter_cons_of_pos (by simpa using c), dput_new nk, h1, h2, List.map_append, List.map_cons, d]
      simp
    refine .gd (by show 3 < 100000; omega) (.ite (fun h => .gd (by omega) (.some (keep _ ?_ ?_))) fun h => .ite (fun h' => .gd (by omega) (.some (keep _ ?_ ?_))) fun h' => .gd (by omega) (.some ?_))
    · rintro ⟨c1, c2⟩
      rcases h with h | ⟨h3, h4⟩
      · exact c1 h
      · rcases c2 with c2 | c2
        · exact h3 c2
        · exact c2.2 h4
    · have c : ¬ clash o B F S a := by
        rintro ⟨c1, c2⟩
        rcases h with h | ⟨h3, h4⟩
        · exact c1 h
        · rcases c2 with c2 | c2
          · exact h3 c2
          · exact c2.2 h4
      unfold due
      rw [if_neg c]
      by_cases d : F a = S a
      · rw [if_pos d]
      · rw [if_neg d]
        rcases h with h | ⟨h3, h4⟩
        · exact absurd h d
        · rw [if_neg (fun z => d (z.trans h4.symm))]
    · rintro ⟨c1, c2⟩
      rcases c2 with c2 | c2
      · exact h'.1 c2
      · exact c2.1 h'.2
    · have c : ¬ clash o B F S a := by
        rintro ⟨c1, c2⟩
        rcases c2 with c2 | c2
        · exact h'.1 c2
        · exact c2.1 h'.2
      unfold due
      rw [if_neg c, if_neg (fun z => h (.inl z)), if_pos h'.2]
    · have c : clash o B F S a := by
        refine ⟨fun z => h (.inl z), ?_⟩
        by_cases d : a ∈ o
        · exact .inl d
        · exact .inr ⟨fun z => h' ⟨d, z⟩, fun z => h (.inr ⟨d, z⟩)⟩
      dsimp only
      rw [List.filter_append, List.filter_append, List.filter_cons_of_pos (by simpa using c), List.filter_cons_of_neg (by simpa using c), h1, h2]
      simp
  obtain ⟨h1, h2⟩ := hs
  have dl := fun p => due_clash (o := o) (b := B) (f := F) (s := S) (p := p)
  -- the last book
  have kE : keys s.2 = U.filter fun p => decide (¬ clash o B F S p) := by
    rw [h2]
    unfold keys
    rw [List.map_map]
    exact List.map_id' _
  have aK : Asc (keys s.2) := by rw [kE]; exact asc_filter uA _
  have gE : ∀ p ∈ keys s.2, dgD s.2 p 0 = due o B F S p := fun p hp => by
    have h3 : ∀ Q : List Int, p ∈ Q → dget (Q.map fun p => (p, due o B F S p)) p = some (due o B F S p) := by
      intro Q
      induction Q with
      | nil => intro h; cases h
      | cons q Q ih =>
        intro h
        rw [List.map_cons, dget_cons]
        by_cases c : q = p
        · rw [if_pos c, c]
        · rw [if_neg c]
          rcases List.mem_cons.mp h with h | h
          · exact absurd h.symm c
          · exact ih h
    rw [kE] at hp
    unfold dgD
    rw [h2, h3 _ hp]
    rfl
  have bE : ((keys s.2).filter fun p => decide (dgD s.2 p 0 > 0)).map (fun p => (p, dgD s.2 p 0)) = mkB P (due o B F S) := by
    have e1 : (keys s.2).filter (fun p => decide (dgD s.2 p 0 > 0)) = (keys s.2).filter fun p => decide (due o B F S p > 0) := List.filter_congr fun p hp => by rw [gE p hp]
    have e2 : ((keys s.2).filter fun p => decide (due o B F S p > 0)).map (fun p => (p, dgD s.2 p 0)) = mkB (keys s.2) (due o B F S) := by
      unfold mkB
      exact List.map_congr_left fun p hp => by rw [gE p (List.mem_filter.mp hp).1]
    rw [e1, e2, kE, uE, List.filter_filter]
    refine mkB_filter _ fun p hp c => ?_
    rw [Bool.and_eq_true, decide_eq_true_iff, decide_eq_true_iff]
    refine ⟨fun z => ?_, (uM p).mpr ?_⟩
    · have := (dl p (nF p) (nS p)).mpr z
      omega
    · unfold due at c
      split at c
      · omega
      · split at c
        · exact .inr (.inl c)
        · split at c
          · exact .inr (.inr c)
          · exact .inr (.inl c)
  have z2 : (keys s.2).length ≤ U.length := by rw [kE]; exact List.length_filter_le _ _
  refine .gd ⟨by omega, ?_⟩ (.some ?_)
  · rw [bE]
    exact mkB_nodup hP
  · rw [bE, h1, uE, List.filter_filter]
    congr 1
    refine List.filter_congr fun p hp => ?_
    by_cases c : clash o B F S p
    · have : p ∈ U := (uM p).mpr (by
        have := nF p
        have := nS p
        have := c.1
        by_cases d : 0 < F p
        · exact .inr (.inl d)
        · exact .inr (.inr (by omega)))
      simp [c, this]
    · simp [c]
theorem t_asked (o : List Int) {P : List Int} (hP : Asc P) (hl : P.length ≤ 14) (vb vf vs : Int → Int) : m_asked (mkB P vb) o (mkB P vf) (mkB P vs) P = some true := by
  refine Ok.eq ?_
  unfold m_asked
  have hl' : P.length ≤ 1000 := by omega
  rw [t_merged o hP hl' (mkB P vb) (mkB P vf) (mkB P vs) (fun p => by rw [dgD_mkB]; exact gv_nn _ _ _) (fun p => by rw [dgD_mkB]; exact gv_nn _ _ _), t_written hP hl' vb, t_written hP hl' vf, t_written hP hl' vs]
  have e : ∀ v, (fun p => dgD (mkB P v) p 0) = gv P v := fun v => funext fun p => dgD_mkB P v p
  rw [e, e, e]
  refine Ok.seq (Ok.seq (Ok.seq (Ok.seq (Ok.gd ⟨by decide, by decide⟩ ?_))))
  refine (Ok.forU fun a _ => ?_).bind fun fl h => ?_
  · rw [t_value_merge o hP hl]
    refine Ok.seq (Ok.ite (fun h => absurd rfl h) fun _ => ?_)
    dsimp only
    rw [t_is_book]
    refine Ok.seq (Ok.ite (fun h => absurd rfl h) fun _ => Ok.gd (deq_refl (mkB_nodup hP)) ?_)
    rw [t_ints]
    refine Ok.seq (Ok.ite (fun h => absurd rfl h) fun _ => Ok.ite (fun h => absurd rfl h) fun _ => ?_)
    have := mkB_len P (due o (gv P vb) (gv P vf) (gv P vs))
    have := List.length_filter_le (fun p => decide (clash o (gv P vb) (gv P vf) (gv P vs) p)) P
    exact .gd ⟨deq_refl (mkB_nodup hP), rfl, deq_refl (mkB_nodup hP), deq_refl (mkB_nodup hP)⟩ (.gd (by omega) (.gd (by omega) ⟨_, rfl, rfl⟩))
  · subst h
    exact .some rfl
theorem asc_shift {P : List Int} (h : Asc P) (z : Int) : Asc (P.map fun p => p + z) := List.pairwise_map.mpr (List.Pairwise.imp (fun h => by omega) h)
theorem law_true (ns : List Int) (hn : ns.length ≤ 63) : m_law ns = some true := by
  refine Ok.eq ?_
  unfold m_law
  refine (t_open ns (i := 0) (by decide)).bind fun r1 _ => (t_take r1 (n := 10) (by decide) (by decide)).bind fun r2 h2 => ?_
  refine Ok.bind (P := fun w => 0 ≤ w ∧ w ≤ 14) (.ite (fun _ => .some (by decide)) fun _ => .some (by omega)) fun w1 hw1 => ?_
  refine (t_places r2.2 (n := w1) hw1.1 (by omega)).bind fun r3 h3 => ?_
  obtain ⟨h3a, h3b, h3c⟩ := h3
  refine (t_take r3.2 (n := 5) (by decide) (by decide)).bind fun r4 h4 => ?_
  refine (atI_in (xs := ([1, 2, 3, 4, 9999] : List Int)) h4.1 h4.2).bind fun x1 hx1 => ?_
  have hx : 0 ≤ x1 ∧ x1 ≤ 10000 := by
    have := hx1.1
    simp only [List.mem_cons, List.not_mem_nil, or_false] at this
    omega
  refine Ok.bind (P := fun w => Asc w.1 ∧ (w.1.length : Int) = w1) ?_ fun w2 hw2 => ?_
  · refine (t_take r4.2 (n := 4) (by decide) (by decide)).bind fun r5 h5 => .ite (fun _ => .ite (fun hp => ?_) fun _ => .some ⟨h3a, h3b⟩) fun _ => .some ⟨h3a, h3b⟩
    exact (atI_in (by omega) (by omega)).bind fun x2 _ => .gd (by omega) (.some ⟨asc_shift h3a _, by dsimp only; rw [List.length_map]; exact h3b⟩)
  obtain ⟨hP, hz⟩ := hw2
  have hl : w2.1.length ≤ 14 := by omega
  refine Ok.bind (P := fun _ => True) (.ite (fun _ => (atI_in (by omega) (by omega)).bind fun _ _ => .some trivial) fun _ => .some trivial) fun w3 _ => ?_
  refine (t_book w2.2 hP (by omega) hx.1 hx.2).bind fun r6 h6 => ?_
  obtain ⟨vb, e6⟩ := h6
  refine (t_open ns (i := 1) (by decide)).bind fun r7 _ => (t_near r7 hP (by omega) r6.1 r6.1 hx.1 hx.2).bind fun r8 h8 => ?_
  obtain ⟨vf, e8⟩ := h8
  refine (t_open ns (i := 2) (by decide)).bind fun r9 _ => (t_near r9 hP (by omega) r6.1 r8.1 hx.1 hx.2).bind fun r10 h10 => ?_
  obtain ⟨vs, e10⟩ := h10
  refine (t_open ns (i := 3) (by decide)).bind fun r11 _ => .gd (by show _ + 1 < 100000; omega) ?_
  refine (t_take r11 (n := w1 + 2) (by omega) (by omega)).bind fun r12 h12 => ?_
  have lz : (w2.1 ++ ([w3] : List Int)).length ≤ 15 := by rw [List.length_append]; show _ + 1 ≤ 15; omega
  refine (t_choose r12.2 (w2.1 ++ ([w3] : List Int)) r12.1 (by omega) (by omega)).bind fun r13 h13 => ?_
  have l13 : r13.1.length ≤ 15 := by rw [h13.2]; omega
  refine Ok.bind (P := fun _ => True) ?_ fun w4 _ => ?_
  · refine (t_take r13.2 (n := 2) (by decide) (by decide)).bind fun r14 _ => .ite (fun _ => .gd ?_ (.some trivial)) fun _ => .some trivial
    have : (cutA r13.1 none (some 2)).length ≤ r13.1.length := by
      unfold cutA
      rw [List.length_take, List.length_drop]
      omega
    omega
  rw [e6, e8, e10, t_asked w4.1 hP hl vb vf vs, t_asked [] hP hl vb vf vs, t_asked w4.1 hP hl vb vs vf]
  exact Ok.seq (Ok.ite (fun h => absurd rfl h) fun _ => Ok.seq (Ok.ite (fun h => absurd rfl h) fun _ => Ok.seq (Ok.ite (fun h => absurd rfl h) fun _ => Ok.seq ⟨_, rfl, rfl⟩)))
theorem all_mk {l : PySem.W.OpenLaw} {w : World} {K : PySem.W.Frag} {h : Heap} {mg : Str → Option Value} {fa f0 f1 f2 f3 f4 f5 f6 f7 f8 f9 f10 f11 f12 f13 : Addr} (X : K.In h) (G : h.Ns mainGlobals mg) (hfa : mg "law" = some (.ref fa))
    {od0 an0 od1 an1 od2 an2 od3 an3 od4 an4 od5 an5 od6 an6 od7 an7 od8 an8 od9 an9 od10 an10 od11 an11 od12 an12 od13 an13 : Option Addr} {sl0 sl1 sl2 sl3 sl4 sl5 sl6 sl7 sl8 sl9 sl10 sl11 sl12 sl13 : Array (Option Value)} {oc0 kV0 dc0 pm0 cd0 ct0 oc1 kV1 dc1 pm1 cd1 ct1 oc2 kV2 dc2 pm2 cd2 ct2 oc3 kV3 dc3 pm3 cd3 ct3 oc4 kV4 dc4 pm4 cd4 ct4 oc5 kV5 dc5 pm5 cd5 ct5 oc6 kV6 dc6 pm6 cd6 ct6 oc7 kV7 dc7 pm7 cd7 ct7 oc8 kV8 dc8 pm8 cd8 ct8 oc9 kV9 dc9 pm9 cd9 ct9 oc10 kV10 dc10 pm10 cd10 ct10 oc11 kV11 dc11 pm11 cd11 ct11 oc12 kV12 dc12 pm12 cd12 ct12 oc13 kV13 dc13 pm13 cd13 ct13 : Value}
    (a0 : PySem.W.nsIn K mainGlobals "value_at" = some (some (.ref f0))) (l0 : K.lookup f0 = some ⟨oc0, od0, .func (PySem.W.fnOf "value_at" "value_at" (defArgs s_value_at) (defBody s_value_at) (defScope s_value_at) .none kV0 dc0 pm0 an0 cd0 ct0), sl0⟩) (c0 : PySem.W.codeIn K cd0 "value_at" = true) (k0 : PySem.W.keepIn K (.ref f0) = true)
    (a1 : PySem.W.nsIn K mainGlobals "value_merge" = some (some (.ref f1))) (l1 : K.lookup f1 = some ⟨oc1, od1, .func (PySem.W.fnOf "value_merge" "value_merge" (defArgs s_value_merge) (defBody s_value_merge) (defScope s_value_merge) .none kV1 dc1 pm1 an1 cd1 ct1), sl1⟩) (c1 : PySem.W.codeIn K cd1 "value_merge" = true) (k1 : PySem.W.keepIn K (.ref f1) = true)
    (a2 : PySem.W.nsIn K mainGlobals "_law_open" = some (some (.ref f2))) (l2 : K.lookup f2 = some ⟨oc2, od2, .func (PySem.W.fnOf "_law_open" "_law_open" (defArgs s_open) (defBody s_open) (defScope s_open) .none kV2 dc2 pm2 an2 cd2 ct2), sl2⟩) (c2 : PySem.W.codeIn K cd2 "_law_open" = true) (k2 : PySem.W.keepIn K (.ref f2) = true)
    (a3 : PySem.W.nsIn K mainGlobals "_law_take" = some (some (.ref f3))) (l3 : K.lookup f3 = some ⟨oc3, od3, .func (PySem.W.fnOf "_law_take" "_law_take" (defArgs s_take) (defBody s_take) (defScope s_take) .none kV3 dc3 pm3 an3 cd3 ct3), sl3⟩) (c3 : PySem.W.codeIn K cd3 "_law_take" = true) (k3 : PySem.W.keepIn K (.ref f3) = true)
    (a4 : PySem.W.nsIn K mainGlobals "_law_choose" = some (some (.ref f4))) (l4 : K.lookup f4 = some ⟨oc4, od4, .func (PySem.W.fnOf "_law_choose" "_law_choose" (defArgs s_choose) (defBody s_choose) (defScope s_choose) .none kV4 dc4 pm4 an4 cd4 ct4), sl4⟩) (c4 : PySem.W.codeIn K cd4 "_law_choose" = true) (k4 : PySem.W.keepIn K (.ref f4) = true)
    (a5 : PySem.W.nsIn K mainGlobals "_law_places" = some (some (.ref f5))) (l5 : K.lookup f5 = some ⟨oc5, od5, .func (PySem.W.fnOf "_law_places" "_law_places" (defArgs s_places) (defBody s_places) (defScope s_places) .none kV5 dc5 pm5 an5 cd5 ct5), sl5⟩) (c5 : PySem.W.codeIn K cd5 "_law_places" = true) (k5 : PySem.W.keepIn K (.ref f5) = true)
    (a6 : PySem.W.nsIn K mainGlobals "_law_book" = some (some (.ref f6))) (l6 : K.lookup f6 = some ⟨oc6, od6, .func (PySem.W.fnOf "_law_book" "_law_book" (defArgs s_book) (defBody s_book) (defScope s_book) .none kV6 dc6 pm6 an6 cd6 ct6), sl6⟩) (c6 : PySem.W.codeIn K cd6 "_law_book" = true) (k6 : PySem.W.keepIn K (.ref f6) = true)
    (a7 : PySem.W.nsIn K mainGlobals "_law_written" = some (some (.ref f7))) (l7 : K.lookup f7 = some ⟨oc7, od7, .func (PySem.W.fnOf "_law_written" "_law_written" (defArgs s_written) (defBody s_written) (defScope s_written) .none kV7 dc7 pm7 an7 cd7 ct7), sl7⟩) (c7 : PySem.W.codeIn K cd7 "_law_written" = true) (k7 : PySem.W.keepIn K (.ref f7) = true)
    (a8 : PySem.W.nsIn K mainGlobals "_law_is_book" = some (some (.ref f8))) (l8 : K.lookup f8 = some ⟨oc8, od8, .func (PySem.W.fnOf "_law_is_book" "_law_is_book" (defArgs s_is_book) (defBody s_is_book) (defScope s_is_book) .none kV8 dc8 pm8 an8 cd8 ct8), sl8⟩) (c8 : PySem.W.codeIn K cd8 "_law_is_book" = true) (k8 : PySem.W.keepIn K (.ref f8) = true)
    (a9 : PySem.W.nsIn K mainGlobals "_law_ints" = some (some (.ref f9))) (l9 : K.lookup f9 = some ⟨oc9, od9, .func (PySem.W.fnOf "_law_ints" "_law_ints" (defArgs s_ints) (defBody s_ints) (defScope s_ints) .none kV9 dc9 pm9 an9 cd9 ct9), sl9⟩) (c9 : PySem.W.codeIn K cd9 "_law_ints" = true) (k9 : PySem.W.keepIn K (.ref f9) = true)
    (a10 : PySem.W.nsIn K mainGlobals "_law_near" = some (some (.ref f10))) (l10 : K.lookup f10 = some ⟨oc10, od10, .func (PySem.W.fnOf "_law_near" "_law_near" (defArgs s_near) (defBody s_near) (defScope s_near) .none kV10 dc10 pm10 an10 cd10 ct10), sl10⟩) (c10 : PySem.W.codeIn K cd10 "_law_near" = true) (k10 : PySem.W.keepIn K (.ref f10) = true)
    (a11 : PySem.W.nsIn K mainGlobals "_law_merged" = some (some (.ref f11))) (l11 : K.lookup f11 = some ⟨oc11, od11, .func (PySem.W.fnOf "_law_merged" "_law_merged" (defArgs s_merged) (defBody s_merged) (defScope s_merged) .none kV11 dc11 pm11 an11 cd11 ct11), sl11⟩) (c11 : PySem.W.codeIn K cd11 "_law_merged" = true) (k11 : PySem.W.keepIn K (.ref f11) = true)
    (a12 : PySem.W.nsIn K mainGlobals "_law_asked" = some (some (.ref f12))) (l12 : K.lookup f12 = some ⟨oc12, od12, .func (PySem.W.fnOf "_law_asked" "_law_asked" (defArgs s_asked) (defBody s_asked) (defScope s_asked) .none kV12 dc12 pm12 an12 cd12 ct12), sl12⟩) (c12 : PySem.W.codeIn K cd12 "_law_asked" = true) (k12 : PySem.W.keepIn K (.ref f12) = true)
    (a13 : PySem.W.nsIn K mainGlobals "law" = some (some (.ref f13))) (l13 : K.lookup f13 = some ⟨oc13, od13, .func (PySem.W.fnOf "law" "law" (defArgs s_law) (defBody s_law) (defScope s_law) .none kV13 dc13 pm13 an13 cd13 ct13), sl13⟩) (c13 : PySem.W.codeIn K cd13 "law" = true) (k13 : PySem.W.keepIn K (.ref f13) = true)
    (z0 : PySem.W.nsIn K mainGlobals "sorted" = some none)
    (z1 : PySem.W.nsIn K mainGlobals "set" = some none)
    (z2 : PySem.W.nsIn K mainGlobals "len" = some none)
    (z3 : PySem.W.nsIn K mainGlobals "int" = some none)
    (z4 : PySem.W.nsIn K mainGlobals "list" = some none)
    (z5 : PySem.W.nsIn K mainGlobals "range" = some none)
    (z6 : PySem.W.nsIn K mainGlobals "min" = some none)
    (z7 : PySem.W.nsIn K mainGlobals "isinstance" = some none)
    (z8 : PySem.W.nsIn K mainGlobals "dict" = some none)
    (z9 : PySem.W.nsIn K mainGlobals "bool" = some none)
    (z10 : PySem.W.nsIn K mainGlobals "tuple" = some none)
    : ∃ fd : FuncData, (∀ (s : Shared) (v : Value), BindsTo s fd ⟨[v], []⟩ [("_law_script", v)]) ∧ ∀ base : Heap, K.In base → base.Ns mainGlobals mg → FnOk l.prog w K mg base CX0 4 fa fd ["_law_script"] (sp_law K) := by
  have e := hfa.symm.trans (PySem.W.mg_of X G a13)
  cases e
  have F0 := fun_mk (st := s_value_at) l0 c0 k0
  have F1 := fun_mk (st := s_value_merge) l1 c1 k1
  have F2 := fun_mk (st := s_open) l2 c2 k2
  have F3 := fun_mk (st := s_take) l3 c3 k3
  have F4 := fun_mk (st := s_choose) l4 c4 k4
  have F5 := fun_mk (st := s_places) l5 c5 k5
  have F6 := fun_mk (st := s_book) l6 c6 k6
  have F7 := fun_mk (st := s_written) l7 c7 k7
  have F8 := fun_mk (st := s_is_book) l8 c8 k8
  have F9 := fun_mk (st := s_ints) l9 c9 k9
  have F10 := fun_mk (st := s_near) l10 c10 k10
  have F11 := fun_mk (st := s_merged) l11 c11 k11
  have F12 := fun_mk (st := s_asked) l12 c12 k12
  have F13 := fun_mk (st := s_law) l13 c13 k13
  let T : Txt K mg := ⟨_, _, F0, (F0.binds (ps := ["book", "place"]) fun _ _ _ _ _ _ us hl => match us, hl with | [_, _], _ => rfl), PySem.W.mg_of X G a0,
    _, _, F1, (F1.binds (ps := ["base", "open_places", "first", "second"]) fun _ _ _ _ _ _ us hl => match us, hl with | [_, _, _, _], _ => rfl), PySem.W.mg_of X G a1,
    _, _, F2, (F2.binds (ps := ["_law_script", "_law_at"]) fun _ _ _ _ _ _ us hl => match us, hl with | [_, _], _ => rfl), PySem.W.mg_of X G a2,
    _, _, F3, (F3.binds (ps := ["_law_box", "_law_size"]) fun _ _ _ _ _ _ us hl => match us, hl with | [_, _], _ => rfl), PySem.W.mg_of X G a3,
    _, _, F4, (F4.binds (ps := ["_law_box", "_law_rows", "_law_count"]) fun _ _ _ _ _ _ us hl => match us, hl with | [_, _, _], _ => rfl), PySem.W.mg_of X G a4,
    _, _, F5, (F5.binds (ps := ["_law_box", "_law_count"]) fun _ _ _ _ _ _ us hl => match us, hl with | [_, _], _ => rfl), PySem.W.mg_of X G a5,
    _, _, F6, (F6.binds (ps := ["_law_box", "_law_places_here", "_law_top"]) fun _ _ _ _ _ _ us hl => match us, hl with | [_, _, _], _ => rfl), PySem.W.mg_of X G a6,
    _, _, F7, (F7.binds (ps := ["_law_book_here", "_law_writes"]) fun _ _ _ _ _ _ us hl => match us, hl with | [_, _], _ => rfl), PySem.W.mg_of X G a7,
    _, _, F8, (F8.binds (ps := ["_law_told"]) fun _ _ _ _ _ _ us hl => match us, hl with | [_], _ => rfl), PySem.W.mg_of X G a8,
    _, _, F9, (F9.binds (ps := ["_law_told"]) fun _ _ _ _ _ _ us hl => match us, hl with | [_], _ => rfl), PySem.W.mg_of X G a9,
    _, _, F10, (F10.binds (ps := ["_law_box", "_law_places_here", "_law_base", "_law_other", "_law_top"]) fun _ _ _ _ _ _ us hl => match us, hl with | [_, _, _, _, _], _ => rfl), PySem.W.mg_of X G a10,
    _, _, F11, (F11.binds (ps := ["_law_base", "_law_open_places", "_law_first", "_law_second", "_law_places_here"]) fun _ _ _ _ _ _ us hl => match us, hl with | [_, _, _, _, _], _ => rfl), PySem.W.mg_of X G a11,
    _, _, F12, (F12.binds (ps := ["_law_base", "_law_open_places", "_law_first", "_law_second", "_law_places_here"]) fun _ _ _ _ _ _ us hl => match us, hl with | [_, _, _, _, _], _ => rfl), PySem.W.mg_of X G a12,
    _, _, F13, (F13.binds (ps := ["_law_script"]) fun _ _ _ _ _ _ us hl => match us, hl with | [_], _ => rfl), PySem.W.mg_of X G a13,
    PySem.W.mg_none_of X G z0, PySem.W.mg_none_of X G z1, PySem.W.mg_none_of X G z2, PySem.W.mg_none_of X G z3, PySem.W.mg_none_of X G z4, PySem.W.mg_none_of X G z5, PySem.W.mg_none_of X G z6, PySem.W.mg_none_of X G z7, PySem.W.mg_none_of X G z8, PySem.W.mg_none_of X G z9, PySem.W.mg_none_of X G z10⟩
  exact ⟨PySem.W.fnOf "law" "law" (defArgs s_law) (defBody s_law) (defScope s_law) .none kV13 dc13 pm13 an13 cd13 ct13, fun s v => .of_eq rfl, fun base _ _ => ok_law T⟩
end P1
open PySem PySem.W PyProof.Rows in
set_option maxRecDepth 100000 in
set_option maxHeartbeats 0 in
theorem PySem.Challenge.cw_forkedshelves_k27_merged_by_values_holds : PySem.Challenge.rw_forkedshelves_k27_merged_by_values.Holds := by
  w_on; o_law; k_head; (case hw => w_witness2)
  k_fill
  refine L2.walk_of (l := PySem.Challenge.rw_forkedshelves_k27_merged_by_values) (n := 63) (k := 4) (x := "_law_script") (CX := fun _ => L2.CX0) (sp := fun w => P1.sp_law _) rfl (by decide) rfl ⟨rfl, by decide, by decide⟩ (fun w h Y => PySem.W.kIn_of Y) ?F (fun _ H a ns hl _ hS => ⟨H, [], a, ns, true, rfl, P1.St.refl, hS, P1.law_true ns hl, fun _ _ _ _ => rfl⟩) (fun _ _ _ _ _ h => h)
  case F =>
    intro w mg fa h KX G hmg
    refine' P1.all_mk KX G hmg ?a0 ?l0 ?c0 ?k0 ?a1 ?l1 ?c1 ?k1 ?a2 ?l2 ?c2 ?k2 ?a3 ?l3 ?c3 ?k3 ?a4 ?l4 ?c4 ?k4 ?a5 ?l5 ?c5 ?k5 ?a6 ?l6 ?c6 ?k6 ?a7 ?l7 ?c7 ?k7 ?a8 ?l8 ?c8 ?k8 ?a9 ?l9 ?c9 ?k9 ?a10 ?l10 ?c10 ?k10 ?a11 ?l11 ?c11 ?k11 ?a12 ?l12 ?c12 ?k12 ?a13 ?l13 ?c13 ?k13 ?z0 ?z1 ?z2 ?z3 ?z4 ?z5 ?z6 ?z7 ?z8 ?z9 ?z10
    (case a0 => k_is)
    (case l0 => k_is)
    (case c0 => k_is)
    (case k0 => k_is)
    (case a1 => k_is)
    (case l1 => k_is)
    (case c1 => k_is)
    (case k1 => k_is)
    (case a2 => k_is)
    (case l2 => k_is)
    (case c2 => k_is)
    (case k2 => k_is)
    (case a3 => k_is)
    (case l3 => k_is)
    (case c3 => k_is)
    (case k3 => k_is)
    (case a4 => k_is)
    (case l4 => k_is)
    (case c4 => k_is)
    (case k4 => k_is)
    (case a5 => k_is)
    (case l5 => k_is)
    (case c5 => k_is)
    (case k5 => k_is)
    (case a6 => k_is)
    (case l6 => k_is)
    (case c6 => k_is)
    (case k6 => k_is)
    (case a7 => k_is)
    (case l7 => k_is)
    (case c7 => k_is)
    (case k7 => k_is)
    (case a8 => k_is)
    (case l8 => k_is)
    (case c8 => k_is)
    (case k8 => k_is)
    (case a9 => k_is)
    (case l9 => k_is)
    (case c9 => k_is)
    (case k9 => k_is)
    (case a10 => k_is)
    (case l10 => k_is)
    (case c10 => k_is)
    (case k10 => k_is)
    (case a11 => k_is)
    (case l11 => k_is)
    (case c11 => k_is)
    (case k11 => k_is)
    (case a12 => k_is)
    (case l12 => k_is)
    (case c12 => k_is)
    (case k12 => k_is)
    (case a13 => k_is)
    (case l13 => k_is)
    (case c13 => k_is)
    (case k13 => k_is)
    (case z0 => k_is)
    (case z1 => k_is)
    (case z2 => k_is)
    (case z3 => k_is)
    (case z4 => k_is)
    (case z5 => k_is)
    (case z6 => k_is)
    (case z7 => k_is)
    (case z8 => k_is)
    (case z9 => k_is)
    (case z10 => k_is)
